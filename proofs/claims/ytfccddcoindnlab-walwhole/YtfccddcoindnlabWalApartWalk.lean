/-
  WalApart. Conditions: each list is at most 2^47 payloads.
-/
import Derived.Test.YtfccddcoindnlabTw6
import Derived.Test.YtfccddcoindnlabWalBytesWalk

namespace Go.Proofs.Ytfccddcoindnlab
open Go.RowKit
set_option linter.unusedVariables false

section
variable {w0 w : World} {vb wb db : Nat} {S : Nat → Prop} {t u : List Nat} {la lb : Nat} {cv nw cw nv : Int} {x : Option Addr} {cx : Nat} {p : List Nat}
def TvPost (w0 : World) (vb wb db : Nat) (t u : List Nat) (la lb : Nat) (nv cv nw cw : Int) (e : Ending) (w' : World) : Prop :=
  e = .returned (.int .i64 0) ∧ ∃ S', Tw w0 w' vb wb db S' (two t u la lb) nv cv nw cw
theorem tappendV (h : Tw w0 w vb wb db S (two t u la lb) (u.length : Nat) cv nw cw) (hp : LAt w0 x p) (hn : x = none → cx = 0) (h4 : p.length ≤ 4096) (hl : t.length + u.length ≤ 4000000) (hc0 : 0 ≤ cv) (hc1 : cv ≤ 1099511627776) :
    Calls Try.prog 18 #[.pointer (some ⟨vb, 0, none⟩), .slice x p.length cx] w fun e w' => TvPost w0 vb wb db t (u ++ fenc p) la lb ((u ++ fenc p).length : Nat) (cv + 1) nw cw e w' := by
  have hf := fenc_len p
  obtain ⟨q1, q2⟩ := two_apV (t := t) (u := u) (la := la) (lb := lb) (b := fenc p) (by omega)
  refine (wappend_ok h.fv size_V two_findV (by rw [two_rdV]) (hp.later h.below) hn (fun h0 y hy e => by have := h.vbase; have := lat_lt hp h0 hy; omega) h4 hc0 hc1 q1).mono ?_
  rintro e w' ⟨he, S', g⟩
  rw [q2] at g
  have z := h.stepV g
  have e1 : ((u.length : Int) + ((8 + p.length : Nat) : Int)) = (((u ++ fenc p).length : Nat) : Int) := by rw [List.length_append, hf]; omega
  rw [e1] at z
  exact ⟨he, S', z⟩
theorem tappendW (h : Tw w0 w vb wb db S (two t u la lb) nv cv (t.length : Nat) cw) (hp : LAt w0 x p) (hn : x = none → cx = 0) (h4 : p.length ≤ 4096) (hl : t.length + u.length ≤ 4000000) (hc0 : 0 ≤ cw) (hc1 : cw ≤ 1099511627776) :
    Calls Try.prog 18 #[.pointer (some ⟨wb, 0, none⟩), .slice x p.length cx] w fun e w' => TvPost w0 vb wb db (t ++ fenc p) u la lb nv cv ((t ++ fenc p).length : Nat) (cw + 1) e w' := by
  have hf := fenc_len p
  obtain ⟨q1, q2⟩ := two_apW (t := t) (u := u) (la := la) (lb := lb) (b := fenc p) (by omega)
  refine (wappend_ok h.fw size_W two_findW (by rw [two_rdW]) (hp.later h.below) hn (fun h0 y hy e => by have := h.wbase; have := lat_lt hp h0 hy; omega) h4 hc0 hc1 q1).mono ?_
  rintro e w' ⟨he, S', g⟩
  rw [q2] at g
  have z := h.stepW g
  have e1 : ((t.length : Int) + ((8 + p.length : Nat) : Int)) = (((t ++ fenc p).length : Nat) : Int) := by rw [List.length_append, hf]; omega
  rw [e1] at z
  exact ⟨he, S', z⟩
end
theorem paid_clear {S : Nat → Prop} {w1 w2 : World} {v : Value} {ls : List (List Nat)} (h : Paid w1 w2 v ls) (hn : New w1 v) (hs : ∀ k, S k → k < w1.heap.size) : ∃ c cap, v = .slice c ls.length cap ∧ Clear S w2 c ls := by
  obtain ⟨vs, sp⟩ := h
  obtain ⟨c, cap, e1, e2, e3, e4, e5, e6⟩ := sp.own.parts
  rw [sp.len] at e1 e2
  refine ⟨c, cap, e1, fun i hi => ?_⟩
  obtain ⟨g, ha, hg, hc, _⟩ := e6 i (by rw [sp.len]; exact hi)
  obtain ⟨u, u1, u2, u3⟩ := sp.each i hi
  obtain ⟨x, cx, rfl, l, _, _, n, o, _⟩ := u2.parts
  refine ⟨g, 0, x, cx, ha, hg, fun hk => ?_, by rw [Nat.zero_add, hc, u1], l, n, fun hl y hy hk => ?_⟩
  · have := hn g (e5 ⟨g, 0, none⟩ ha)
    have := hs g hk
    omega
  · have := u3 _ (o y hy)
    have := hs _ hk
    omega

/-- What the loop has behind k rounds. -/
def Rounds (w wr : World) (vb wb db : Nat) (S : Nat → Prop) (xs ys : List (List Nat)) (k : Nat) : Prop :=
  Tw w wr vb wb db S (two (frames (ys.take k)) (frames (xs.take k)) 0 0) ((frames (xs.take k)).length : Nat) ((xs.take k).length : Nat) ((frames (ys.take k)).length : Nat) ((ys.take k).length : Nat)
theorem frames_small {ls : List (List Nat)} {k : Nat} (h4 : ∀ p ∈ ls, p.length ≤ 4096) (hl : ls.length ≤ 100) : (frames (ls.take k)).length ≤ 410400 := by
  have h := frames_len_le (ls := ls.take k) (fun p hp => h4 p (List.mem_of_mem_take hp))
  rw [List.length_take] at h
  omega

end Go.Proofs.Ytfccddcoindnlab
