/-
  A disk of one file; a wal of the call's own; Open that is refused; 'awake' of layer 6.
-/
import Derived.Test.YtfdpnfeaagijhaaWl3

namespace Go.Proofs.Ytfdpnfeaagijhaa
open Go.RowKit
set_option linter.unusedVariables false

/-- A disk that has one file, and isn't armed. -/
def one (s : ByteArray) (t : List Nat) (la : Nat) : Dk := ⟨[⟨s, t, la⟩], false, 0, false⟩
def noneD : Dk := ⟨[], false, 0, false⟩
section
variable {s : ByteArray} {t b : List Nat} {la : Nat}
theorem one_ft : ftOf [⟨s, t, la⟩] s = some ⟨s, t, la⟩ := by simp [ftOf]
theorem one_find (h : okName s = true) : findE (one s t la).dead (one s t la).fs s = 0 := find_ok.2 ⟨rfl, h, by show (ftOf [⟨s, t, la⟩] s).isSome = true; rw [one_ft]; rfl⟩
theorem one_rd (h : okName s = true) : rdF (one s t la) s = ⟨s, t, la⟩ := rdF_ok (one_find h) one_ft
theorem one_used : usedF (one s t la).fs = t.length := by simp [usedF, one]
theorem one_ap (h : okName s = true) (hl : t.length + b.length ≤ 4194304) : apE (one s t la) s b.length = 0 ∧ apD (one s t la) s b = one s (t ++ b) la := by
  have h1 : apR (one s t la) s b.length = 0 := by
    unfold apR
    rw [one_find h, one_used, if_neg (by omega), if_neg (by omega)]
  have h2 : apE (one s t la) s b.length = 0 := by
    unfold apE
    rw [h1, if_neg (by omega)]
    rfl
  refine ⟨h2, ?_⟩
  rw [apD_ok h2]
  have h3 : apF (one s t la).fs s b = [⟨s, t ++ b, la⟩] := by
    unfold apF one
    simp only
    rw [one_ft]
    simp [swapF]
  rw [h3]
  rfl
theorem none_ap (h : okName s = true) (hl : b.length ≤ 4194304) : apE noneD s b.length = 0 ∧ apD noneD s b = one s b 0 := by
  have h0 : findE noneD.dead noneD.fs s = 4 := find_no.2 ⟨rfl, h, rfl⟩
  have h1 : apR noneD s b.length = 0 := by
    unfold apR
    rw [h0]
    have : usedF noneD.fs = 0 := rfl
    have : noneD.fs.length = 0 := rfl
    rw [if_neg (by omega), if_neg (by omega)]
  have h2 : apE noneD s b.length = 0 := by
    unfold apE
    rw [h1, if_neg (by omega)]
    rfl
  exact ⟨h2, by rw [apD_ok h2]; rfl⟩
theorem none_open (h : okName s = true) : apE noneD s 0 = 0 ∧ opT noneD s = [] ∧ opN noneD s = 0 ∧ opD noneD s = one s [] 0 := by
  obtain ⟨h1, h2⟩ := none_ap (b := []) h (by simp)
  have h3 : opT noneD s = [] := by unfold opT; rw [h2, one_rd h]
  have h4 : opN noneD s = 0 := by unfold opN; rw [h3, scan_nil]
  refine ⟨h1, h3, h4, ?_⟩
  unfold opD
  rw [h2, h4]
  unfold cutD cutF one
  simp only
  rw [one_ft]
  simp [swapF]
theorem one_open (h : okName s = true) (hl : t.length ≤ 4194304) : apE (one s t la) s 0 = 0 ∧ opT (one s t la) s = t ∧ opN (one s t la) s = (scan t).2.1 ∧ opD (one s t la) s = one s (t.take (scan t).2.1) (min la (scan t).2.1) := by
  obtain ⟨h1, h2⟩ := one_ap (s := s) (t := t) (la := la) (b := []) h (by simpa using hl)
  rw [List.append_nil] at h2
  have h3 : opT (one s t la) s = t := by unfold opT; rw [h2, one_rd h]
  have h4 : opN (one s t la) s = (scan t).2.1 := by unfold opN; rw [h3]
  refine ⟨h1, h3, h4, ?_⟩
  unfold opD
  rw [h2, h4]
  unfold cutD cutF one
  simp only
  rw [one_ft]
  simp [swapF]
theorem one_sync (h : okName s = true) : syD (one s t la) s = one s t t.length := by
  unfold syD
  rw [if_pos (one_find h)]
  unfold syncF one
  simp only
  rw [one_ft]
  simp [swapF]
theorem one_crash (K : Nat) : crD K (one s t la) = one s (t.take (la + K % (t.length - la + 1))) (la + K % (t.length - la + 1)) := rfl
end

/-- A wal and its disk, of the call's own. -/
structure Wz (w0 w : World) (wb db : Nat) (S : Nat → Prop) (d : Dk) (s : ByteArray) (n c : Int) : Prop where
  wl : Wl w wb db S d s n c
  base : ∀ k, S k → w0.heap.size ≤ k
  wbase : w0.heap.size ≤ wb
  below : Below w0.heap.size w0 w
section
variable {w0 w w' : World} {wb db : Nat} {S S' : Nat → Prop} {d d' : Dk} {s : ByteArray} {n c n' c' : Int}
theorem Wz.to (h : Wz w0 w wb db S d s n c) (g : Wto w w' wb db S S' d' s n' c') : Wz w0 w' wb db S' d' s n' c' :=
  ⟨g.wl, fun k hk => by rcases g.grow k hk with e | e; exact h.base k e; exact Nat.le_trans h.below.size e, h.wbase, below_touch h.below g.touch h.below.size (fun k hk => by rcases hk with e | e; exact h.base k e; rw [e]; exact h.wbase)⟩
theorem Wl.went (h : Wl w wb db S d s n c) (g : Went w w' db S d') : ∃ S', Wto w w' wb db S S' d' s n c := by
  obtain ⟨S', d1, t1, m1⟩ := g
  have hwb := h.ready.lt
  refine ⟨S', ⟨h.ready.keep t1 h.ne, d1, fun hk => ?_⟩, m1, t1.mono (fun k hk => .inl hk)⟩
  rcases m1 _ hk with e | e
  · exact h.ne e
  · omega
theorem Wz.later (h : Wz w0 w wb db S d s n c) (hb : Below w.heap.size w w') : Wz w0 w' wb db S d s n c :=
  ⟨⟨h.wl.ready.keep (Touch.of_below (S := fun _ => False) hb) (fun h => h), h.wl.disk.keep (Touch.of_below (S := fun _ => False) hb) (fun _ _ h => h), h.wl.ne⟩, h.base, h.wbase, h.below.trans (hb.mono h.below.size)⟩
theorem Wz.ds (h : Wz w0 w wb db S d s n c) : Ds w0 w db S d := ⟨h.wl.disk, h.base, h.below⟩

/-- What Open of a disk of the call's own answers. -/
def OzPost (w0 w : World) (db : Nat) (S : Nat → Prop) (d' : Dk) (s : ByteArray) (n : Nat) (ls : List (List Nat)) (e : Ending) (w' : World) : Prop :=
  ∃ wb a cap S', e = .returned (.tuple #[.pointer (some ⟨wb, 0, none⟩), .slice a ls.length cap, .int .i64 0]) ∧ Wz w0 w' wb db S' d' s (n : Nat) (ls.length : Nat) ∧ w.heap.size ≤ wb ∧ Held (fun k => S' k ∨ k = wb) w' (.slice a ls.length cap) ls ∧ New w (.slice a ls.length cap) ∧ Touch S w w' ∧ (∀ k, S' k → S k ∨ w.heap.size ≤ k)
theorem zopen (h : Ds w0 w db S d) (hs : s.size ≤ maxLen) (hE : apE d s 0 = 0) {t : List Nat} (hT : opT d s = t) {m : Nat} (hN : opN d s = m) (hD : opD d s = d') :
    Calls Try.prog 5 #[.pointer (some ⟨db, 0, none⟩), .string s] w fun e w' => OzPost w0 w db S d' s m (scan t).1 e w' := by
  refine (wopen_ok h.disk hs hE).mono ?_
  rintro e w' ⟨wb, v, S', rfl, h1, h2, h3, h4, h5, h6⟩
  rw [hT] at h1 h5
  rw [hN, hD] at h1
  obtain ⟨a, cap, rfl, _⟩ := h5.parts
  exact ⟨wb, a, cap, S', rfl, ⟨h1, fun k hk => by rcases h3 k hk with e | e; exact h.base k e; exact Nat.le_trans h.below.size e, Nat.le_trans h.below.size h2, below_touch h.below h4 h.below.size h.base⟩, h2, h5, h6, h4, h3⟩
theorem zappend_const (h : Wz w0 w wb db S d s n c) (hs : s.size ≤ maxLen) (hE : findE d.dead d.fs s = 0) (hn : ((rdF d s).text.length : Int) = n) (l : List Nat) (hl : ∀ x ∈ l, x < 256) (cs : Array Value) (hcs : cs.toList = vals l) (fr : Nat × Nat) (m : Nat) (hm : l.length = m) (h4 : m ≤ 4096) (hc0 : 0 ≤ c) (hc1 : c ≤ 1099511627776) (hA : apE d s (fenc l).length = 0) :
    Calls Try.prog 8 #[.pointer (some ⟨wb, 0, none⟩), .slice (some ⟨w.heap.size, 0, none⟩) m m] (w.alloc (.cells cs 5 fr)) fun e w' => e = .returned (.int .i64 0) ∧ ∃ S', Wz w0 w' wb db S' (apD d s (fenc l)) s (n + ((8 + m : Nat) : Int)) (c + 1) := by
  subst hm
  have hbl : Below w.heap.size w (w.alloc (.cells cs 5 fr)) := (Below.refl _ _).alloc (Nat.le_refl _) _
  refine (wappend_ok (h.later hbl).wl hs hE hn (LAt.const w l hl cs hcs fr) (fun h => by cases h) (fun _ x hx e => ?_) h4 hc0 hc1 hA).mono ?_
  · cases hx
    have := h.wl.ready.lt
    simp at e
    omega
  · rintro e w' ⟨he, S', g⟩
    exact ⟨he, S', (h.later hbl).to g⟩
end

section
variable {w : World} {wb : Nat} {s : ByteArray} {n c : Int} {p : Option Addr}
set_option maxRecDepth 100000 in
theorem recovered_err (hr : Ready ⟨.pointer p, .string s, .int .i64 n, .int .i64 c⟩ w wb) (E : Nat) (hE : E ≠ 0) (Q : World → Prop) (AP : Hid (∀ w1, Touch (fun _ => False) w w1 → Calls Try.prog 18 #[.pointer p, .string s, .slice none 0 0] w1 fun e w' => e = .returned (.int .i64 (E : Nat)) ∧ Q w')) :
    Calls Try.prog 12 #[.pointer (some ⟨wb, 0, none⟩)] w fun e w' => e = .returned (.tuple #[.slice none 0 0, .int .i64 (E : Nat)]) ∧ Q w' := by
  obtain ⟨x0, x1, x2, x3⟩ := hr.outer
  simp only at x0 x1 x2 x3
  have q1 : ((E : Int) != 0) = true := by rw [bne_iff_ne]; omega
  have q2 : ¬ (E : Int) = 0 := by omega
  clear hr
  go_enter Try.func12, Try.ntmps12
  go_wp2_with fail
  go_region_with (go_at_call 18; refine (unhide AP _ (Touch.refl _ _).drew).mono ?_; rintro e w1 ⟨rfl, g1⟩)
  all_goals
    have G := hide g1
    clear g1 AP
    go_wp2
    go_returns
    exact ⟨rfl, unhide G⟩
set_option maxRecDepth 100000 in
theorem wopen_err (E : Nat) (hE : E ≠ 0) (Q : World → Prop) (AP : Hid (∀ w1, Touch (fun _ => False) w w1 → Calls Try.prog 18 #[.pointer p, .string s, .slice none 0 0] w1 fun e w' => e = .returned (.int .i64 (E : Nat)) ∧ Q w')) :
    Calls Try.prog 5 #[.pointer p, .string s] w fun e w' => e = .returned (.tuple #[.pointer none, .slice none 0 0, .int .i64 (E : Nat)]) ∧ Q w' := by
  have TA : Hid (Touch (fun _ => False) w (w.alloc (.cells (newWal p s) 57))) := (Touch.refl _ w).alloc _
  have RC := hide (recovered_err (w := w.alloc (.cells (newWal p s) 57)) (newWal_ready (heap_new _ _)) E hE Q (fun w1 t => unhide AP w1 ((unhide TA).trans t)))
  have EN : Hid (newWal p s = (Try.zeroCells57.setIfInBounds 0 (.pointer p)).setIfInBounds 1 (.string s)) := by rw [zero_wal]; rfl
  have q1 : ((E : Int) != 0) = true := by rw [bne_iff_ne]; omega
  have q2 : ¬ (E : Int) = 0 := by omega
  clear AP
  go_enter Try.func5, Try.ntmps5
  go_wp2_with fail
  rw [← unhide EN]
  generalize w.alloc (.cells (newWal p s) 57) = wa at *
  refine (unhide RC).mono ?_
  rintro e w1 ⟨rfl, g1⟩
  have G := hide g1
  clear g1 RC
  go_wp2
  go_returns
  exact ⟨rfl, unhide G⟩
end
end Go.Proofs.Ytfdpnfeaagijhaa
