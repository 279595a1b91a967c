/-
  penstockref17's Laid among foreign blocks: fail, count, bytes, ints. Conditions: what is laid together has at most 2^46 bytes.
-/
import Derived.Test.YtblmondkdcpkaaaZ12
import Derived.Test.YtblmondkdcpkaaaZ10
import Derived.Test.YtblmondkdcpkaaaZ07
import Derived.Deep.RegionLaw

namespace Go.Proofs.Ytblmondkdcpkaaa
open Go.RowKit
set_option linter.unusedVariables false

/-- What the document's writer holds: bytes, the first error, whether a piece was too long. -/
structure Dv where
  l : List Nat
  e : Int
  g : Int
def dF (E : Int) (s : Dv) : Dv := if s.e = 0 then { s with e := E } else s
def dX (s : Dv) (x : List Nat) : Dv := { s with l := s.l ++ x }
def dG (s : Dv) (d : List Nat) : Dv := if 4096 < d.length then { s with g := 2 } else s
def dB (s : Dv) (d : List Nat) : Dv := dX (dG s d) (enc d.length ++ d)
def dN (s : Dv) (n : Nat) : Dv := if 512 < n then dF 2 s else s
def dC (s : Dv) (n : Nat) : Dv := dX (dN s n) (enc n)
theorem dF_l (E : Int) (s : Dv) : (dF E s).l = s.l := by unfold dF; split <;> rfl
theorem dF_g (E : Int) (s : Dv) : (dF E s).g = s.g := by unfold dF; split <;> rfl
theorem dG_l (s : Dv) (d : List Nat) : (dG s d).l = s.l := by unfold dG; split <;> rfl
theorem dN_l (s : Dv) (n : Nat) : (dN s n).l = s.l := by unfold dN; split; exact dF_l _ _; rfl
structure Lq (w0 : World) (N : Nat → Prop) (w : World) (b : Nat) (s : Dv) : Prop where
  out : ∃ v, w.heap[b]? = some (.cells #[v, .int .i64 s.e, .int .i64 s.g] 60) ∧ Row w v s.l ∧ ∀ k, v.ownBlock = some k → ¬ N k ∧ k ≠ b
  nb : ¬ N b
  old : ∀ k, N k → k < w.heap.size
  base : Below w0.heap.size w0 w
  low : ∀ k, k < w0.heap.size → N k
section
variable {w0 w w1 w2 w3 : World} {N : Nat → Prop} {b : Nat} {s : Dv}
theorem Lq.lt (h : Lq w0 N w b s) : b < w.heap.size := by
  obtain ⟨⟨v, h1, _⟩, _, _⟩ := h
  exact lt_of_heap h1
theorem Lq.later (h : Lq w0 N w b s) (hb : Below w.heap.size w w1) : Lq w0 N w1 b s := by
  obtain ⟨⟨v, h1, h2, h3⟩, h4, h5, h6, h7⟩ := h
  exact ⟨⟨v, below_keep hb h1, h2.later hb, h3⟩, h4, fun k hk => Nat.lt_of_lt_of_le (h5 k hk) hb.size, h6.trans (hb.mono h6.size), h7⟩
theorem Lq.grow (h : Lq w0 N w b s) (hb : Below w.heap.size w w1) : Lq w0 (Gr N w w1) w1 b s := by
  have hbl := h.lt
  obtain ⟨⟨v, h1, h2, h3⟩, h4, h5, h6, h7⟩ := h
  refine ⟨⟨v, below_keep hb h1, h2.later hb, fun k hk => ⟨fun hn => ?_, (h3 k hk).2⟩⟩, fun hn => ?_, fun k hk => ?_, h6.trans (hb.mono h6.size), fun k hk => .inl (h7 k hk)⟩
  · rcases hn with e | e
    · exact (h3 k hk).1 e
    · have := h2.lt k hk; omega
  · rcases hn with e | e
    · exact h4 e
    · omega
  · rcases hk with e | e
    · exact Nat.lt_of_lt_of_le (h5 k e) hb.size
    · exact e.2
theorem Lq.leave {w' : World} (h : Lq w0 (Gr N w w1) w' b s) (hb : Below w.heap.size w w1) (hN : ∀ k, N k → k < w.heap.size) (hL : ∀ k, k < w0.heap.size → N k) (t : Touch (Off (Gr N w w1)) w1 w') : Lq w0 N w' b s ∧ Touch (Off N) w w' := by
  obtain ⟨⟨v, h1, h2, h3⟩, h4, h5, h6, h7⟩ := h
  exact ⟨⟨⟨v, h1, h2, fun k hk => ⟨fun hn => (h3 k hk).1 (.inl hn), (h3 k hk).2⟩⟩, fun hn => h4 (.inl hn), fun k hk => h5 k (.inl hk), h6, hL⟩, (Touch.of_below (S := Off N) hb).trans (t.mono (fun k hk hn => hk (.inl hn)))⟩
theorem Lq.lat (h : Lq w0 N w b s) {a : Option Addr} {d : List Nat} (hd : LAt w0 a d) : LAt w a d := hd.later h.base
theorem Lq.iat (h : Lq w0 N w b s) {a : Option Addr} {d : List Int} (hd : IAt w0 a d) : IAt w a d ∧ (0 < d.length → ∀ x, a = some x → N x.block) := by
  refine ⟨hd.later h.base, fun h0 x hx => h.low _ ?_⟩
  obtain ⟨b', o', e, hlt, _⟩ := hd 0 h0
  rw [hx] at e
  cases e
  exact hlt
/-- One of the two numbers is written. -/
theorem Lq.set1 (h : Lq w0 N w b s) (E : Int) : Lq w0 N (w.setCell ⟨b, 1, none⟩ (.int .i64 E)) b { s with e := E } ∧ Touch (Off N) w (w.setCell ⟨b, 1, none⟩ (.int .i64 E)) := by
  obtain ⟨⟨v, h1, h2, h3⟩, h4, h5, h6, h7⟩ := h
  have ts := touch_set w b 1 (.int .i64 E)
  have t : Touch (Off N) w (w.setCell ⟨b, 1, none⟩ (.int .i64 E)) := ts.mono (fun k hk => by rw [hk]; exact h4)
  refine ⟨⟨⟨v, heap_set h1 1 _, h2.keep ts (fun k hk => (h3 k hk).2), h3⟩, h4, fun k hk => Nat.lt_of_lt_of_le (h5 k hk) t.size, below_touch h6 t h6.size (fun k hk => Nat.le_of_not_lt (fun g => hk (h7 k g))), h7⟩, t⟩
theorem Lq.set2 (h : Lq w0 N w b s) (E : Int) : Lq w0 N (w.setCell ⟨b, 2, none⟩ (.int .i64 E)) b { s with g := E } ∧ Touch (Off N) w (w.setCell ⟨b, 2, none⟩ (.int .i64 E)) := by
  obtain ⟨⟨v, h1, h2, h3⟩, h4, h5, h6, h7⟩ := h
  have ts := touch_set w b 2 (.int .i64 E)
  have t : Touch (Off N) w (w.setCell ⟨b, 2, none⟩ (.int .i64 E)) := ts.mono (fun k hk => by rw [hk]; exact h4)
  refine ⟨⟨⟨v, heap_set h1 2 _, h2.keep ts (fun k hk => (h3 k hk).2), h3⟩, h4, fun k hk => Nat.lt_of_lt_of_le (h5 k hk) t.size, below_touch h6 t h6.size (fun k hk => Nat.le_of_not_lt (fun g => hk (h7 k g))), h7⟩, t⟩
/-- What an append to its bytes, stored there, leaves. -/
theorem Lq.app {v v3 : Value} {x : List Nat} (h : Lq w0 N w b s) (h1 : w.heap[b]? = some (.cells #[v, .int .i64 s.e, .int .i64 s.g] 60)) (h3 : ∀ k, v.ownBlock = some k → ¬ N k ∧ k ≠ b)
    (b2 : Below w.heap.size w w2) (r3 : Row w3 v3 (s.l ++ x)) (t3 : Touch (fun k => v.ownBlock = some k) w2 w3) (m3 : Moved w2 v v3) :
    Lq w0 N (w3.setCell ⟨b, 0, none⟩ v3) b (dX s x) ∧ Touch (Off N) w (w3.setCell ⟨b, 0, none⟩ v3) := by
  have hbl := h.lt
  obtain ⟨_, h4, h5, h6, h7⟩ := h
  have hb3 := t3.keep (below_keep b2 h1) (fun e => (h3 b e).2 rfl)
  have ts := touch_set w3 b 0 v3
  have n3 : ∀ k, v3.ownBlock = some k → ¬ N k ∧ k ≠ b := fun k hk => by
    rcases m3 k hk with e | e
    · exact h3 k e
    · have := b2.size
      exact ⟨fun hn => by have := h5 k hn; omega, by omega⟩
  have t : Touch (Off N) w (w3.setCell ⟨b, 0, none⟩ v3) := (Touch.of_below (S := Off N) b2).trans ((t3.mono (fun k hk => (h3 k hk).1)).trans (ts.mono (fun k hk => by rw [hk]; exact h4)))
  refine ⟨⟨⟨v3, heap_set hb3 0 _, r3.keep ts (fun k hk => (n3 k hk).2), n3⟩, h4, fun k hk => Nat.lt_of_lt_of_le (h5 k hk) t.size, below_touch h6 t h6.size (fun k hk => Nat.le_of_not_lt (fun g => hk (h7 k g))), h7⟩, t⟩
end
def DD (w0 : World) (N : Nat → Prop) (w : World) (b : Nat) (s : Dv) (e : Ending) (w' : World) : Prop := e = .returned (.tuple #[]) ∧ Lq w0 N w' b s ∧ Touch (Off N) w w'
section
variable {w0 w : World} {N : Nat → Prop} {b : Nat} {s : Dv}
set_option maxHeartbeats 2000000 in
theorem fail_d (E : Int) (h : Lq w0 N w b s) : Calls Try.prog 24 #[.pointer (some ⟨b, 0, none⟩), .int .i64 E] w fun e w' => DD w0 N w b (dF E s) e w' := by
  have H := hide h
  obtain ⟨v, h1, _⟩ := h.out
  have y : w.cell? ⟨b, 1, none⟩ = some (.int .i64 s.e) := cell_of h1 1
  have z := frozen_of h1 1
  clear h h1
  by_cases h0 : s.e = 0
  · have FF : Hid (DD w0 N w b (dF E s) (.returned (.tuple #[])) (w.setCell ⟨b, 1, none⟩ (.int .i64 E))) := by
      unfold dF
      rw [if_pos h0]
      exact ⟨rfl, (unhide H).set1 E⟩
    have hq : (s.e == 0) = true := by rw [h0]; rfl
    clear h0 H
    go_enter Try.func24, Try.ntmps24
    go_wp2
    go_returns
    exact unhide FF
  · have FF : Hid (DD w0 N w b (dF E s) (.returned (.tuple #[])) w) := by
      unfold dF
      rw [if_neg h0]
      exact ⟨rfl, unhide H, Touch.refl _ _⟩
    have hq : (s.e == 0) = false := beq_eq_false_iff_ne.2 h0
    clear h0 H
    go_enter Try.func24, Try.ntmps24
    go_wp2
    go_returns
    exact unhide FF
set_option maxRecDepth 100000 in
set_option maxHeartbeats 4000000 in
theorem count_d (n : Nat) (h : Lq w0 N w b s) (hn : n ≤ 140737488355328) (hl : s.l.length ≤ 70368744177664) :
    Calls Try.prog 20 #[.pointer (some ⟨b, 0, none⟩), .int .i64 n] w fun e w' => DD w0 N w b (dC s n) e w' := by
  have hu := conv_len n hn
  have l10 := enc_len10 (n := n) (by omega)
  have KF := hide (fail_d 2 h)
  have H := hide h
  clear h
  obtain ⟨s1, hs1⟩ : ∃ s1, s1 = dN s n := ⟨_, rfl⟩
  have HC : Hid (dC s n = dX s1 (enc n)) := hide (by rw [hs1]; rfl)
  have hls : s1.l.length ≤ 70368744177664 := by rw [hs1, dN_l]; exact hl
  have KU := hide (fun W => euint_any n W (by omega))
  go_enter Try.func20, Try.ntmps20
  by_cases hc : 512 < n
  · have hq : (512 : Int) < (n : Int) := by omega
    have e1 : s1 = dF 2 s := by rw [hs1]; unfold dN; rw [if_pos hc]
    subst e1
    clear hs1 hc hn hl
    go_wp2_with fail
    refine (unhide KF).mono ?_
    rintro e w1 ⟨rfl, q1, t1⟩
    generalize dF 2 s = s1 at *
    have T1 := hide t1
    clear t1 KF H hq
    obtain ⟨v, g1, g2, g3⟩ := q1.out
    obtain ⟨a1, m1, c1, rfl⟩ := g2.shape
    have yb : w1.cell? ⟨b, 0, none⟩ = some (.slice a1 m1 c1) := cell_of g1 0
    have hbl := q1.lt
    have Q1 := hide q1
    have G1 := hide g1
    have G2 := hide g2
    have G3 := hide g3
    clear q1 g1 g2 g3
    have KU1 : Hid (∀ W, Below w1.heap.size w1 W → Calls Try.prog 25 #[.int .u64 n] W fun e w' => ∃ v, e = .returned v ∧ Fresh W w' v (enc n)) := hide (fun W _ => unhide KU W)
    generalize hX : enc n = X at *
    clear hX KU
    go_wp2_with fail
    go_region_law (first
      | (go_simp; go_at_call 25; refine (unhide KU1 _ (by first | exact Below.refl _ _ | exact Below.drew (Below.refl _ _))).mono ?_; rintro e w2 ⟨v2, rfl, f2⟩; obtain ⟨a2, c2, rfl, q2, _, _, z2, _⟩ := f2.1.parts; have B2 : Hid (Below w1.heap.size w1 w2) := hide (by first | exact f2.2.2 | exact (Below.drew (Below.refl w1.heap.size w1)).trans (f2.2.2.mono (Nat.le_refl _))); have y2 : w2.cell? ⟨b, 0, none⟩ = some (.slice a1 m1 c1) := ((unhide B2).cell (p := ⟨b, 0, none⟩) hbl).trans yb; have Q2 := hide q2; clear f2 q2)
      | (refine step_row rfl (.tmp 12) (.tmp 15) rfl (.slice a1 m1 c1) s1.l (by rfl) (((unhide G2).later (unhide B2)).later (by first | exact Below.refl _ _ | exact Below.drew (Below.refl _ _))) a2 c2 X (by rfl) ((unhide Q2).later (by first | exact Below.refl _ _ | exact Below.drew (Below.refl _ _))) z2 (by omega) ?_; intro v3 w3 r3 t3 m3; obtain ⟨a3, n3, c3, rfl⟩ := r3.shape; have FA := hide ((unhide Q1).app (unhide G1) (unhide G3) (by first | exact unhide B2 | exact (unhide B2).trans ((Below.drew (Below.refl _ _)).mono (unhide B2).size)) r3 t3 m3); have h3 := t3.keep (below_keep (by first | exact Below.refl _ _ | exact Below.drew (Below.refl _ _)) (below_keep (unhide B2) (unhide G1))) (fun e => ((unhide G3) b e).2 rfl); have y3 : w3.cell? ⟨b, 0, none⟩ = some (.slice a1 m1 c1) := cell_of h3 0; have z3 := frozen_of h3 0; clear r3 t3 m3 h3))
    all_goals
      have FF : Hid (DD w0 N w b (dC s n) (.returned (.tuple #[])) (w3.setCell ⟨b, 0, none⟩ (.slice a3 n3 c3))) := by
        rw [unhide HC]
        exact ⟨rfl, (unhide FA).1, (unhide T1).trans (unhide FA).2⟩
      clear FA B2 y2 Q2 z2
      go_wp2
      go_returns
      exact unhide FF
  · have hq : ¬ (512 : Int) < (n : Int) := by omega
    have e1 : s1 = s := by rw [hs1]; unfold dN; rw [if_neg hc]
    subst e1
    clear hs1 hc hn hl KF
    have T1 : Hid (Touch (Off N) w w) := hide (Touch.refl _ _)
    have q1 := unhide H
    clear H
    obtain ⟨v, g1, g2, g3⟩ := q1.out
    obtain ⟨a1, m1, c1, rfl⟩ := g2.shape
    have yb : w.cell? ⟨b, 0, none⟩ = some (.slice a1 m1 c1) := cell_of g1 0
    have hbl := q1.lt
    have Q1 := hide q1
    have G1 := hide g1
    have G2 := hide g2
    have G3 := hide g3
    clear q1 g1 g2 g3
    have KU1 : Hid (∀ W, Below w.heap.size w W → Calls Try.prog 25 #[.int .u64 n] W fun e w' => ∃ v, e = .returned v ∧ Fresh W w' v (enc n)) := hide (fun W _ => unhide KU W)
    generalize hX : enc n = X at *
    clear hX KU
    go_wp2_with fail
    go_region_law (first
      | (go_simp; go_at_call 25; refine (unhide KU1 _ (by first | exact Below.refl _ _ | exact Below.drew (Below.refl _ _))).mono ?_; rintro e w2 ⟨v2, rfl, f2⟩; obtain ⟨a2, c2, rfl, q2, _, _, z2, _⟩ := f2.1.parts; have B2 : Hid (Below w.heap.size w w2) := hide (by first | exact f2.2.2 | exact (Below.drew (Below.refl w.heap.size w)).trans (f2.2.2.mono (Nat.le_refl _))); have y2 : w2.cell? ⟨b, 0, none⟩ = some (.slice a1 m1 c1) := ((unhide B2).cell (p := ⟨b, 0, none⟩) hbl).trans yb; have Q2 := hide q2; clear f2 q2)
      | (refine step_row rfl (.tmp 12) (.tmp 15) rfl (.slice a1 m1 c1) s1.l (by rfl) (((unhide G2).later (unhide B2)).later (by first | exact Below.refl _ _ | exact Below.drew (Below.refl _ _))) a2 c2 X (by rfl) ((unhide Q2).later (by first | exact Below.refl _ _ | exact Below.drew (Below.refl _ _))) z2 (by omega) ?_; intro v3 w3 r3 t3 m3; obtain ⟨a3, n3, c3, rfl⟩ := r3.shape; have FA := hide ((unhide Q1).app (unhide G1) (unhide G3) (by first | exact unhide B2 | exact (unhide B2).trans ((Below.drew (Below.refl _ _)).mono (unhide B2).size)) r3 t3 m3); have h3 := t3.keep (below_keep (by first | exact Below.refl _ _ | exact Below.drew (Below.refl _ _)) (below_keep (unhide B2) (unhide G1))) (fun e => ((unhide G3) b e).2 rfl); have y3 : w3.cell? ⟨b, 0, none⟩ = some (.slice a1 m1 c1) := cell_of h3 0; have z3 := frozen_of h3 0; clear r3 t3 m3 h3))
    all_goals
      have FF : Hid (DD w0 N w b (dC s1 n) (.returned (.tuple #[])) (w3.setCell ⟨b, 0, none⟩ (.slice a3 n3 c3))) := by
        rw [unhide HC]
        exact ⟨rfl, (unhide FA).1, (unhide T1).trans (unhide FA).2⟩
      clear FA B2 y2 Q2 z2
      go_wp2
      go_returns
      exact unhide FF
set_option maxRecDepth 100000 in
set_option maxHeartbeats 4000000 in
theorem bytes_d (ao : Option Addr) (c : Nat) (d : List Nat) (h : Lq w0 N w b s) (hb : LAt w ao d) (hn : ao = none → c = 0) (hN : 0 < d.length → ∀ x, ao = some x → x.block ≠ b) (hd : d.length ≤ 1099511627776) (hl : s.l.length ≤ 70368744177664) :
    Calls Try.prog 21 #[.pointer (some ⟨b, 0, none⟩), .slice ao d.length c] w fun e w' => DD w0 N w b (dB s d) e w' := by
  have l10 := enc_len10 (n := d.length) (by omega)
  have HB := hide hb
  have HN := hide hN
  have HZ := hide hn
  obtain ⟨s1, hs1⟩ : ∃ s1, s1 = dG s d := ⟨_, rfl⟩
  have HC : Hid (dB s d = dX s1 (enc d.length ++ d)) := hide (by rw [hs1]; rfl)
  have hls : s1.l.length ≤ 70368744177664 := by rw [hs1, dG_l]; exact hl
  have hXl : (enc d.length ++ d).length ≤ 1099511627800 := by rw [List.length_append]; omega
  have KU : Hid (∀ W0, LAt W0 ao d → ∀ W, Below W0.heap.size W0 W → Calls Try.prog 37 #[.slice ao d.length c] W fun e w' => ∃ v, e = .returned v ∧ Fresh W w' v (enc d.length ++ d)) := hide (fun W0 h0 W hW => ebytes_any ao c d W (h0.later hW) hn (by omega))
  go_enter Try.func21, Try.ntmps21
  by_cases hc : 4096 < d.length
  · have hq : (4096 : Int) < (d.length : Int) := by omega
    have e1 : s1 = { s with g := 2 } := by rw [hs1]; unfold dG; rw [if_pos hc]
    subst e1
    obtain ⟨q1, t1⟩ := h.set2 2
    have hy : w.cell? ⟨b, 2, none⟩ = some (.int .i64 s.g) := by obtain ⟨v, g1, _⟩ := h.out; exact cell_of g1 2
    have hz : w.frozen? ⟨b, 2, none⟩ = false := by obtain ⟨v, g1, _⟩ := h.out; exact frozen_of g1 2
    have T1 := hide t1
    have Q0 := hide q1
    have HB1 := hide (hb.keep (touch_set w b 2 (.int .i64 2)) (fun h0 x hx e => hN h0 x hx e))
    clear hs1 hc hn hl hb hN h t1 q1
    go_upto_region 2 with fail
    generalize w.setCell ⟨b, 2, none⟩ (.int .i64 2) = w1 at *
    generalize { s with g := 2 } = s1 at *
    clear hy hz hq
    have q1 := unhide Q0
    clear Q0
    obtain ⟨v, g1, g2, g3⟩ := q1.out
    obtain ⟨a1, m1, c1, rfl⟩ := g2.shape
    have yb : w1.cell? ⟨b, 0, none⟩ = some (.slice a1 m1 c1) := cell_of g1 0
    have hbl := q1.lt
    have Q1 := hide q1
    have G1 := hide g1
    have G2 := hide g2
    have G3 := hide g3
    clear q1 g1 g2 g3
    have KU1 := hide (unhide KU w1 (unhide HB1))
    generalize enc d.length ++ d = X at *
    clear KU HB HN HZ
    go_wp2_with fail
    go_region_law (first
      | (go_simp; go_at_call 37; refine (unhide KU1 _ (by first | exact Below.refl _ _ | exact Below.drew (Below.refl _ _))).mono ?_; rintro e w2 ⟨v2, rfl, f2⟩; obtain ⟨a2, c2, rfl, q2, _, _, z2, _⟩ := f2.1.parts; have B2 : Hid (Below w1.heap.size w1 w2) := hide (by first | exact f2.2.2 | exact (Below.drew (Below.refl w1.heap.size w1)).trans (f2.2.2.mono (Nat.le_refl _))); have y2 : w2.cell? ⟨b, 0, none⟩ = some (.slice a1 m1 c1) := ((unhide B2).cell (p := ⟨b, 0, none⟩) hbl).trans yb; have Q2 := hide q2; clear f2 q2)
      | (refine step_row rfl (.tmp 14) (.tmp 16) rfl (.slice a1 m1 c1) s1.l (by rfl) (((unhide G2).later (unhide B2)).later (by first | exact Below.refl _ _ | exact Below.drew (Below.refl _ _))) a2 c2 X (by rfl) ((unhide Q2).later (by first | exact Below.refl _ _ | exact Below.drew (Below.refl _ _))) z2 (by omega) ?_; intro v3 w3 r3 t3 m3; obtain ⟨a3, n3, c3, rfl⟩ := r3.shape; have FA := hide ((unhide Q1).app (unhide G1) (unhide G3) (by first | exact unhide B2 | exact (unhide B2).trans ((Below.drew (Below.refl _ _)).mono (unhide B2).size)) r3 t3 m3); have h3 := t3.keep (below_keep (by first | exact Below.refl _ _ | exact Below.drew (Below.refl _ _)) (below_keep (unhide B2) (unhide G1))) (fun e => ((unhide G3) b e).2 rfl); have y3 : w3.cell? ⟨b, 0, none⟩ = some (.slice a1 m1 c1) := cell_of h3 0; have z3 := frozen_of h3 0; clear r3 t3 m3 h3))
    all_goals
      have FF : Hid (DD w0 N w b (dB s d) (.returned (.tuple #[])) (w3.setCell ⟨b, 0, none⟩ (.slice a3 n3 c3))) := by
        rw [unhide HC]
        exact ⟨rfl, (unhide FA).1, (unhide T1).trans (unhide FA).2⟩
      clear FA B2 y2 Q2 z2
      go_wp2
      go_returns
      exact unhide FF
  · have hq : ¬ (4096 : Int) < (d.length : Int) := by omega
    have e1 : s1 = s := by rw [hs1]; unfold dG; rw [if_neg hc]
    subst e1
    have T1 : Hid (Touch (Off N) w w) := hide (Touch.refl _ _)
    have q1 := h
    clear hs1 hc hn hl hb hN h
    obtain ⟨v, g1, g2, g3⟩ := q1.out
    obtain ⟨a1, m1, c1, rfl⟩ := g2.shape
    have yb : w.cell? ⟨b, 0, none⟩ = some (.slice a1 m1 c1) := cell_of g1 0
    have hbl := q1.lt
    have Q1 := hide q1
    have G1 := hide g1
    have G2 := hide g2
    have G3 := hide g3
    clear q1 g1 g2 g3
    have KU1 := hide (unhide KU w (unhide HB))
    generalize enc d.length ++ d = X at *
    clear KU HB HN HZ
    go_wp2_with fail
    go_region_law (first
      | (go_simp; go_at_call 37; refine (unhide KU1 _ (by first | exact Below.refl _ _ | exact Below.drew (Below.refl _ _))).mono ?_; rintro e w2 ⟨v2, rfl, f2⟩; obtain ⟨a2, c2, rfl, q2, _, _, z2, _⟩ := f2.1.parts; have B2 : Hid (Below w.heap.size w w2) := hide (by first | exact f2.2.2 | exact (Below.drew (Below.refl w.heap.size w)).trans (f2.2.2.mono (Nat.le_refl _))); have y2 : w2.cell? ⟨b, 0, none⟩ = some (.slice a1 m1 c1) := ((unhide B2).cell (p := ⟨b, 0, none⟩) hbl).trans yb; have Q2 := hide q2; clear f2 q2)
      | (refine step_row rfl (.tmp 14) (.tmp 16) rfl (.slice a1 m1 c1) s1.l (by rfl) (((unhide G2).later (unhide B2)).later (by first | exact Below.refl _ _ | exact Below.drew (Below.refl _ _))) a2 c2 X (by rfl) ((unhide Q2).later (by first | exact Below.refl _ _ | exact Below.drew (Below.refl _ _))) z2 (by omega) ?_; intro v3 w3 r3 t3 m3; obtain ⟨a3, n3, c3, rfl⟩ := r3.shape; have FA := hide ((unhide Q1).app (unhide G1) (unhide G3) (by first | exact unhide B2 | exact (unhide B2).trans ((Below.drew (Below.refl _ _)).mono (unhide B2).size)) r3 t3 m3); have h3 := t3.keep (below_keep (by first | exact Below.refl _ _ | exact Below.drew (Below.refl _ _)) (below_keep (unhide B2) (unhide G1))) (fun e => ((unhide G3) b e).2 rfl); have y3 : w3.cell? ⟨b, 0, none⟩ = some (.slice a1 m1 c1) := cell_of h3 0; have z3 := frozen_of h3 0; clear r3 t3 m3 h3))
    all_goals
      have FF : Hid (DD w0 N w b (dB s1 d) (.returned (.tuple #[])) (w3.setCell ⟨b, 0, none⟩ (.slice a3 n3 c3))) := by
        rw [unhide HC]
        exact ⟨rfl, (unhide FA).1, (unhide T1).trans (unhide FA).2⟩
      clear FA B2 y2 Q2 z2
      go_wp2
      go_returns
      exact unhide FF
set_option maxRecDepth 100000 in
set_option maxHeartbeats 4000000 in
theorem ints_d {ao : Option Addr} {c : Nat} (ls : List Int) (h : Lq w0 N w b s) (hb : IAt w ao ls) (hN : 0 < ls.length → ∀ x, ao = some x → N x.block) (hf : ∀ x ∈ ls, I64 x) (hl : s.l.length + 10 * ls.length ≤ 70368744177664) :
    Calls Try.prog 18 #[.pointer (some ⟨b, 0, none⟩), .slice ao ls.length c] w fun e w' => DD w0 N w b (dX s (encL ls)) e w' := by
  have HB := hide hb
  have HN := hide hN
  have HF := hide hf
  have H := hide h
  have HL := hide hl
  clear h hb hN hf hl
  go_enter Try.func18, Try.ntmps18
  go_wp2_with fail
  go_loopw [4] (fun i wr => ∃ k : Nat, k ≤ ls.length ∧ i = .int .i64 k ∧ Hid (Lq w0 N wr b (dX s (encL (ls.take k))) ∧ Touch (Off N) w wr)) (fun i _ => ls.length - (intOf i).toNat)
  case atStart => exact ⟨0, Nat.zero_le _, rfl, hide ⟨by have := unhide H; simpa [dX, encL] using this, Touch.refl _ _⟩⟩
  case round =>
    obtain ⟨k, hk, rfl, F⟩ := hrel
    by_cases hc : k < ls.length
    · obtain ⟨q1, t1⟩ := unhide F
      obtain ⟨cb, off, ea, hcb, hcell⟩ := (unhide HB).keep t1 (fun h0 x hx e => e (unhide HN h0 x hx)) k hc
      subst ea
      have hx := unhide HF (ls.getD k 0) (by simp [List.getD, hc])
      have ET := hide (encL_take ls k hc)
      have hroom : (encL (ls.take k)).length ≤ 10 * ls.length := by
        have e1 := encL_len (ls.take k) (fun y hy => unhide HF y (List.mem_of_mem_take hy))
        rw [List.length_take] at e1
        omega
      have hl := unhide HL
      have hls : (dX s (encL (ls.take k))).l.length ≤ 70368744177664 := by show (s.l ++ encL (ls.take k)).length ≤ _; rw [List.length_append]; omega
      have HD : Hid (dX (dX s (encL (ls.take k))) (enc (zig (ls.getD k 0))) = dX s (encL (ls.take (k + 1)))) := hide (by rw [unhide ET]; show Dv.mk ((s.l ++ _) ++ _) s.e s.g = Dv.mk (s.l ++ (_ ++ _)) s.e s.g; rw [List.append_assoc])
      have hc' : (k : Int) < (ls.length : Int) := by omega
      have KU1 : Hid (∀ W, Below wr.heap.size wr W → Calls Try.prog 17 #[.int .i64 (ls.getD k 0)] W fun e w' => ∃ v, e = .returned v ∧ Fresh W w' v (enc (zig (ls.getD k 0)))) := hide (fun W _ => eint_any _ W hx.1 hx.2)
      have z10 := enc_len10 (zig_lt hx.1 hx.2)
      have T1 := hide t1
      have hkl : ls.length ≤ 7036874417767 := by omega
      clear t1 hroom hl ET F
      generalize dX s (encL (ls.take k)) = s1 at *
      generalize ls.getD k 0 = x at *
      generalize enc (zig x) = X at *
      clear hx
      obtain ⟨v, g1, g2, g3⟩ := q1.out
      obtain ⟨a1, m1, c1, rfl⟩ := g2.shape
      have yb : wr.cell? ⟨b, 0, none⟩ = some (.slice a1 m1 c1) := cell_of g1 0
      have hbl := q1.lt
      have Q1 := hide q1
      have G1 := hide g1
      have G2 := hide g2
      have G3 := hide g3
      clear q1 g1 g2 g3
      go_wp2_with fail
      go_region_law (first
        | (go_simp; go_at_call 17; refine (unhide KU1 _ (by first | exact Below.refl _ _ | exact Below.drew (Below.refl _ _))).mono ?_; rintro e w2 ⟨v2, rfl, f2⟩; obtain ⟨a2, c2, rfl, q2, _, _, z2, _⟩ := f2.1.parts; have B2 : Hid (Below wr.heap.size wr w2) := hide (by first | exact f2.2.2 | exact (Below.drew (Below.refl wr.heap.size wr)).trans (f2.2.2.mono (Nat.le_refl _))); have y2 : w2.cell? ⟨b, 0, none⟩ = some (.slice a1 m1 c1) := ((unhide B2).cell (p := ⟨b, 0, none⟩) hbl).trans yb; have Q2 := hide q2; clear f2 q2)
        | (refine step_row rfl (.tmp 15) (.tmp 20) rfl (.slice a1 m1 c1) s1.l (by rfl) (((unhide G2).later (unhide B2)).later (by first | exact Below.refl _ _ | exact Below.drew (Below.refl _ _))) a2 c2 X (by rfl) ((unhide Q2).later (by first | exact Below.refl _ _ | exact Below.drew (Below.refl _ _))) z2 (by omega) ?_; intro v3 w3 r3 t3 m3; obtain ⟨a3, n3, c3, rfl⟩ := r3.shape; have FA := hide ((unhide Q1).app (unhide G1) (unhide G3) (by first | exact unhide B2 | exact (unhide B2).trans ((Below.drew (Below.refl _ _)).mono (unhide B2).size)) r3 t3 m3); have h3 := t3.keep (below_keep (by first | exact Below.refl _ _ | exact Below.drew (Below.refl _ _)) (below_keep (unhide B2) (unhide G1))) (fun e => ((unhide G3) b e).2 rfl); have y3 : w3.cell? ⟨b, 0, none⟩ = some (.slice a1 m1 c1) := cell_of h3 0; have z3 := frozen_of h3 0; clear r3 t3 m3 h3))
      all_goals
        have FF : Hid (Lq w0 N (w3.setCell ⟨b, 0, none⟩ (.slice a3 n3 c3)) b (dX s (encL (ls.take (k + 1)))) ∧ Touch (Off N) w (w3.setCell ⟨b, 0, none⟩ (.slice a3 n3 c3))) := by
          rw [← unhide HD]
          exact ⟨(unhide FA).1, (unhide T1).trans (unhide FA).2⟩
        clear FA B2 y2 Q2 z2
        go_wp2
        go_roundw
        case rel => exact ⟨k + 1, by omega, by go_num, FF⟩
        case measure => simp [intOf]; omega
    · obtain rfl : k = ls.length := by omega
      have FF : Hid (DD w0 N w b (dX s (encL ls)) (.returned (.tuple #[])) wr) := hide (by have := unhide F; rw [List.take_length] at this; exact ⟨rfl, this⟩)
      clear F
      go_wp2
      go_returns
      exact unhide FF
theorem dints_lit (ls : List Int) {vs : Array Value} (hv : vs = (ls.map (Value.int .i64)).toArray) (h : Lq w0 N w b s) (hf : ∀ x ∈ ls, I64 x) (hl : s.l.length + 10 * ls.length ≤ 70368744177664) :
    Calls Try.prog 18 #[.pointer (some ⟨b, 0, none⟩), .slice (some ⟨w.heap.size, 0, none⟩) ls.length ls.length] (w.alloc (.cells vs 3)) fun e w' => DD w0 N w b (dX s (encL ls)) e w' := by
  subst hv
  have hb := (Below.refl w.heap.size w).alloc (Nat.le_refl _) (.cells (ls.map (Value.int .i64)).toArray 3)
  refine (ints_d ls (h.grow hb) (IAt.lit w ls _) (fun h0 x hx => ?_) hf hl).mono ?_
  · cases hx
    exact .inr ⟨Nat.le_refl _, by simp⟩
  · rintro e w' ⟨he, q, t⟩
    exact ⟨he, Lq.leave q hb h.old h.low t⟩
end
end Go.Proofs.Ytblmondkdcpkaaa
