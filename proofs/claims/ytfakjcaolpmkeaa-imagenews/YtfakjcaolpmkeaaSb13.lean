/-
  A partition that was told, in its box; its lists are written over. Conditions: as each says.
-/
import Derived.Test.YtfakjcaolpmkeaaSm13
import Derived.Deep.CutBlock
namespace Go.Proofs.Ytfakjcaolpmkeaa
open Go.RowKit Go.Maps
set_option linter.unusedVariables false

/-- A partition that was told, in its box, with its two lists. -/
structure PBx (w W : World) (pb : Nat) (x0 x1 x2 v3 : Value) (a1 : Option Addr) (n1 c1 : Nat) (a2 : Option Addr) (n2 c2 : Nat) : Prop where
  box : W.heap[pb]? = some (.cells #[x0, x1, x2, .slice a1 n1 c1, .slice a2 n2 c2, v3] 42)
  i1 : ∃ l : List Int, IL W (.slice a1 n1 c1) l ∧ l.length = n1
  i2 : ∃ l : List Int, IL W (.slice a2 n2 c2) l ∧ l.length = n2
  e1 : New w (.slice a1 n1 c1)
  e2 : New w (.slice a2 n2 c2)
  ap : Apt (.slice a1 n1 c1) (.slice a2 n2 c2)
  bl : Below w.heap.size w W
theorem PBx.quiet {w W W' : World} {pb : Nat} {x0 x1 x2 v3 : Value} {a1 a2 : Option Addr} {n1 c1 n2 c2 : Nat} (h : PBx w W pb x0 x1 x2 v3 a1 n1 c1 a2 n2 c2) (t : Touch (fun _ => False) W W') : PBx w W' pb x0 x1 x2 v3 a1 n1 c1 a2 n2 c2 := by
  obtain ⟨l1, p1, q1⟩ := h.i1
  obtain ⟨l2, p2, q2⟩ := h.i2
  exact ⟨t.keep h.box (fun h => h), ⟨l1, p1.keep t (fun _ _ h => h), q1⟩, ⟨l2, p2.keep t (fun _ _ h => h), q2⟩, h.e1, h.e2, h.ap, below_touch h.bl t h.bl.size (fun _ h => h.elim)⟩
theorem PBx.later {w W W' : World} {pb : Nat} {x0 x1 x2 v3 : Value} {a1 a2 : Option Addr} {n1 c1 n2 c2 : Nat} (h : PBx w W pb x0 x1 x2 v3 a1 n1 c1 a2 n2 c2) (b : Below W.heap.size W W') : PBx w W' pb x0 x1 x2 v3 a1 n1 c1 a2 n2 c2 := by
  obtain ⟨l1, p1, q1⟩ := h.i1
  obtain ⟨l2, p2, q2⟩ := h.i2
  exact ⟨below_keep b h.box, ⟨l1, p1.later b, q1⟩, ⟨l2, p2.later b, q2⟩, h.e1, h.e2, h.ap, h.bl.trans (b.mono h.bl.size)⟩
theorem IL.put {W : World} {a : Option Addr} {n c : Nat} {l : List Int} (h : IL W (.slice a n c) l) (hl : l.length = n) {i : Nat} (hi : i < n) : ∃ g, a = some ⟨g, 0, none⟩ ∧ (∃ v, W.cell? ⟨g, i, none⟩ = some v) ∧ W.frozen? ⟨g, i, none⟩ = false ∧ (∃ cs, W.heap[g]? = some (.cells cs 3)) ∧ ∀ y : Int, IL (W.setCell ⟨g, i, none⟩ (.int .i64 y)) (.slice a n c) (l.set i y) := by
  have hw : Wide W 3 1 (.slice a n c) (ints l).length (ints l) := h
  obtain ⟨a', cap, e, h1, h2, h3, h4, h5⟩ := hw.parts
  rw [ints_len] at e h5
  obtain ⟨g, rfl, hg, hc, hfz⟩ := h5 (by omega)
  injection e with e1 e2 e3
  subst e1 e3
  refine ⟨g, rfl, ⟨_, (hc i (by omega)).trans (ints_at (by omega))⟩, hfz i, hw.heap rfl, fun y => ?_⟩
  have hs : Wide W 3 1 (.slice (some ⟨g, 0, none⟩) n c) n (ints l) := by
    have := hw
    rw [ints_len, hl] at this
    exact this
  have := hs.set i (.int .i64 y)
  have e4 : (ints l).set i (.int .i64 y) = ints (l.set i y) := by simp [ints, List.map_set]
  rw [e4] at this
  show Wide _ 3 1 (.slice (some ⟨g, 0, none⟩) n c) (ints (l.set i y)).length (ints (l.set i y))
  rw [ints_len, List.length_set, hl]
  exact this
theorem PBx.put1 {w W : World} {pb : Nat} {x0 x1 x2 v3 : Value} {a1 a2 : Option Addr} {n1 c1 n2 c2 : Nat} (h : PBx w W pb x0 x1 x2 v3 a1 n1 c1 a2 n2 c2) {i : Nat} (hi : i < n1) : ∃ g, a1 = some ⟨g, 0, none⟩ ∧ (∃ v, W.cell? ⟨g, i, none⟩ = some v) ∧ W.frozen? ⟨g, i, none⟩ = false ∧ PBx w (W.setCell ⟨g, i, none⟩ (.int .i64 7)) pb x0 x1 x2 v3 a1 n1 c1 a2 n2 c2 := by
  obtain ⟨l1, p1, q1⟩ := h.i1
  obtain ⟨l2, p2, q2⟩ := h.i2
  obtain ⟨g, rfl, r1, r2, ⟨cs, r3⟩, r4⟩ := p1.put q1 hi
  have t := touch_set W g i (.int .i64 7)
  have hb : (Value.slice (some ⟨g, 0, none⟩) n1 c1).ownBlock = some g := rfl
  refine ⟨g, rfl, r1, r2, ⟨t.keep h.box (fun e => ?_), ⟨_, r4 7, by simpa using q1⟩, ⟨l2, p2.keep t (fun k hk e => h.ap g hb (by rw [← e]; exact hk)), q2⟩, h.e1, h.e2, h.ap, below_touch h.bl t h.bl.size (fun k hk => by rw [hk]; exact h.e1 g hb)⟩⟩
  have := h.box
  rw [e] at this
  exact absurd (ty_ne this r3) (by decide)
theorem PBx.put2 {w W : World} {pb : Nat} {x0 x1 x2 v3 : Value} {a1 a2 : Option Addr} {n1 c1 n2 c2 : Nat} (h : PBx w W pb x0 x1 x2 v3 a1 n1 c1 a2 n2 c2) {i : Nat} (hi : i < n2) : ∃ g, a2 = some ⟨g, 0, none⟩ ∧ (∃ v, W.cell? ⟨g, i, none⟩ = some v) ∧ W.frozen? ⟨g, i, none⟩ = false ∧ PBx w (W.setCell ⟨g, i, none⟩ (.int .i64 7)) pb x0 x1 x2 v3 a1 n1 c1 a2 n2 c2 := by
  obtain ⟨l1, p1, q1⟩ := h.i1
  obtain ⟨l2, p2, q2⟩ := h.i2
  obtain ⟨g, rfl, r1, r2, ⟨cs, r3⟩, r4⟩ := p2.put q2 hi
  have t := touch_set W g i (.int .i64 7)
  have hb : (Value.slice (some ⟨g, 0, none⟩) n2 c2).ownBlock = some g := rfl
  refine ⟨g, rfl, r1, r2, ⟨t.keep h.box (fun e => ?_), ⟨l1, p1.keep t (fun k hk e => h.ap k hk (by rw [e]; exact hb)), q1⟩, ⟨_, r4 7, by simpa using q2⟩, h.e1, h.e2, h.ap, below_touch h.bl t h.bl.size (fun k hk => by rw [hk]; exact h.e2 g hb)⟩⟩
  have := h.box
  rw [e] at this
  exact absurd (ty_ne this r3) (by decide)
end Go.Proofs.Ytfakjcaolpmkeaa
