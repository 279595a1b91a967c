/-
  A list of ints as it is read. No conditions beyond the reading and the sizes that the reach allows.
-/
import Derived.Test.YthkeomdenlfimaaRows
import Derived.Test.YthkeomdenlfimaaIl0
import Derived.Deep.Slices
import Derived.ChangeArms
import Derived.ChangeSlices
import Derived.SizedLaws
namespace Go.Proofs.Ythkeomdenlfimaa
open Go.RowKit Go.Deep Go.ChangeShapes
set_option linter.unusedVariables false

theorem RowOf.ints {w : World} {a : Option Addr} {len : Nat} {f : Nat → Int} (h : RowOf .i64 w a len f) : ∃ ls : List Int, ls.length = len ∧ IAt w a ls ∧ ∀ x ∈ ls, -9223372036854775808 ≤ x ∧ x < 9223372036854775808 := by
  refine ⟨(List.range len).map f, by simp, fun i hi => ?_, fun x hx => ?_⟩
  · have hi' : i < len := by simpa using hi
    obtain ⟨b, off, h1, h2, h3, _⟩ := h i hi'
    refine ⟨b, off, h1, h2, ?_⟩
    have e : ((List.range len).map f).getD i 0 = f i := by simp [List.getD, hi']
    rw [e]; exact h3
  · obtain ⟨i, hi, rfl⟩ := List.mem_map.1 hx
    obtain ⟨b, off, _, _, _, h4⟩ := h i (List.mem_range.1 hi)
    have := bounds_i64 h4
    omega
set_option maxRecDepth 100000 in
theorem cells13_int : Try.prog.cellsOf 3 = 1 := by kernel_rfl
set_option maxRecDepth 100000 in
theorem cells13_sl : Try.prog.cellsOf 22 = 1 := by kernel_rfl
set_option maxRecDepth 100000 in
theorem bytes13_int : Try.prog.bytesOf 3 = 8 := by kernel_rfl
section
variable {H : Type} {enc_ : TypeId × Value → H} {w : World} {base : Nat} {held : Bool}
/-- A slice of ints. -/
theorem ints13_read {fuel : Nat} {c : Value} {x : DataW H × List MemPlace} (h : DataW.trod enc_ Try.prog w base (fun _ => true) held fuel 22 [c] = some x) (hs : ∀ n ∈ x.1.weights Try.prog 22, n ≤ reachBytes) :
    ∃ (l : List Int) (a : Option Addr) (cap : Nat), c = .slice a l.length cap ∧ IAt w a l ∧ l.length * 8 ≤ reachBytes ∧ (a = none → cap = 0) ∧ l.length ≤ cap ∧ ∀ x ∈ l, -9223372036854775808 ≤ x ∧ x < 9223372036854775808 := by
  rcases open_ints Try.underlying22 Try.underlying3 cells13_int h with ⟨hcs, hx⟩ | ⟨a, l, cap, zs, hcs, _, hl, hm, hz, hx, hcell, hwz⟩
  · cases hcs
    exact ⟨[], none, 0, rfl, (fun i hi => by cases hi), by simp, fun _ => rfl, Nat.le_refl _, (fun x hx => by cases hx)⟩
  · cases hcs
    have hz' : zs.length = cap := by simpa using hz
    have hR := RowOf.of (k := .i64) (cap := cap) (len := l) (zs := zs) (.inr ⟨_, rfl, hl, hm, hz', hcell, hwz⟩)
    obtain ⟨bs, e1, e2, e3⟩ := hR.1.ints
    subst e1
    refine ⟨bs, some a, cap, rfl, e2, ?_, (fun h => by cases h), hl, e3⟩
    rw [hx] at hs
    have := hs ((lits .i64 (zs.take bs.length) (H := H)).length * Try.prog.bytesOf 3 + (lits .i64 (zs.drop bs.length) (H := H)).length * Try.prog.bytesOf 3) (by simp [DataW.weights, Try.underlying22, Nat.add_mul])
    rw [bytes13_int] at this
    simp only [lits, List.length_map, List.length_take, List.length_drop] at this
    omega
end
end Go.Proofs.Ythkeomdenlfimaa
