/-
  An Op of layer 16, as it is read: how many cells it has. No conditions.
-/
import Derived.Test.YtjleplggfhdmiaaRows
import Derived.Test.YtjleplggfhdmiaaBase
import Derived.Deep.Slices
import Derived.ChangeArms
import Derived.ChangeSlices
import Derived.SizedLaws
namespace Go.Proofs.Ytjleplggfhdmiaa
open Go.RowKit Go.Deep Go.ChangeShapes
set_option linter.unusedVariables false

set_option maxRecDepth 100000 in
theorem cells16_op : Try.prog.cellsOf 27 = 17 := by kernel_rfl
section
variable {H : Type} {enc_ : TypeId × Value → H} {w : World} {base : Nat} {held : Bool}
set_option maxRecDepth 100000 in
theorem op16_read {fuel : Nat} {v : Value} {x : DataW H × List MemPlace} (h : DataW.trod enc_ Try.prog w base (fun _ => true) held fuel 27 v.cells.toList = some x) :
    ∃ c0 c1 c2 c3 c4 c5 c6 c7 c8 c9 c10 c11 c12 c13 c14 c15 c16 : Value, v = .agg #[c0, c1, c2, c3, c4, c5, c6, c7, c8, c9, c10, c11, c12, c13, c14, c15, c16] := by
  obtain ⟨xs, n, _, rfl, hlen, hxl, hf⟩ := DataW.trod_struct Try.underlying27 h
  rw [cells16_op] at hlen
  cases v with
  | agg q =>
    have hq : q.size = 17 := by simpa [Value.cells] using hlen
    match q, hq with
    | ⟨[c0, c1, c2, c3, c4, c5, c6, c7, c8, c9, c10, c11, c12, c13, c14, c15, c16]⟩, _ => exact ⟨c0, c1, c2, c3, c4, c5, c6, c7, c8, c9, c10, c11, c12, c13, c14, c15, c16, rfl⟩
  | _ => simp [Value.cells] at hlen
end
end Go.Proofs.Ytjleplggfhdmiaa
