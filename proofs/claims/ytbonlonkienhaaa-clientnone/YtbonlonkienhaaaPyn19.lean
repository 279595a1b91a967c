/-
  A message as it is read: how many cells it has. No conditions.
-/
import Derived.Test.YtbonlonkienhaaaRows
import Derived.Test.YtbonlonkienhaaaBase
import Derived.Deep.Slices
import Derived.ChangeArms
import Derived.ChangeSlices
import Derived.SizedLaws
namespace Go.Proofs.Ytbonlonkienhaaa
open Go.RowKit Go.Deep Go.ChangeShapes
set_option linter.unusedVariables false

set_option maxRecDepth 100000 in
theorem cells19_msg : Try.prog.cellsOf 65 = 59 := by kernel_rfl
section
variable {H : Type} {enc_ : TypeId × Value → H} {w : World} {base : Nat} {held : Bool}
set_option maxRecDepth 100000 in
theorem msg19_read {fuel : Nat} {v : Value} {x : DataW H × List MemPlace} (h : DataW.trod enc_ Try.prog w base (fun _ => true) held fuel 65 v.cells.toList = some x) :
    ∃ M : List Value, v = .agg M.toArray ∧ M.length = 59 := by
  obtain ⟨xs, n, _, rfl, hlen, hxl, hf⟩ := DataW.trod_struct Try.underlying65 h
  rw [cells19_msg] at hlen
  cases v with
  | agg q => exact ⟨q.toList, by simp, by simpa [Value.cells] using hlen⟩
  | _ => simp [Value.cells] at hlen
end
end Go.Proofs.Ytbonlonkienhaaa
