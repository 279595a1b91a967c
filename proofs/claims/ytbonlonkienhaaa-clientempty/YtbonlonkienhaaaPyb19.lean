/-
  A row of truths, as it is read. No conditions beyond the reading and the sizes that the reach allows.
-/
import Derived.Test.YtbonlonkienhaaaPay19
namespace Go.Proofs.Ytbonlonkienhaaa
open Go.RowKit Go.Deep Go.ChangeShapes
set_option linter.unusedVariables false

set_option maxRecDepth 100000 in
theorem cells19_bool : Try.prog.cellsOf 4 = 1 := by kernel_rfl
set_option maxRecDepth 100000 in
theorem bytes19_bool : Try.prog.bytesOf 4 = 1 := by kernel_rfl
section
variable {H : Type} {enc_ : TypeId × Value → H} {w : World} {base : Nat} {held : Bool}
theorem bools19_read {fuel : Nat} {c : Value} {x : DataW H × List MemPlace} (h : DataW.trod enc_ Try.prog w base (fun _ => true) held fuel 33 [c] = some x) (hs : ∀ n ∈ x.1.weights Try.prog 33, n ≤ reachBytes) :
    ∃ (os : List Bool) (a : Option Addr) (cap : Nat), c = .slice a os.length cap ∧ os.length * 1 ≤ reachBytes ∧ RowsP (fun (q : Bool) => [Value.bool q]) 1 w a os := by
  obtain ⟨os, a, cap, e, l, r, _, _⟩ := rows_read (fun (q : Bool) => [Value.bool q]) 1 1 (fun _ => True) 4 33 Try.underlying33 cells19_bool bytes19_bool (by omega) (fun _ => rfl) (fun h hs => by
    obtain ⟨v, e, _⟩ := DataW.trod_bool Try.underlying4 h
    exact ⟨v, e, trivial⟩) h hs
  exact ⟨os, a, cap, e, l, r⟩
end
end Go.Proofs.Ytbonlonkienhaaa
