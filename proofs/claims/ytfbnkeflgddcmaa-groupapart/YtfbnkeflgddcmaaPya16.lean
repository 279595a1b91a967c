/-
  A slice of records, as it is read. No conditions beyond the reading and the sizes that the reach allows.
-/
import Derived.Test.YtfbnkeflgddcmaaPyg16
namespace Go.Proofs.Ytfbnkeflgddcmaa
open Go.RowKit Go.Deep Go.ChangeShapes
set_option linter.unusedVariables false

section
variable {H : Type} {enc_ : TypeId × Value → H} {w : World} {base : Nat} {held : Bool}
instance : Inhabited Gq := ⟨⟨0, 0, 0, [], 0, 0, none, 0⟩⟩
theorem grecs_read {fuel : Nat} {c : Value} {x : DataW H × List MemPlace} (h : DataW.trod enc_ Try.prog w base (fun _ => true) held fuel 40 [c] = some x) (hs : ∀ n ∈ x.1.weights Try.prog 40, n ≤ reachBytes) :
    ∃ (gs : List Gq) (a : Option Addr) (cap : Nat), c = .slice a gs.length cap ∧ gs.length * 64 ≤ reachBytes ∧ RowsAt gqL 6 w a gs ∧ ∀ g ∈ gs, GGot w g :=
  rows_read gqL 6 64 (GGot w) 29 40 Try.underlying40 cells16_rec bytes16_rec (by omega) (fun _ => rfl) (fun h hs => grec_open h hs) h hs
end
end Go.Proofs.Ytfbnkeflgddcmaa
