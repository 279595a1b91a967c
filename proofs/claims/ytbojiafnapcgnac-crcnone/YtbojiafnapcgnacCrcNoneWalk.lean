/-
  CrcNone returns true, whatever its arguments, and writes nothing that was there: what a nil table answers, and the nine digits' sum. Conditions: none.
-/
import Derived.Test.YtbojiafnapcgnacCrcDo
namespace Go.Proofs.Ytbojiafnapcgnac
open Go.RowKit

set_option maxRecDepth 100000 in
theorem crcNone_walk (s : Int) (a : Value) (w : World) :
    Calls Try.prog 3 #[.int .u32 s, a] w fun e w' => e = .returned (.bool true) ∧ Below w.heap.size w w' := by
  go_enter Try.func3, Try.ntmps3
  go_wp2_with (first
    | (go_at_call 4; refine (tawake_any _).mono ?_; rintro e w1 ⟨rfl, b1⟩; have B1 := hide b1; clear b1)
    | (go_at_call 5; refine (sum_nil _ _).mono ?_; rintro e w2 ⟨rfl, rfl⟩)
    | (go_at_call 6; refine (more_nil _ _ _).mono ?_; rintro e w2 ⟨rfl, rfl⟩))
  go_ret
  exact ⟨rfl, unhide B1⟩
end Go.Proofs.Ytbojiafnapcgnac
