/-
  GateNone returns true, whatever its two numbers, and writes nothing that was there: by what each method does of a nil receiver. Conditions: none.
-/
import Derived.Test.YtbojiafnapcgnabOnceDo
import Derived.Test.YtbojiafnapcgnabMarks
import Derived.Test.YtbojiafnapcgnabCtr
namespace Go.Proofs.Ytbojiafnapcgnab
open Go.RowKit

set_option maxRecDepth 100000 in
set_option maxHeartbeats 1600000 in
theorem gateNone_walk (n i : Int) (w : World) :
    Calls Try.prog 3 #[.int .u64 n, .int .i64 i] w fun e w' => e = .returned (.bool true) ∧ Below w.heap.size w w' := by
  go_enter Try.func3, Try.ntmps3
  go_wp2_with (first
    | (go_at_call 9; refine (block_nil _ _).mono ?_; rintro e w' ⟨rfl, rfl⟩)
    | (go_at_call 10; refine (next_nil _).mono ?_; rintro e w' ⟨rfl, rfl⟩)
    | (go_at_call 11; refine (raise_nil _ _).mono ?_; rintro e w' ⟨rfl, rfl⟩)
    | (go_at_call 12; refine (left_nil _).mono ?_; rintro e w' ⟨rfl, rfl⟩)
    | (go_at_call 13; refine (value_nil _).mono ?_; rintro e w' ⟨rfl, rfl⟩)
    | (go_at_call 16; refine (setclear_nil _ _).1.mono ?_; rintro e w' ⟨rfl, rfl⟩)
    | (go_at_call 17; refine (setclear_nil _ _).2.mono ?_; rintro e w' ⟨rfl, rfl⟩)
    | (go_at_call 18; refine (has_nil _ _).mono ?_; rintro e w' ⟨rfl, rfl⟩)
    | (go_at_call 19; refine (count_nil _).mono ?_; rintro e w' ⟨rfl, rfl⟩)
    | (go_at_call 14; refine (awake_any _).mono ?_; rintro e w1 ⟨rfl, b1⟩; have B1 := hide b1; clear b1)
    | (go_at_call 15; refine (do_nil _ _).mono ?_; rintro e w2 ⟨rfl, b2⟩; have B2 := hide ((unhide B1).trans (b2.mono (unhide B1).size)); clear b2))
  go_ret
  exact ⟨rfl, unhide B2⟩
end Go.Proofs.Ytbojiafnapcgnab
