/-
  FrameNone walked: it answers true. No conditions.
-/
import Derived.Test.YtnhociggoagpoacFr3
namespace Go.Proofs.Ytnhociggoagpoac
open Go.RowKit
set_option linter.unusedVariables false

theorem fscan_nil (w : World) (v : Value) :
    Calls Try.prog 8 #[.pointer none, v] w fun e w' => e = .returned (.tuple #[.slice none 0 0, .int .i64 0, .int .i64 5]) ∧ w' = w := by
  go_enter Try.func8, Try.ntmps8
  go_wp2
  go_returns
  exact ⟨rfl, rfl⟩

set_option maxRecDepth 100000 in
theorem frameNone_walk (v : Value) (w : World) :
    Calls Try.prog 4 #[v] w fun e w' => e = .returned (.bool true) ∧ Below w.heap.size w w' := by
  go_enter Try.func4, Try.ntmps4
  go_wp2_with fail
  refine (fencode_nil v).mono ?_
  rintro e w1 ⟨rfl, rfl⟩
  go_wp2_with fail
  refine (fdecode_nil v).mono ?_
  rintro e w2 ⟨rfl, rfl⟩
  go_wp2_with fail
  refine (fscan_nil _ v).mono ?_
  rintro e w3 ⟨rfl, rfl⟩
  go_wp2_with fail
  refine (awake4_any _).mono ?_
  rintro e w4 ⟨rfl, b4⟩
  have B4 := hide b4
  clear b4
  go_wp2
  go_returns
  exact ⟨rfl, unhide B4⟩
end Go.Proofs.Ytnhociggoagpoac
