/-
  The calls of a disk that there isn't. No conditions.
-/
import Derived.Test.YtcnmenfianeakacDk5
namespace Go.Proofs.Ytcnmenfianeakac
open Go.RowKit
set_option linter.unusedVariables false

theorem dappend_nil (s : ByteArray) (a : Option Addr) (n c : Nat) (w : World) :
    Calls Try.prog 26 #[.pointer none, .string s, .slice a n c] w fun e w' => e = .returned (.int .i64 5) ∧ w' = w := by
  go_enter Try.func26, Try.ntmps26
  go_wp2_with fail
  refine (find_nil s w).mono ?_
  rintro e w1 ⟨rfl, rfl⟩
  go_wp2
  go_returns
  exact ⟨rfl, rfl⟩
theorem dcrash_nil (n : Int) (w : World) :
    Calls Try.prog 14 #[.pointer none, .int .i64 n] w fun e w' => e = .returned (.tuple #[]) ∧ w' = w := by
  go_enter Try.func14, Try.ntmps14
  go_wp2
  go_returns
  exact ⟨rfl, rfl⟩
theorem dcut_nil (s : ByteArray) (n : Int) (w : World) :
    Calls Try.prog 30 #[.pointer none, .string s, .int .i64 n] w fun e w' => e = .returned (.int .i64 5) ∧ w' = w := by
  go_enter Try.func30, Try.ntmps30
  go_wp2_with fail
  refine (find_nil s w).mono ?_
  rintro e w1 ⟨rfl, rfl⟩
  go_wp2
  go_returns
  exact ⟨rfl, rfl⟩
theorem drename_nil (s t : ByteArray) (w : World) :
    Calls Try.prog 33 #[.pointer none, .string s, .string t] w fun e w' => e = .returned (.int .i64 5) ∧ w' = w := by
  go_enter Try.func33, Try.ntmps33
  go_wp2_with fail
  refine (working_nil w).mono ?_
  rintro e w1 ⟨rfl, rfl⟩
  go_wp2
  go_returns
  exact ⟨rfl, rfl⟩
theorem dnames_nil (w : World) :
    Calls Try.prog 46 #[.pointer none] w fun e w' => e = .returned (.slice none 0 0) ∧ w' = w := by
  go_enter Try.func46, Try.ntmps46
  go_wp2
  go_returns
  exact ⟨rfl, rfl⟩
end Go.Proofs.Ytcnmenfianeakac
