/-
  The calls of a disk that there isn't. No conditions.
-/
import Derived.Test.YtfdpnfeaagijhaaDk6

namespace Go.Proofs.Ytfdpnfeaagijhaa
open Go.RowKit
set_option linter.unusedVariables false

theorem dappend_nil (s : ByteArray) (a : Option Addr) (n c : Nat) (w : World) :
    Calls Try.prog 18 #[.pointer none, .string s, .slice a n c] w fun e w' => e = .returned (.int .i64 5) ∧ w' = w := by
  go_enter Try.func18, Try.ntmps18
  go_wp2_with fail
  refine (find_nil s w).mono ?_
  rintro e w1 ⟨rfl, rfl⟩
  go_wp2
  go_returns
  exact ⟨rfl, rfl⟩
theorem dcrash_nil (n : Int) (w : World) :
    Calls Try.prog 14 #[.pointer none, .int .i64 n] w fun e w' => e = .returned (.tuple #[]) ∧ w' = w := by
  go_enter Try.func14, Try.ntmps14
  go_wp2
  go_returns
  exact ⟨rfl, rfl⟩
theorem dcut_nil (s : ByteArray) (n : Int) (w : World) :
    Calls Try.prog 24 #[.pointer none, .string s, .int .i64 n] w fun e w' => e = .returned (.int .i64 5) ∧ w' = w := by
  go_enter Try.func24, Try.ntmps24
  go_wp2_with fail
  refine (find_nil s w).mono ?_
  rintro e w1 ⟨rfl, rfl⟩
  go_wp2
  go_returns
  exact ⟨rfl, rfl⟩
theorem drename_nil (s t : ByteArray) (w : World) :
    Calls Try.prog 38 #[.pointer none, .string s, .string t] w fun e w' => e = .returned (.int .i64 5) ∧ w' = w := by
  go_enter Try.func38, Try.ntmps38
  go_wp2_with fail
  refine (working_nil w).mono ?_
  rintro e w1 ⟨rfl, rfl⟩
  go_wp2
  go_returns
  exact ⟨rfl, rfl⟩
theorem dnames_nil (w : World) :
    Calls Try.prog 46 #[.pointer none] w fun e w' => e = .returned (.slice none 0 0) ∧ w' = w := by
  go_enter Try.func46, Try.ntmps46
  go_wp2
  go_returns
  exact ⟨rfl, rfl⟩
end Go.Proofs.Ytfdpnfeaagijhaa
