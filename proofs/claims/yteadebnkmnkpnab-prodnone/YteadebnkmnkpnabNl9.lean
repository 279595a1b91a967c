/-
  A table that there isn't. No conditions.
-/
import Derived.Test.YteadebnkmnkpnabPd2
namespace Go.Proofs.Yteadebnkmnkpnab
open Go.RowKit
set_option linter.unusedVariables false

theorem apply_nil (b : Bt) (a : Option Addr) (cap : Nat) (w : World) : Calls Try.prog 4 #[.pointer none, bv b a cap] w fun e w' => AnsPost w (.tuple #[]) e w' := by
  obtain ⟨base, epoch, pid, pep, seq, txn, ctl, com, vs⟩ := b
  go_enter Try.func4, Try.ntmps4
  go_wp2
  go_returns
  exact ⟨rfl, (Below.refl _ _).alloc (Nat.le_refl _) _⟩
theorem check_nil (b : Bt) (a : Option Addr) (cap : Nat) (w : World) : Calls Try.prog 5 #[.pointer none, bv b a cap] w fun e w' => AnsPost w (.tuple #[.int .i64 0, .bool false, .int .i64 5]) e w' := by
  obtain ⟨base, epoch, pid, pep, seq, txn, ctl, com, vs⟩ := b
  go_enter Try.func5, Try.ntmps5
  go_wp2
  go_returns
  exact ⟨rfl, (Below.refl _ _).alloc (Nat.le_refl _) _⟩
theorem known_nil (n : Int) (w : World) : Calls Try.prog 6 #[.pointer none, .int .u64 n] w fun e w' => e = .returned (.tuple #[.int .i64 0, .int .i64 0, .int .i64 0, .bool false]) ∧ w' = w := by
  go_enter Try.func6, Try.ntmps6
  go_wp2
  go_returns
  exact ⟨rfl, rfl⟩
theorem unstable_nil (w : World) : Calls Try.prog 7 #[.pointer none] w fun e w' => e = .returned (.tuple #[.int .i64 0, .bool false]) ∧ w' = w := by
  go_enter Try.func7, Try.ntmps7
  go_wp2
  go_returns
  exact ⟨rfl, rfl⟩
theorem aborts_nil (n m : Int) (w : World) : Calls Try.prog 9 #[.pointer none, .int .i64 n, .int .i64 m] w fun e w' => e = .returned (.slice none 0 0) ∧ w' = w := by
  go_enter Try.func9, Try.ntmps9
  go_wp2
  go_returns
  exact ⟨rfl, rfl⟩
theorem pids_nil (w : World) : Calls Try.prog 10 #[.pointer none] w fun e w' => e = .returned (.slice none 0 0) ∧ w' = w := by
  go_enter Try.func10, Try.ntmps10
  go_wp2
  go_returns
  exact ⟨rfl, rfl⟩
end Go.Proofs.Yteadebnkmnkpnab
