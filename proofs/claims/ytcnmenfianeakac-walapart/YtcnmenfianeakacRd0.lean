/-
  codec.whole: the whole number at the front of bytes. Conditions: the bytes are at most 2^47.
-/
import Derived.Test.YtcnmenfianeakacWr
namespace Go.Proofs.Ytcnmenfianeakac
open Go.RowKit
set_option linter.unusedVariables false

theorem pow7 (k : Nat) : 2 ^ (7 * k) = (128 : Nat) ^ k := by rw [Nat.pow_mul]
theorem sh_fits {x k : Nat} (hk : k ≤ 9) (h9 : k = 9 → x ≤ 1) : x % 128 * 128 ^ k < 18446744073709551616 := by
  by_cases h : k = 9
  · subst h; rw [pow9]; have := h9 rfl; omega
  · have h1 : x % 128 * 128 ^ k ≤ 127 * 128 ^ k := Nat.mul_le_mul_right _ (by omega)
    have h2 : (128 : Nat) ^ (k + 1) ≤ 128 ^ 9 := Nat.pow_le_pow_right (by omega) (by omega)
    rw [Nat.pow_succ, pow9] at h2
    omega
theorem sh_wrap {x k : Nat} (hk : k ≤ 9) (h9 : k = 9 → x ≤ 1) : IntKind.u64.wrap ((x : Int) % 128 * 2 ^ (7 * k)) = ((x % 128 * 128 ^ k : Nat) : Int) := by
  have h1 := sh_fits hk h9
  have e : ((x : Int) % 128 * 2 ^ (7 * k)) = ((x % 128 * 128 ^ k : Nat) : Int) := by
    rw [← pow7]; simp
  rw [e, IntKind.wrap_u64]
  omega
theorem sum_fits {acc x k : Nat} (hk : k ≤ 9) (hacc : acc < 128 ^ k) (h9 : k = 9 → x ≤ 1) : acc + x % 128 * 128 ^ k < 18446744073709551616 := by
  by_cases h : k = 9
  · subst h; rw [pow9] at *; have := h9 rfl; omega
  · have h1 : x % 128 * 128 ^ k ≤ 127 * 128 ^ k := Nat.mul_le_mul_right _ (by omega)
    have h2 : (128 : Nat) ^ (k + 1) ≤ 128 ^ 9 := Nat.pow_le_pow_right (by omega) (by omega)
    rw [Nat.pow_succ, pow9] at h2
    omega
theorem or_step {acc x k : Nat} (hk : k ≤ 9) (hacc : acc < 128 ^ k) (h9 : k = 9 → x ≤ 1) : bits BinOp.or IntKind.u64 (acc : Int) (IntKind.u64.wrap ((x : Int) % 128 * 2 ^ (7 * k))) = ((acc + x % 128 * 128 ^ k : Nat) : Int) := by
  rw [sh_wrap hk h9, u64_or_nat acc _ (by have := sum_fits hk hacc h9; omega) (sh_fits hk h9)]
  congr 1
  have := nat_join (7 * k) (x % 128 * 128 ^ k) acc (by rw [pow7]; exact Nat.mul_mod_left _ _) (by rw [pow7]; exact hacc)
  rw [Nat.or_comm, this, Nat.add_comm]
theorem next_lt {acc x k : Nat} (hacc : acc < 128 ^ k) : acc + x % 128 * 128 ^ k < 128 ^ (k + 1) := by
  have h1 : x % 128 * 128 ^ k ≤ 127 * 128 ^ k := Nat.mul_le_mul_right _ (by omega)
  rw [Nat.pow_succ]; omega
theorem drop_at {t : List Nat} {k : Nat} (h : k < t.length) : t.drop k = t.getD k 0 :: t.drop (k + 1) := by
  rw [List.drop_eq_getElem_cons h]
  simp [List.getD, h]
theorem getD_mem {t : List Nat} {k : Nat} (h : k < t.length) : t.getD k 0 ∈ t := by simp [List.getD, h]

end Go.Proofs.Ytcnmenfianeakac
