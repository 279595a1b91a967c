/-
  codec.whole: the whole number at the front of bytes. Conditions: the bytes are at most 2^47.
-/
import Derived.Test.YtfbnkeflgddcmaaWr
namespace Go.Proofs.Ytfbnkeflgddcmaa
open Go.RowKit
set_option linter.unusedVariables false

theorem pow7 (k : Nat) : 2 ^ (7 * k) = (128 : Nat) ^ k := by rw [Nat.pow_mul]
theorem sh_fits {x k : Nat} (hk : k ≤ 9) (h9 : k = 9 → x ≤ 1) : x % 128 * 128 ^ k < 18446744073709551616 := by
  by_cases h : k = 9
  · subst h; rw [pow9]; have := h9 rfl; omega
  · have h1 : x % 128 * 128 ^ k ≤ 127 * 128 ^ k := Nat.mul_le_mul_right _ (by omega)
    have h2 : (128 : Nat) ^ (k + 1) ≤ 128 ^ 9 := Nat.pow_le_pow_right (by omega) (by omega)
    rw [Nat.pow_succ, pow9] at h2
    omega
theorem sh_wrap {x k : Nat} (hk : k ≤ 9) (h9 : k = 9 → x ≤ 1) : IntKind.u64.wrap ((x : Int) % 128 * 2 ^ (7 * k)) = ((x % 128 * 128 ^ k : Nat) : Int) := by
  have h1 := sh_fits hk h9
  have e : ((x : Int) % 128 * 2 ^ (7 * k)) = ((x % 128 * 128 ^ k : Nat) : Int) := by
    rw [← pow7]; simp
  rw [e, IntKind.wrap_u64]
  omega
theorem sum_fits {acc x k : Nat} (hk : k ≤ 9) (hacc : acc < 128 ^ k) (h9 : k = 9 → x ≤ 1) : acc + x % 128 * 128 ^ k < 18446744073709551616 := by
  by_cases h : k = 9
  · subst h; rw [pow9] at *; have := h9 rfl; omega
  · have h1 : x % 128 * 128 ^ k ≤ 127 * 128 ^ k := Nat.mul_le_mul_right _ (by omega)
    have h2 : (128 : Nat) ^ (k + 1) ≤ 128 ^ 9 := Nat.pow_le_pow_right (by omega) (by omega)
    rw [Nat.pow_succ, pow9] at h2
    omega
theorem or_step {acc x k : Nat} (hk : k ≤ 9) (hacc : acc < 128 ^ k) (h9 : k = 9 → x ≤ 1) : bits BinOp.or IntKind.u64 (acc : Int) (IntKind.u64.wrap ((x : Int) % 128 * 2 ^ (7 * k))) = ((acc + x % 128 * 128 ^ k : Nat) : Int) := by
  rw [sh_wrap hk h9, u64_or_nat acc _ (by have := sum_fits hk hacc h9; omega) (sh_fits hk h9)]
  congr 1
  have := nat_join (7 * k) (x % 128 * 128 ^ k) acc (by rw [pow7]; exact Nat.mul_mod_left _ _) (by rw [pow7]; exact hacc)
  rw [Nat.or_comm, this, Nat.add_comm]
theorem next_lt {acc x k : Nat} (hacc : acc < 128 ^ k) : acc + x % 128 * 128 ^ k < 128 ^ (k + 1) := by
  have h1 : x % 128 * 128 ^ k ≤ 127 * 128 ^ k := Nat.mul_le_mul_right _ (by omega)
  rw [Nat.pow_succ]; omega
theorem drop_at {t : List Nat} {k : Nat} (h : k < t.length) : t.drop k = t.getD k 0 :: t.drop (k + 1) := by
  rw [List.drop_eq_getElem_cons h]
  simp [List.getD, h]
theorem getD_mem {t : List Nat} {k : Nat} (h : k < t.length) : t.getD k 0 ∈ t := by simp [List.getD, h]

set_option maxRecDepth 100000 in
set_option maxHeartbeats 1000000 in
theorem whole_any (a : Option Addr) (cap : Nat) (t : List Nat) (w : World) (h : LAt w a t) (hl : t.length ≤ 140737488355328) :
    Calls Try.prog 50 #[.slice a t.length cap] w fun e w' => e = .returned (.tuple #[.int .u64 ((numA t 0 0).1 : Nat), .int .i64 ((numA t 0 0).2.1 : Nat), .int .i64 ((numA t 0 0).2.2 : Nat)]) ∧ w' = w := by
  have H := hide h
  clear h
  go_enter Try.func50, Try.ntmps50
  go_wp2_with fail
  go_loop [5, 10] (fun n i => ∃ k acc : Nat, k ≤ 9 ∧ k ≤ t.length ∧ i = .int .i64 k ∧ n = .int .u64 acc ∧ acc < 128 ^ k ∧ numA t 0 0 = numA (t.drop k) k acc) (fun _ i => t.length - (intOf i).toNat)
  case atStart => exact ⟨0, 0, by omega, by omega, rfl, rfl, by simp, rfl⟩
  case round =>
    obtain ⟨k, acc, hk, hkl, rfl, rfl, hacc, heq⟩ := hrel
    have HA := hide hacc
    clear hacc
    by_cases hc : k < t.length
    · obtain ⟨cb, off, rfl, hcb, hcell, hx⟩ := (unhide H).cell hc
      rw [drop_at hc] at heq
      generalize t.getD k 0 = x at *
      have HE := hide heq
      clear heq
      have hc' : (k : Int) < (t.length : Int) := by omega
      by_cases hbad : k = 9 ∧ 1 < x
      · have ER : Hid (numA t 0 0 = (0, 0, 7)) := by have := unhide HE; rw [numA_bad _ _ (.inl hbad)] at this; exact this
        obtain ⟨rfl, hx1⟩ := hbad
        have hx1' : (1 : Int) < (x : Int) := by omega
        go_wp2
        go_returns
        exact ⟨by rw [unhide ER]; rfl, rfl⟩
      · have h9 : k = 9 → x ≤ 1 := by omega
        have ho := or_step (x := x) hk (unhide HA) h9
        have HN := hide (next_lt (x := x) (unhide HA))
        by_cases hx8 : x < 128
        · have hx8' : (x : Int) < 128 := by omega
          have em : x % 128 = x := by omega
          have em' : (x : Int) % 128 = x := by omega
          by_cases hz : 0 < k ∧ x = 0
          · have ER : Hid (numA t 0 0 = (0, 0, 7)) := by have := unhide HE; rw [numA_bad _ _ (.inr hz)] at this; exact this
            obtain ⟨hz1, rfl⟩ := hz
            have hk0 : (0 : Int) < (k : Int) := by omega
            clear HN HE
            go_wp2
            all_goals go_returns
            all_goals exact ⟨by rw [unhide ER]; rfl, rfl⟩
          · have ER : Hid (numA t 0 0 = (acc + x * 128 ^ k, k + 1, 0)) := by have := unhide HE; rw [numA_last _ _ (by omega) hx8] at this; exact this
            rw [em, em'] at ho
            by_cases hk9 : k = 9
            · subst hk9
              have hx1 : ¬ (1 : Int) < (x : Int) := by omega
              by_cases hx0 : x = 0
              · omega
              · have hx0' : ¬ (x : Int) = 0 := by omega
                have ho' : bits BinOp.or IntKind.u64 (acc : Int) ((x : Int) * 9223372036854775808) = ((acc + x * 128 ^ 9 : Nat) : Int) := by
                  rw [← ho, IntKind.wrap_u64]
                  congr 1
                  omega
                go_wp2
                go_returns
                exact ⟨by rw [unhide ER]; rfl, rfl⟩
            · have hk9' : ¬ (k : Int) = 9 := by omega
              by_cases hx0 : x = 0
              · obtain rfl : k = 0 := by omega
                subst hx0
                have ha0 := unhide HA
                obtain rfl : acc = 0 := by simpa using ha0
                clear ha0 ho HN HE HA
                rw [Nat.add_zero] at hcell
                have hb0 : bits BinOp.or IntKind.u64 0 0 = 0 := by decide
                go_wp2
                go_returns
                exact ⟨by rw [unhide ER]; rfl, rfl⟩
              · have hx0' : ¬ (x : Int) = 0 := by omega
                go_wp2
                go_returns
                exact ⟨by rw [unhide ER]; rfl, rfl⟩
        · have hx8' : ¬ (x : Int) < 128 := by omega
          have hk9' : ¬ (k : Int) = 9 := by omega
          have ER : Hid (numA t 0 0 = numA (t.drop (k + 1)) (k + 1) (acc + x % 128 * 128 ^ k)) := by
            have := unhide HE; rw [numA_more _ _ (by omega) hx8] at this
            rw [show x - 128 = x % 128 by omega] at this; exact this
          go_wp2
          go_round
          case rel => exact ⟨k + 1, acc + x % 128 * 128 ^ k, by omega, by omega, by go_num, rfl, unhide HN, unhide ER⟩
          case measure => simp [intOf]; omega
    · obtain rfl : k = t.length := by omega
      have ER : Hid (numA t 0 0 = (0, 0, 6)) := by rw [List.drop_length] at heq; exact heq
      clear heq
      go_wp2
      go_returns
      exact ⟨by rw [unhide ER]; rfl, rfl⟩
end Go.Proofs.Ytfbnkeflgddcmaa
