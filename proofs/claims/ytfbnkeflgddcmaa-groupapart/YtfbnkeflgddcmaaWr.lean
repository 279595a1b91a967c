/-
  codec.Writer's calls: Uint, Int, Flag, Fixed, Bytes, Ints, Out, NewWriter. Conditions: what is laid together has at most 2^47 bytes.
-/
import Derived.Test.YtfbnkeflgddcmaaWr0
import Derived.Laws.Bits64
namespace Go.Proofs.Ytfbnkeflgddcmaa
open Go.RowKit
set_option linter.unusedVariables false

theorem or128 (m : Nat) : bits BinOp.or IntKind.u8 ((m : Int) % 256) 128 = ((m % 128 + 128 : Nat) : Int) := by
  have := u8_or_nat (m % 256) 128 (by omega) (by omega)
  have e : m % 256 ||| 128 = m % 128 + 128 := by
    have h1 : m % 256 = m % 128 ∨ m % 256 = m % 128 + 128 := by omega
    have h2 : 128 ||| m % 128 = 128 + m % 128 := nat_join 7 128 (m % 128) (by decide) (by omega)
    rcases h1 with h | h
    · rw [h, Nat.or_comm, h2, Nat.add_comm]
    · rw [h, Nat.add_comm, ← h2, Nat.or_comm (128 ||| m % 128), ← Nat.or_assoc]; simp
  rw [e] at this
  simpa using this

theorem u64_flip (a : Nat) (h : a < 18446744073709551616) : bits .xor .u64 (a : Int) 18446744073709551615 = ((18446744073709551615 - a : Nat) : Int) := by
  have h1 := bits_xor_u64_nat a 18446744073709551615 h (by omega)
  have e : a ^^^ 18446744073709551615 = 18446744073709551615 - a := by
    have e0 : 18446744073709551615 - a = 2 ^ 64 - (a + 1) := by omega
    rw [e0]
    apply Nat.eq_of_testBit_eq
    intro i
    have hr : a < 2 ^ 64 := h
    rw [Nat.testBit_two_pow_sub_succ hr, Nat.testBit_xor, show (18446744073709551615 : Nat) = 2 ^ 64 - 1 from rfl, Nat.testBit_two_pow_sub_one]
    by_cases hi : i < 64
    · simp [hi]
    · have : a.testBit i = false := Nat.testBit_lt_two_pow (Nat.lt_of_lt_of_le hr (Nat.pow_le_pow_right (by omega) (by omega)))
      simp [hi, this]
  rw [e] at h1
  exact h1
theorem wz_pos {i : Int} (h0 : 0 ≤ i) (h2 : i < 9223372036854775808) : bits BinOp.xor IntKind.u64 (i * 2) (i / 9223372036854775808) = ((zig i : Nat) : Int) := by
  obtain ⟨n, rfl⟩ := Int.eq_ofNat_of_zero_le h0
  have h1 := bits_xor_u64_nat (n * 2) 0 (by omega) (by omega)
  have e1 : (n : Int) / 9223372036854775808 = 0 := by omega
  have e2 : zig (n : Int) = n * 2 := by have := zig_pos h0; omega
  rw [e1, e2]
  simpa using h1
theorem wz_neg {i : Int} (h0 : ¬ 0 ≤ i) (h1 : -9223372036854775808 ≤ i) : bits BinOp.xor IntKind.u64 (IntKind.u64.wrap (IntKind.u64.wrap i * 2)) (IntKind.u64.wrap (i / 9223372036854775808)) = ((zig i : Nat) : Int) := by
  rw [IntKind.wrap_u64, IntKind.wrap_u64, IntKind.wrap_u64]
  have e1 : i / 9223372036854775808 % 18446744073709551616 = 18446744073709551615 := by omega
  obtain ⟨n, hn⟩ : ∃ n : Nat, i % 18446744073709551616 * 2 % 18446744073709551616 = (n : Int) := ⟨(i % 18446744073709551616 * 2 % 18446744073709551616).toNat, by omega⟩
  have hn2 : n < 18446744073709551616 := by omega
  rw [e1, hn, u64_flip n hn2]
  have e2 := zig_neg h0
  omega
theorem rz (n : Nat) (hn : n < 18446744073709551616) : bits BinOp.xor IntKind.i64 ((n : Int) / 2) (wrap64 (-wrap64 (bits BinOp.and IntKind.u64 (n : Int) 1))) = zag n := by
  have ha := u64_and_nat n 1 hn (by omega)
  rw [nat_mask1] at ha
  have ha' : bits BinOp.and IntKind.u64 (n : Int) 1 = ((n % 2 : Nat) : Int) := ha
  have en : (n : Int) / 2 = ((n / 2 : Nat) : Int) := by omega
  rw [ha', en]
  have hm : n / 2 < 9223372036854775808 := by omega
  rcases Nat.mod_two_eq_zero_or_one n with h | h
  · rw [h, zag_even h]
    have e1 : wrap64 (-wrap64 ((0 : Nat) : Int)) = 0 := by unfold wrap64; omega
    rw [e1]
    show IntKind.i64.wrap ((BitVec.ofInt 64 ((n / 2 : Nat) : Int) ^^^ BitVec.ofInt 64 0).toNat : Int) = _
    have h1 : BitVec.ofInt 64 0 = 0#64 := by decide
    rw [h1, BitVec.xor_zero, ofInt_u64 _ (by omega)]
    simp only [IntKind.wrap, IntKind.bits, IntKind.signed]
    simp
    omega
  · rw [h, zag_odd h]
    have e1 : wrap64 (-wrap64 ((1 : Nat) : Int)) = -1 := by unfold wrap64; omega
    rw [e1]
    show IntKind.i64.wrap ((BitVec.ofInt 64 ((n / 2 : Nat) : Int) ^^^ BitVec.ofInt 64 (-1)).toNat : Int) = _
    have h1 : BitVec.ofInt 64 (-1) = BitVec.allOnes 64 := by decide
    rw [h1, BitVec.xor_allOnes, BitVec.toNat_not, ofInt_u64 _ (by omega)]
    simp only [IntKind.wrap, IntKind.bits, IntKind.signed]
    simp
    omega

theorem flag_enc (q : Bool) : [q.toNat] = enc q.toNat := by rw [enc_lt (by cases q <;> simp)]
theorem encL_take (ls : List Int) (k : Nat) (h : k < ls.length) : encL (ls.take (k + 1)) = encL (ls.take k) ++ enc (zig (ls.getD k 0)) := by
  have e : ls.take (k + 1) = ls.take k ++ [ls.getD k 0] := by
    rw [List.take_add_one]
    simp [List.getD, h]
  rw [e]
  simp [encL]

end Go.Proofs.Ytfbnkeflgddcmaa
