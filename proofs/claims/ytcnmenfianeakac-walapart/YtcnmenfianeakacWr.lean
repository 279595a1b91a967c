/-
  codec.Writer's calls: Uint, Int, Flag, Fixed, Bytes, Ints, Out, NewWriter. Conditions: what is laid together has at most 2^47 bytes.
-/
import Derived.Test.YtcnmenfianeakacWr0
import Derived.Laws.Bits64
namespace Go.Proofs.Ytcnmenfianeakac
open Go.RowKit
set_option linter.unusedVariables false

theorem or128 (m : Nat) : bits BinOp.or IntKind.u8 ((m : Int) % 256) 128 = ((m % 128 + 128 : Nat) : Int) := by
  have := u8_or_nat (m % 256) 128 (by omega) (by omega)
  have e : m % 256 ||| 128 = m % 128 + 128 := by
    have h1 : m % 256 = m % 128 ∨ m % 256 = m % 128 + 128 := by omega
    have h2 : 128 ||| m % 128 = 128 + m % 128 := nat_join 7 128 (m % 128) (by decide) (by omega)
    rcases h1 with h | h
    · rw [h, Nat.or_comm, h2, Nat.add_comm]
    · rw [h, Nat.add_comm, ← h2, Nat.or_comm (128 ||| m % 128), ← Nat.or_assoc]; simp
  rw [e] at this
  simpa using this

/-- One byte is laid. -/
theorem lay_one (pv v : Value) (l : List Nat) (long : Bool) (x : Nat) (w : World) (h : WrV w pv v l long) (hx : x < 256) (hlen : l.length + 1 ≤ 140737488355328) :
    Calls Try.prog 48 #[pv, .slice (some ⟨w.heap.size, 0, none⟩) 1 1] (w.alloc (.cells #[.int .u8 (x : Int)] 5)) fun e w' => e = .returned (.tuple #[]) ∧ ∃ v', WrV w' pv v' (lays long l [x]) long ∧ Step pv w v w' v' := by
  have hb : Below w.heap.size w (w.alloc (.cells #[.int .u8 (x : Int)] 5)) := (Below.refl _ w).alloc (Nat.le_refl _) _
  refine (lay_any pv v l long (some ⟨w.heap.size, 0, none⟩) 1 [x] _ (h.later hb) (LAt.lit w [x] (by simpa using hx) _ rfl) (fun h => by cases h) hlen).mono ?_
  rintro e w' ⟨rfl, v', h1, s1⟩
  exact ⟨rfl, v', h1, Step.below hb s1 h.lt⟩

theorem u64_flip (a : Nat) (h : a < 18446744073709551616) : bits .xor .u64 (a : Int) 18446744073709551615 = ((18446744073709551615 - a : Nat) : Int) := by
  have h1 := bits_xor_u64_nat a 18446744073709551615 h (by omega)
  have e : a ^^^ 18446744073709551615 = 18446744073709551615 - a := by
    have e0 : 18446744073709551615 - a = 2 ^ 64 - (a + 1) := by omega
    rw [e0]
    apply Nat.eq_of_testBit_eq
    intro i
    have hr : a < 2 ^ 64 := h
    rw [Nat.testBit_two_pow_sub_succ hr, Nat.testBit_xor, show (18446744073709551615 : Nat) = 2 ^ 64 - 1 from rfl, Nat.testBit_two_pow_sub_one]
    by_cases hi : i < 64
    · simp [hi]
    · have : a.testBit i = false := Nat.testBit_lt_two_pow (Nat.lt_of_lt_of_le hr (Nat.pow_le_pow_right (by omega) (by omega)))
      simp [hi, this]
  rw [e] at h1
  exact h1
theorem wz_pos {i : Int} (h0 : 0 ≤ i) (h2 : i < 9223372036854775808) : bits BinOp.xor IntKind.u64 (i * 2) (i / 9223372036854775808) = ((zig i : Nat) : Int) := by
  obtain ⟨n, rfl⟩ := Int.eq_ofNat_of_zero_le h0
  have h1 := bits_xor_u64_nat (n * 2) 0 (by omega) (by omega)
  have e1 : (n : Int) / 9223372036854775808 = 0 := by omega
  have e2 : zig (n : Int) = n * 2 := by have := zig_pos h0; omega
  rw [e1, e2]
  simpa using h1
theorem wz_neg {i : Int} (h0 : ¬ 0 ≤ i) (h1 : -9223372036854775808 ≤ i) : bits BinOp.xor IntKind.u64 (IntKind.u64.wrap (IntKind.u64.wrap i * 2)) (IntKind.u64.wrap (i / 9223372036854775808)) = ((zig i : Nat) : Int) := by
  rw [IntKind.wrap_u64, IntKind.wrap_u64, IntKind.wrap_u64]
  have e1 : i / 9223372036854775808 % 18446744073709551616 = 18446744073709551615 := by omega
  obtain ⟨n, hn⟩ : ∃ n : Nat, i % 18446744073709551616 * 2 % 18446744073709551616 = (n : Int) := ⟨(i % 18446744073709551616 * 2 % 18446744073709551616).toNat, by omega⟩
  have hn2 : n < 18446744073709551616 := by omega
  rw [e1, hn, u64_flip n hn2]
  have e2 := zig_neg h0
  omega
theorem rz (n : Nat) (hn : n < 18446744073709551616) : bits BinOp.xor IntKind.i64 ((n : Int) / 2) (wrap64 (-wrap64 (bits BinOp.and IntKind.u64 (n : Int) 1))) = zag n := by
  have ha := u64_and_nat n 1 hn (by omega)
  rw [nat_mask1] at ha
  have ha' : bits BinOp.and IntKind.u64 (n : Int) 1 = ((n % 2 : Nat) : Int) := ha
  have en : (n : Int) / 2 = ((n / 2 : Nat) : Int) := by omega
  rw [ha', en]
  have hm : n / 2 < 9223372036854775808 := by omega
  rcases Nat.mod_two_eq_zero_or_one n with h | h
  · rw [h, zag_even h]
    have e1 : wrap64 (-wrap64 ((0 : Nat) : Int)) = 0 := by unfold wrap64; omega
    rw [e1]
    show IntKind.i64.wrap ((BitVec.ofInt 64 ((n / 2 : Nat) : Int) ^^^ BitVec.ofInt 64 0).toNat : Int) = _
    have h1 : BitVec.ofInt 64 0 = 0#64 := by decide
    rw [h1, BitVec.xor_zero, ofInt_u64 _ (by omega)]
    simp only [IntKind.wrap, IntKind.bits, IntKind.signed]
    simp
    omega
  · rw [h, zag_odd h]
    have e1 : wrap64 (-wrap64 ((1 : Nat) : Int)) = -1 := by unfold wrap64; omega
    rw [e1]
    show IntKind.i64.wrap ((BitVec.ofInt 64 ((n / 2 : Nat) : Int) ^^^ BitVec.ofInt 64 (-1)).toNat : Int) = _
    have h1 : BitVec.ofInt 64 (-1) = BitVec.allOnes 64 := by decide
    rw [h1, BitVec.xor_allOnes, BitVec.toNat_not, ofInt_u64 _ (by omega)]
    simp only [IntKind.wrap, IntKind.bits, IntKind.signed]
    simp
    omega

theorem flag_enc (q : Bool) : [q.toNat] = enc q.toNat := by rw [enc_lt (by cases q <;> simp)]
set_option maxRecDepth 100000 in
theorem wfix_any (pv v : Value) (l : List Nat) (long : Bool) (n : Nat) (w : World) (h : WrV w pv v l long) (hn : n < 4294967296) (hlen : l.length + 10 ≤ 140737488355328) :
    Calls Try.prog 36 #[pv, .int .u32 n] w fun e w' => e = .returned (.tuple #[]) ∧ ∃ v', WrV w' pv v' (lays long l (fix n)) long ∧ Step pv w v w' v' := by
  have hn4 : n / 16777216 % 256 = n / 16777216 := by omega
  have hcs : #[Value.int IntKind.u8 ((n : Int) % 256), Value.int IntKind.u8 ((n : Int) / 256 % 256), Value.int IntKind.u8 ((n : Int) / 65536 % 256), Value.int IntKind.u8 ((n : Int) / 16777216)].toList = vals (fix n) := by
    simp [vals, fix, hn4]
  have hb : Below w.heap.size w (w.alloc (.cells #[Value.int IntKind.u8 ((n : Int) % 256), Value.int IntKind.u8 ((n : Int) / 256 % 256), Value.int IntKind.u8 ((n : Int) / 65536 % 256), Value.int IntKind.u8 ((n : Int) / 16777216)] 5)) := (Below.refl _ w).alloc (Nat.le_refl _) _
  have K := hide (lay_any pv v l long (some ⟨w.heap.size, 0, none⟩) 4 (fix n) _ (h.later hb) (LAt.lit w (fix n) (fix_bytes n) _ hcs) (fun h => by cases h) (by simp [fix]; omega))
  have HB := hide hb
  have HL := hide h.lt
  clear h hcs hb
  go_enter Try.func36, Try.ntmps36
  go_wp2_with fail
  refine (unhide K).mono ?_
  rintro e w2 ⟨rfl, v2, h2, s2⟩
  have H2 := hide (And.intro h2 (Step.below (unhide HB) s2 (unhide HL)))
  clear h2 s2 K
  go_wp2
  go_returns
  exact ⟨rfl, v2, unhide H2⟩

theorem encL_take (ls : List Int) (k : Nat) (h : k < ls.length) : encL (ls.take (k + 1)) = encL (ls.take k) ++ enc (zig (ls.getD k 0)) := by
  have e : ls.take (k + 1) = ls.take k ++ [ls.getD k 0] := by
    rw [List.take_add_one]
    simp [List.getD, h]
  rw [e]
  simp [encL]

set_option maxRecDepth 100000 in
theorem out_any (b : Nat) (v : Value) (l : List Nat) (w : World) (h : WrAt w b v l false) (hl : l.length ≤ 140737488355328) :
    Calls Try.prog 38 #[.pointer (some ⟨b, 0, none⟩)] w fun e w' => ∃ vo, e = .returned (.tuple #[vo, .int .i64 0]) ∧ Row w' vo l ∧ New w vo ∧ Below w.heap.size w w' := by
  have c0 : w.cell? ⟨b, 0, none⟩ = some v := by rw [cell_of h.heap]; rfl
  have c1 : w.cell? ⟨b, 1, none⟩ = some (.bool false) := by rw [cell_of h.heap]; rfl
  obtain ⟨a, cap, rfl, hr, _, _, hn, _⟩ := h.row.parts
  have H := hide hr
  clear h hr
  go_enter Try.func38, Try.ntmps38
  go_wp2_with fail
  refine (clone_any a l cap _ (unhide H) hn hl).mono ?_
  rintro e w2 ⟨vo, rfl, h2⟩
  have H2 := hide h2
  clear h2
  go_wp2
  go_returns
  exact ⟨_, rfl, unhide H2⟩

theorem out_long (b : Nat) (v : Value) (l : List Nat) (w : World) (h : WrAt w b v l true) :
    Calls Try.prog 38 #[.pointer (some ⟨b, 0, none⟩)] w fun e w' => e = .returned (.tuple #[.slice none 0 0, .int .i64 2]) ∧ w' = w := by
  have c1 : w.cell? ⟨b, 1, none⟩ = some (.bool true) := by rw [cell_of h.heap]; rfl
  clear h
  go_enter Try.func38, Try.ntmps38
  go_wp2
  go_returns
  exact ⟨rfl, rfl⟩

theorem out_nil (w : World) :
    Calls Try.prog 38 #[.pointer none] w fun e w' => e = .returned (.tuple #[.slice none 0 0, .int .i64 5]) ∧ w' = w := by
  go_enter Try.func38, Try.ntmps38
  go_wp2
  go_returns
  exact ⟨rfl, rfl⟩

theorem newwriter_any (w : World) :
    Calls Try.prog 35 #[] w fun e w' => e = .returned (.pointer (some ⟨w.heap.size, 0, none⟩)) ∧ WrAt w' w.heap.size (.slice none 0 0) [] false ∧ Below w.heap.size w w' := by
  go_enter Try.func35, Try.ntmps35
  go_wp2
  go_returns
  exact ⟨rfl, ⟨heap_new _ _, Row.nil _, fun k hk => by simp [Value.ownBlock] at hk⟩, (Below.refl _ _).alloc (Nat.le_refl _) _⟩
end Go.Proofs.Ytcnmenfianeakac
