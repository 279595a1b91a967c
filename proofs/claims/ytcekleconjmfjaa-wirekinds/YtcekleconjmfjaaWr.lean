/-
  codec.Writer's calls: Uint, Int, Flag, Fixed, Bytes, Ints, Out, NewWriter. Conditions: what is laid together has at most 2^47 bytes.
-/
import Derived.Test.YtcekleconjmfjaaWr0
import Derived.Laws.Bits64
namespace Go.Proofs.Ytcekleconjmfjaa
open Go.RowKit
set_option linter.unusedVariables false

theorem or128 (m : Nat) : bits BinOp.or IntKind.u8 ((m : Int) % 256) 128 = ((m % 128 + 128 : Nat) : Int) := by
  have := u8_or_nat (m % 256) 128 (by omega) (by omega)
  have e : m % 256 ||| 128 = m % 128 + 128 := by
    have h1 : m % 256 = m % 128 ∨ m % 256 = m % 128 + 128 := by omega
    have h2 : 128 ||| m % 128 = 128 + m % 128 := nat_join 7 128 (m % 128) (by decide) (by omega)
    rcases h1 with h | h
    · rw [h, Nat.or_comm, h2, Nat.add_comm]
    · rw [h, Nat.add_comm, ← h2, Nat.or_comm (128 ||| m % 128), ← Nat.or_assoc]; simp
  rw [e] at this
  simpa using this

/-- One byte is laid. -/
theorem lay_one (pv v : Value) (l : List Nat) (long : Bool) (x : Nat) (w : World) (h : WrV w pv v l long) (hx : x < 256) (hlen : l.length + 1 ≤ 140737488355328) :
    Calls Try.prog 84 #[pv, .slice (some ⟨w.heap.size, 0, none⟩) 1 1] (w.alloc (.cells #[.int .u8 (x : Int)] 5)) fun e w' => e = .returned (.tuple #[]) ∧ ∃ v', WrV w' pv v' (lays long l [x]) long ∧ Step pv w v w' v' := by
  have hb : Below w.heap.size w (w.alloc (.cells #[.int .u8 (x : Int)] 5)) := (Below.refl _ w).alloc (Nat.le_refl _) _
  refine (lay_any pv v l long (some ⟨w.heap.size, 0, none⟩) 1 [x] _ (h.later hb) (LAt.lit w [x] (by simpa using hx) _ rfl) (fun h => by cases h) hlen).mono ?_
  rintro e w' ⟨rfl, v', h1, s1⟩
  exact ⟨rfl, v', h1, Step.below hb s1 h.lt⟩

set_option maxRecDepth 100000 in
theorem wuint_any (pv v : Value) (l : List Nat) (long : Bool) (n : Nat) (w : World) (h : WrV w pv v l long) (hn : n < 18446744073709551616) (hlen : l.length + 10 ≤ 140737488355328) :
    Calls Try.prog 65 #[pv, .int .u64 n] w fun e w' => e = .returned (.tuple #[]) ∧ ∃ v', WrV w' pv v' (lays long l (enc n)) long ∧ Step pv w v w' v' := by
  have H := hide h
  have L10 := hide (enc_len10 hn)
  clear h
  go_enter Try.func65, Try.ntmps65
  go_wp2_with fail
  go_loopw [1] (fun i wr => ∃ (m : Nat) (pre : List Nat) (v' : Value), m < 18446744073709551616 ∧ i = .int .u64 m ∧ pre ++ enc m = enc n ∧ WrV wr pv v' (lays long l pre) long ∧ Step pv w v wr v') (fun i _ => (intOf i).toNat)
  case atStart => exact ⟨n, [], v, hn, rfl, rfl, by rw [lays_nil]; exact unhide H, Step.refl _ _ _⟩
  case round =>
    obtain ⟨m, pre, v1, hm, rfl, hp, h1, s1⟩ := hrel
    have HP := hide hp
    have H1 := hide h1
    have S1 := hide s1
    have hl1 : Hid ((lays long l pre).length + 1 ≤ 140737488355328) := by
      have e1 := lays_len long l pre
      have e2 := congrArg List.length hp
      have e3 := enc_pos m
      have e4 := unhide L10
      rw [List.length_append] at e2
      show _ ≤ _
      omega
    clear hp h1 s1
    by_cases hc : m < 128
    · have hw : (m : Int) % 256 = m := by omega
      have hc' : (m : Int) < 128 := by omega
      go_wp2_with fail
      refine (lay_one pv v1 (lays long l pre) long m _ (unhide H1) (by omega) (unhide hl1)).mono ?_
      rintro e w2 ⟨rfl, v2, h2, s2⟩
      have K : Hid (WrV w2 pv v2 (lays long l (enc n)) long ∧ Step pv w v w2 v2) := by
        refine ⟨?_, (unhide S1).trans s2⟩
        rw [lays_lays, ← enc_lt hc, unhide HP] at h2
        exact h2
      clear h2 s2
      go_wp2
      go_returns
      exact ⟨rfl, v2, unhide K⟩
    · have hc' : ¬ (m : Int) < 128 := by omega
      have ho := or128 m
      go_wp2_with fail
      refine (lay_one pv v1 (lays long l pre) long (m % 128 + 128) _ (unhide H1) (by omega) (unhide hl1)).mono ?_
      rintro e w2 ⟨rfl, v2, h2, s2⟩
      have K : Hid (WrV w2 pv v2 (lays long l (pre ++ [m % 128 + 128])) long ∧ Step pv w v w2 v2) := by
        refine ⟨?_, (unhide S1).trans s2⟩
        rw [lays_lays] at h2
        exact h2
      have HQ : Hid ((pre ++ [m % 128 + 128]) ++ enc (m / 128) = enc n) := by
        show _ = _
        rw [List.append_assoc, List.singleton_append, ← enc_ge hc]
        exact unhide HP
      clear h2 s2
      go_wp2
      go_roundw
      case rel => exact ⟨m / 128, _, v2, by omega, by go_num, unhide HQ, unhide K⟩
      case measure => simp [intOf]; omega

theorem u64_flip (a : Nat) (h : a < 18446744073709551616) : bits .xor .u64 (a : Int) 18446744073709551615 = ((18446744073709551615 - a : Nat) : Int) := by
  have h1 := bits_xor_u64_nat a 18446744073709551615 h (by omega)
  have e : a ^^^ 18446744073709551615 = 18446744073709551615 - a := by
    have e0 : 18446744073709551615 - a = 2 ^ 64 - (a + 1) := by omega
    rw [e0]
    apply Nat.eq_of_testBit_eq
    intro i
    have hr : a < 2 ^ 64 := h
    rw [Nat.testBit_two_pow_sub_succ hr, Nat.testBit_xor, show (18446744073709551615 : Nat) = 2 ^ 64 - 1 from rfl, Nat.testBit_two_pow_sub_one]
    by_cases hi : i < 64
    · simp [hi]
    · have : a.testBit i = false := Nat.testBit_lt_two_pow (Nat.lt_of_lt_of_le hr (Nat.pow_le_pow_right (by omega) (by omega)))
      simp [hi, this]
  rw [e] at h1
  exact h1
theorem wz_pos {i : Int} (h0 : 0 ≤ i) (h2 : i < 9223372036854775808) : bits BinOp.xor IntKind.u64 (i * 2) (i / 9223372036854775808) = ((zig i : Nat) : Int) := by
  obtain ⟨n, rfl⟩ := Int.eq_ofNat_of_zero_le h0
  have h1 := bits_xor_u64_nat (n * 2) 0 (by omega) (by omega)
  have e1 : (n : Int) / 9223372036854775808 = 0 := by omega
  have e2 : zig (n : Int) = n * 2 := by have := zig_pos h0; omega
  rw [e1, e2]
  simpa using h1
theorem wz_neg {i : Int} (h0 : ¬ 0 ≤ i) (h1 : -9223372036854775808 ≤ i) : bits BinOp.xor IntKind.u64 (IntKind.u64.wrap (IntKind.u64.wrap i * 2)) (IntKind.u64.wrap (i / 9223372036854775808)) = ((zig i : Nat) : Int) := by
  rw [IntKind.wrap_u64, IntKind.wrap_u64, IntKind.wrap_u64]
  have e1 : i / 9223372036854775808 % 18446744073709551616 = 18446744073709551615 := by omega
  obtain ⟨n, hn⟩ : ∃ n : Nat, i % 18446744073709551616 * 2 % 18446744073709551616 = (n : Int) := ⟨(i % 18446744073709551616 * 2 % 18446744073709551616).toNat, by omega⟩
  have hn2 : n < 18446744073709551616 := by omega
  rw [e1, hn, u64_flip n hn2]
  have e2 := zig_neg h0
  omega
theorem rz (n : Nat) (hn : n < 18446744073709551616) : bits BinOp.xor IntKind.i64 ((n : Int) / 2) (wrap64 (-wrap64 (bits BinOp.and IntKind.u64 (n : Int) 1))) = zag n := by
  have ha := u64_and_nat n 1 hn (by omega)
  rw [nat_mask1] at ha
  have ha' : bits BinOp.and IntKind.u64 (n : Int) 1 = ((n % 2 : Nat) : Int) := ha
  have en : (n : Int) / 2 = ((n / 2 : Nat) : Int) := by omega
  rw [ha', en]
  have hm : n / 2 < 9223372036854775808 := by omega
  rcases Nat.mod_two_eq_zero_or_one n with h | h
  · rw [h, zag_even h]
    have e1 : wrap64 (-wrap64 ((0 : Nat) : Int)) = 0 := by unfold wrap64; omega
    rw [e1]
    show IntKind.i64.wrap ((BitVec.ofInt 64 ((n / 2 : Nat) : Int) ^^^ BitVec.ofInt 64 0).toNat : Int) = _
    have h1 : BitVec.ofInt 64 0 = 0#64 := by decide
    rw [h1, BitVec.xor_zero, ofInt_u64 _ (by omega)]
    simp only [IntKind.wrap, IntKind.bits, IntKind.signed]
    simp
    omega
  · rw [h, zag_odd h]
    have e1 : wrap64 (-wrap64 ((1 : Nat) : Int)) = -1 := by unfold wrap64; omega
    rw [e1]
    show IntKind.i64.wrap ((BitVec.ofInt 64 ((n / 2 : Nat) : Int) ^^^ BitVec.ofInt 64 (-1)).toNat : Int) = _
    have h1 : BitVec.ofInt 64 (-1) = BitVec.allOnes 64 := by decide
    rw [h1, BitVec.xor_allOnes, BitVec.toNat_not, ofInt_u64 _ (by omega)]
    simp only [IntKind.wrap, IntKind.bits, IntKind.signed]
    simp
    omega

set_option maxRecDepth 100000 in
theorem wint_any (pv v : Value) (l : List Nat) (long : Bool) (i : Int) (w : World) (h : WrV w pv v l long) (h1 : -9223372036854775808 ≤ i) (h2 : i < 9223372036854775808) (hlen : l.length + 10 ≤ 140737488355328) :
    Calls Try.prog 57 #[pv, .int .i64 i] w fun e w' => e = .returned (.tuple #[]) ∧ ∃ v', WrV w' pv v' (lays long l (enc (zig i))) long ∧ Step pv w v w' v' := by
  have H := hide h
  clear h
  by_cases h0 : 0 ≤ i
  · go_enter Try.func57, Try.ntmps57
    go_wp2_with fail
    rw [wz_pos h0 h2]
    refine (wuint_any pv v l long (zig i) _ (unhide H) (zig_lt h1 h2) hlen).mono ?_
    rintro e w2 ⟨rfl, h2⟩
    have H2 := hide h2
    clear h2
    go_wp2
    go_returns
    exact ⟨rfl, unhide H2⟩
  · go_enter Try.func57, Try.ntmps57
    go_wp2_with fail
    rw [wz_neg (by omega) h1]
    refine (wuint_any pv v l long (zig i) _ (unhide H) (zig_lt h1 h2) hlen).mono ?_
    rintro e w2 ⟨rfl, h2⟩
    have H2 := hide h2
    clear h2
    go_wp2
    go_returns
    exact ⟨rfl, unhide H2⟩

theorem flag_enc (q : Bool) : [q.toNat] = enc q.toNat := by rw [enc_lt (by cases q <;> simp)]
set_option maxRecDepth 100000 in
theorem wflag_any (pv v : Value) (l : List Nat) (long : Bool) (q : Bool) (w : World) (h : WrV w pv v l long) (hlen : l.length + 10 ≤ 140737488355328) :
    Calls Try.prog 58 #[pv, .bool q] w fun e w' => e = .returned (.tuple #[]) ∧ ∃ v', WrV w' pv v' (lays long l [q.toNat]) long ∧ Step pv w v w' v' := by
  rw [flag_enc]
  have H := hide h
  clear h
  cases q
  · go_enter Try.func58, Try.ntmps58
    go_wp2_with fail
    refine (wuint_any pv v l long 0 _ (unhide H) (by omega) hlen).mono ?_
    rintro e w2 ⟨rfl, h2⟩
    have H2 := hide h2
    clear h2
    go_wp2
    go_returns
    exact ⟨rfl, unhide H2⟩
  · go_enter Try.func58, Try.ntmps58
    go_wp2_with fail
    refine (wuint_any pv v l long 1 _ (unhide H) (by omega) hlen).mono ?_
    rintro e w2 ⟨rfl, h2⟩
    have H2 := hide h2
    clear h2
    go_wp2
    go_returns
    exact ⟨rfl, unhide H2⟩

set_option maxRecDepth 100000 in
theorem wbytes_any (pv v : Value) (l : List Nat) (long : Bool) (ao : Option Addr) (c : Nat) (l2 : List Nat) (w : World) (h : WrV w pv v l long) (hb : LAt w ao l2) (hnone : ao = none → c = 0) (hs : 0 < l2.length → ∀ x, ao = some x → ¬ Mine pv v x.block) (h4 : l2.length ≤ 4096) (hlen : l.length + 10 + l2.length ≤ 140737488355328) :
    Calls Try.prog 61 #[pv, .slice ao l2.length c] w fun e w' => e = .returned (.tuple #[]) ∧ ∃ v', WrV w' pv v' (lays long l (enc l2.length ++ l2)) long ∧ Step pv w v w' v' := by
  have H := hide h
  have HB := hide hb
  have HS := hide hs
  clear h hb hs
  have h4' : ¬ (4096 : Int) < (l2.length : Int) := by omega
  go_enter Try.func61, Try.ntmps61
  go_wp2_with fail
  refine (wuint_any pv v l long l2.length _ (unhide H) (by omega) (by omega)).mono ?_
  rintro e w2 ⟨rfl, v2, h2, s2⟩
  have H2 := hide h2
  have S2 := hide s2
  clear h2 s2
  go_wp2_with fail
  refine (lay_any pv v2 (lays long l (enc l2.length)) long ao c l2 _ (unhide H2) ((unhide HB).keep (unhide S2).touch (unhide HS)) hnone (by have := lays_len long l (enc l2.length); have := enc_len10 (n := l2.length) (by omega); omega)).mono ?_
  rintro e w3 ⟨rfl, v3, h3, s3⟩
  rw [lays_lays] at h3
  have H3 := hide (And.intro h3 ((unhide S2).trans s3))
  clear h3 s3 S2 H2
  go_wp2
  go_returns
  exact ⟨rfl, v3, unhide H3⟩

set_option maxRecDepth 100000 in
theorem wbytes_long (pv v : Value) (l : List Nat) (long : Bool) (ao : Option Addr) (n c : Nat) (w : World) (h : WrV w pv v l long) (h4 : 4096 < n) :
    Calls Try.prog 61 #[pv, .slice ao n c] w fun e w' => e = .returned (.tuple #[]) ∧ WrV w' pv (.slice none 0 0) [] true ∧ Step pv w v w' (.slice none 0 0) := by
  have H := hide h
  clear h
  have h4' : (4096 : Int) < (n : Int) := by omega
  go_enter Try.func61, Try.ntmps61
  go_wp2_with fail
  refine (refuse_any pv v l long _ (unhide H)).mono ?_
  rintro e w2 ⟨rfl, h2⟩
  have H2 := hide h2
  clear h2
  go_wp2
  go_returns
  exact ⟨rfl, unhide H2⟩

theorem encL_take (ls : List Int) (k : Nat) (h : k < ls.length) : encL (ls.take (k + 1)) = encL (ls.take k) ++ enc (zig (ls.getD k 0)) := by
  have e : ls.take (k + 1) = ls.take k ++ [ls.getD k 0] := by
    rw [List.take_add_one]
    simp [List.getD, h]
  rw [e]
  simp [encL]

set_option maxRecDepth 100000 in
theorem wints_any (pv v : Value) (l : List Nat) (long : Bool) (ao : Option Addr) (c : Nat) (ls : List Int) (w : World) (h : WrV w pv v l long) (hb : IAt w ao ls) (hs : 0 < ls.length → ∀ x, ao = some x → ¬ Mine pv v x.block) (hf : ∀ x ∈ ls, -9223372036854775808 ≤ x ∧ x < 9223372036854775808) (hls : ls.length ≤ 9223372036854775807) (hlen : l.length + 10 + 10 * ls.length ≤ 140737488355328 ∨ pv = .pointer none ∧ l = [] ∧ long = true) :
    Calls Try.prog 67 #[pv, .slice ao ls.length c] w fun e w' => e = .returned (.tuple #[]) ∧ ∃ v', WrV w' pv v' (lays long l (enc ls.length ++ encL ls)) long ∧ Step pv w v w' v' := by
  have room : ∀ x : List Nat, x.length ≤ 10 * ls.length → (lays long l x).length + 10 ≤ 140737488355328 := by
    intro x hx
    rcases hlen with h' | ⟨_, rfl, rfl⟩
    · have := lays_len long l x; omega
    · simp [lays]
  have room2 : ∀ x : List Nat, x.length + 10 ≤ 10 + 10 * ls.length → (lays long l x).length + 10 ≤ 140737488355328 := fun x hx => room x (by omega)
  have H := hide h
  have HB := hide hb
  have HS := hide hs
  have HF := hide hf
  have R := hide room
  have L0 : l.length + 10 ≤ 140737488355328 := by have := room [] (by simp); rw [lays_nil] at this; exact this
  clear h hb hs hf room room2 hlen
  go_enter Try.func67, Try.ntmps67
  go_wp2_with fail
  refine (wuint_any pv v l long ls.length _ (unhide H) (by omega) L0).mono ?_
  rintro e w2 ⟨rfl, v2, h2, s2⟩
  have H2 := hide h2
  have S2 := hide s2
  clear h2 s2
  go_wp2_with fail
  go_loopw [13] (fun i wr => ∃ (k : Nat) (v' : Value), k ≤ ls.length ∧ i = .int .i64 k ∧ WrV wr pv v' (lays long l (enc ls.length ++ encL (ls.take k))) long ∧ Step pv w v wr v') (fun i _ => ls.length - (intOf i).toNat)
  case atStart => exact ⟨0, v2, Nat.zero_le _, rfl, by simpa [encL] using unhide H2, unhide S2⟩
  case round =>
    obtain ⟨k, v3, hk, rfl, h3, s3⟩ := hrel
    have H3 := hide h3
    have S3 := hide s3
    clear h3 s3 H2 S2
    by_cases hc : k < ls.length
    · obtain ⟨cb, off, rfl, hcb, hcell⟩ := (unhide HB).keep (unhide S3).touch (unhide HS) k hc
      have hx := unhide HF (ls.getD k 0) (by simp [List.getD, hc])
      have ET := hide (encL_take ls k hc)
      generalize ls.getD k 0 = x at *
      have hc' : (k : Int) < (ls.length : Int) := by omega
      go_wp2_with fail
      refine (wint_any pv v3 (lays long l (enc ls.length ++ encL (ls.take k))) long x _ (unhide H3) hx.1 hx.2 ?_).mono ?_
      · refine unhide R _ ?_
        rw [List.length_append]
        have e1 := encL_len (ls.take k) (fun y hy => unhide HF y (List.mem_of_mem_take hy))
        have e2 := enc_len10 (n := ls.length) (by omega)
        rw [List.length_take] at e1
        omega
      rintro e w4 ⟨rfl, v4, h4, s4⟩
      rw [lays_lays, List.append_assoc, ← unhide ET] at h4
      have H4 := hide (And.intro h4 ((unhide S3).trans s4))
      clear h4 s4
      go_wp2
      go_roundw
      case rel => exact ⟨k + 1, v4, by omega, by go_num, unhide H4⟩
      case measure => simp [intOf]; omega
    · obtain rfl : k = ls.length := by omega
      have H4 : Hid (WrV wr pv v3 (lays long l (enc ls.length ++ encL ls)) long) := by have := unhide H3; rw [List.take_length] at this; exact this
      go_wp2
      go_returns
      exact ⟨rfl, v3, unhide H4, unhide S3⟩

set_option maxRecDepth 100000 in
theorem out_any (b : Nat) (v : Value) (l : List Nat) (w : World) (h : WrAt w b v l false) (hl : l.length ≤ 140737488355328) :
    Calls Try.prog 32 #[.pointer (some ⟨b, 0, none⟩)] w fun e w' => ∃ vo, e = .returned (.tuple #[vo, .int .i64 0]) ∧ Row w' vo l ∧ New w vo ∧ Below w.heap.size w w' := by
  have c0 : w.cell? ⟨b, 0, none⟩ = some v := by rw [cell_of h.heap]; rfl
  have c1 : w.cell? ⟨b, 1, none⟩ = some (.bool false) := by rw [cell_of h.heap]; rfl
  obtain ⟨a, cap, rfl, hr, _, _, hn, _⟩ := h.row.parts
  have H := hide hr
  clear h hr
  go_enter Try.func32, Try.ntmps32
  go_wp2_with fail
  refine (clone_any a l cap _ (unhide H) hn hl).mono ?_
  rintro e w2 ⟨vo, rfl, h2⟩
  have H2 := hide h2
  clear h2
  go_wp2
  go_returns
  exact ⟨_, rfl, unhide H2⟩

theorem out_long (b : Nat) (v : Value) (l : List Nat) (w : World) (h : WrAt w b v l true) :
    Calls Try.prog 32 #[.pointer (some ⟨b, 0, none⟩)] w fun e w' => e = .returned (.tuple #[.slice none 0 0, .int .i64 2]) ∧ w' = w := by
  have c1 : w.cell? ⟨b, 1, none⟩ = some (.bool true) := by rw [cell_of h.heap]; rfl
  clear h
  go_enter Try.func32, Try.ntmps32
  go_wp2
  go_returns
  exact ⟨rfl, rfl⟩

theorem out_nil (w : World) :
    Calls Try.prog 32 #[.pointer none] w fun e w' => e = .returned (.tuple #[.slice none 0 0, .int .i64 5]) ∧ w' = w := by
  go_enter Try.func32, Try.ntmps32
  go_wp2
  go_returns
  exact ⟨rfl, rfl⟩

theorem newwriter_any (w : World) :
    Calls Try.prog 28 #[] w fun e w' => e = .returned (.pointer (some ⟨w.heap.size, 0, none⟩)) ∧ WrAt w' w.heap.size (.slice none 0 0) [] false ∧ Below w.heap.size w w' := by
  go_enter Try.func28, Try.ntmps28
  go_wp2
  go_returns
  exact ⟨rfl, ⟨heap_new _ _, Row.nil _, fun k hk => by simp [Value.ownBlock] at hk⟩, (Below.refl _ _).alloc (Nat.le_refl _) _⟩
end Go.Proofs.Ytcekleconjmfjaa
