/-
  codec.Writer's calls: Uint, Int, Flag, Fixed, Bytes, Ints, Out, NewWriter. Conditions: what is laid together has at most 2^47 bytes.
-/
import Derived.Test.YtblmondkdcpkaaaZ01
import Derived.Test.YtblmondkdcpkaaaZ02
import Derived.Laws.BitsAllLaws
import Derived.Deep.RegionWith
import Derived.Deep.QuietTactic
import Derived.Laws.Pointers
import Derived.WalkLawsBesides
import Derived.Laws.Bits64

/-
  bytes.Clone, and codec.Writer's lay and refuse. Conditions: what is laid together has at most 2^47 bytes.
-/
namespace Go.Proofs.Ytblmondkdcpkaaa
open Go.RowKit
set_option linter.unusedVariables false

set_option maxRecDepth 100000 in
theorem clone_any (a : Option Addr) (l : List Nat) (cap : Nat) (w : World) (h : LAt w a l) (hn : a = none → cap = 0) (hl : l.length ≤ 140737488355328) :
    Calls Try.prog 47 #[.slice a l.length cap] w fun e w' => ∃ v, e = .returned v ∧ Row w' v l ∧ New w v ∧ Below w.heap.size w w' := by
  have hnil := fun (w : World) (a : Option Addr) (l c : Nat) => eql_nil (P := Try.prog) w 24 5 a l c Try.underlying24
  cases a with
  | none =>
    have hl0 : l = [] := by
      cases l with
      | nil => rfl
      | cons x r => obtain ⟨_, _, h1, _⟩ := h 0 (by simp); cases h1
    obtain rfl := hn rfl
    subst hl0
    clear h
    go_enter Try.func47, Try.ntmps47
    go_wp2
    go_returns
    exact ⟨_, rfl, Row.nil _, New.nil _, Below.refl _ _⟩
  | some x =>
    have H := hide h
    clear h
    go_enter Try.func47, Try.ntmps47
    have R0 := hide (Row.lit w [] (fun x hx => by cases hx) #[] rfl (by simp [maxLen]))
    go_wp2_with (at_builtin; refine wpList_row _ rfl (.tmp 5) (.tmp 6) rfl _ [] rfl (unhide R0) (some x) cap l rfl ((unhide H).keep ((Touch.refl (fun _ => False) w).alloc _) (fun _ _ _ h => h)) (fun h => by cases h) (by simpa using hl) ?_)
    intro v' w' r t m
    have K : Hid (Row w' v' l ∧ New w v' ∧ Below w.heap.size w w') := by
      refine ⟨r, fun k hk => ?_, ?_⟩
      · rcases m k hk with e | e
        · simp [Value.ownBlock] at e; omega
        · simp at e; omega
      · exact below_touch ((Below.refl _ w).alloc (Nat.le_refl _) _) t (by simp) (fun k hk => by simp [Value.ownBlock] at hk; omega)
    clear r t m R0 H
    go_wp2
    go_returns
    exact ⟨_, rfl, unhide K⟩

/-- A writer's block: what was laid, and whether it has refused. -/
structure WrAt (w : World) (b : Nat) (v : Value) (l : List Nat) (long : Bool) : Prop where
  heap : w.heap[b]? = some (.cells #[v, .bool long] 90)
  row : Row w v l
  apart : ∀ k, v.ownBlock = some k → k ≠ b
/-- A writer, or none. -/
def WrV (w : World) (pv v : Value) (l : List Nat) (long : Bool) : Prop := (pv = .pointer none ∧ v = .slice none 0 0) ∨ ∃ b, pv = .pointer (some ⟨b, 0, none⟩) ∧ WrAt w b v l long
/-- The blocks of a writer. -/
def Mine (pv v : Value) (k : Nat) : Prop := pv = .pointer (some ⟨k, 0, none⟩) ∨ v.ownBlock = some k
/-- What a writer's call leaves. -/
structure Step (pv : Value) (w : World) (v : Value) (w' : World) (v' : Value) : Prop where
  moved : Moved w v v'
  touch : Touch (Mine pv v) w w'
theorem Step.refl (pv : Value) (w : World) (v : Value) : Step pv w v w v := ⟨Moved.refl _ _, Touch.refl _ _⟩
theorem Step.trans {pv : Value} {w w1 w2 : World} {v v1 v2 : Value} (h : Step pv w v w1 v1) (k : Step pv w1 v1 w2 v2) : Step pv w v w2 v2 := by
  refine ⟨fun i hi => ?_, ?_⟩
  · rcases k.moved i hi with e | e
    · exact h.moved i e
    · have := h.touch.size; right; omega
  · refine ⟨k.touch.os.trans h.touch.os, k.touch.tape.trans h.touch.tape, k.touch.output.trans h.touch.output, Nat.le_trans h.touch.size k.touch.size, fun i hi hs => ?_⟩
    rw [k.touch.block i (Nat.lt_of_lt_of_le hi h.touch.size) ?_, h.touch.block i hi hs]
    rintro (e | e)
    · exact hs (.inl e)
    · rcases h.moved i e with e | e
      · exact hs (.inr e)
      · omega
theorem Step.below {pv : Value} {w w1 w2 : World} {v v2 : Value} (hb : Below w.heap.size w w1) (k : Step pv w1 v w2 v2) (hv : ∀ i, v.ownBlock = some i → i < w.heap.size) : Step pv w v w2 v2 := by
  refine ⟨fun i hi => ?_, ?_⟩
  · rcases k.moved i hi with e | e
    · exact .inl e
    · have := hb.size; right; omega
  · exact (Touch.of_below (S := Mine pv v) hb).trans k.touch
theorem WrV.lt {w : World} {pv v : Value} {l : List Nat} {long : Bool} (h : WrV w pv v l long) : ∀ i, v.ownBlock = some i → i < w.heap.size := by
  rcases h with ⟨_, rfl⟩ | ⟨b, _, h⟩
  · intro i hi; simp [Value.ownBlock] at hi
  · exact h.row.lt
theorem WrV.mine {w : World} {pv v : Value} {l : List Nat} {long : Bool} (h : WrV w pv v l long) : ∀ i, Mine pv v i → i < w.heap.size := by
  intro i hi
  rcases hi with e | e
  · rcases h with ⟨e', _⟩ | ⟨b, e', h⟩
    · rw [e'] at e; cases e
    · rw [e'] at e; cases e; exact lt_of_heap h.heap
  · exact h.lt i e
theorem WrV.keep {w w' : World} {pv v : Value} {l : List Nat} {long : Bool} {S : Nat → Prop} (h : WrV w pv v l long) (t : Touch S w w') (hs : ∀ k, Mine pv v k → ¬ S k) : WrV w' pv v l long := by
  rcases h with h | ⟨b, e, h⟩
  · exact .inl h
  · exact .inr ⟨b, e, t.keep h.heap (hs b (.inl e)), h.row.keep t (fun k hk => hs k (.inr hk)), h.apart⟩
theorem WrV.later {w w' : World} {pv v : Value} {l : List Nat} {long : Bool} (h : WrV w pv v l long) (hb : Below w.heap.size w w') : WrV w' pv v l long := h.keep (Touch.of_below (S := fun _ => False) hb) (fun _ _ h => h)
def lays (long : Bool) (l x : List Nat) : List Nat := if long then l else l ++ x
theorem lays_lays (long : Bool) (l x y : List Nat) : lays long (lays long l x) y = lays long l (x ++ y) := by cases long <;> simp [lays]
theorem lays_nil (long : Bool) (l : List Nat) : lays long l [] = l := by cases long <;> simp [lays]
theorem lays_len (long : Bool) (l x : List Nat) : (lays long l x).length ≤ l.length + x.length := by cases long <;> simp [lays]

set_option maxRecDepth 100000 in
theorem lay_any (pv v : Value) (l : List Nat) (long : Bool) (ao : Option Addr) (c : Nat) (l2 : List Nat) (w : World) (h : WrV w pv v l long) (hb : LAt w ao l2) (hnone : ao = none → c = 0) (hlen : l.length + l2.length ≤ 140737488355328) :
    Calls Try.prog 84 #[pv, .slice ao l2.length c] w fun e w' => e = .returned (.tuple #[]) ∧ ∃ v', WrV w' pv v' (lays long l l2) long ∧ Step pv w v w' v' := by
  rcases h with ⟨rfl, rfl⟩ | ⟨b, rfl, h⟩
  · clear hb
    go_enter Try.func84, Try.ntmps84
    go_wp2
    go_returns
    exact ⟨rfl, _, .inl ⟨rfl, rfl⟩, Step.refl _ _ _⟩
  · have c0 : w.cell? ⟨b, 0, none⟩ = some v := by rw [cell_of h.heap]; rfl
    have c1 : w.cell? ⟨b, 1, none⟩ = some (.bool long) := by rw [cell_of h.heap]; rfl
    have H := hide h
    have HB := hide hb
    clear h hb
    cases long with
    | true =>
      go_enter Try.func84, Try.ntmps84
      go_wp2
      go_returns
      exact ⟨rfl, v, .inr ⟨b, rfl, unhide H⟩, Step.refl _ _ _⟩
    | false =>
      go_enter Try.func84, Try.ntmps84
      go_wp2_with (at_builtin; refine wpList_row _ rfl (.tmp 16) (.tmp 17) rfl v l rfl (unhide H).row ao c l2 rfl (unhide HB) hnone hlen ?_)
      intro v' w' r t m
      have hh : w'.heap[b]? = some (.cells #[v, .bool false] 90) := t.keep (unhide H).heap (fun hk => (unhide H).apart b hk rfl)
      have z0 : w'.frozen? ⟨b, 0, none⟩ = false := frozen_of hh 0
      have c0' : w'.cell? ⟨b, 0, none⟩ = some v := by rw [cell_of hh]; rfl
      have hv' : ∀ k, v'.ownBlock = some k → k ≠ b := fun k hk => by
        rcases m k hk with e | e
        · exact (unhide H).apart k e
        · have := lt_of_heap (unhide H).heap; omega
      have K : Hid (WrV (w'.setCell ⟨b, 0, none⟩ v') (.pointer (some ⟨b, 0, none⟩)) v' (lays false l l2) false ∧ Step (.pointer (some ⟨b, 0, none⟩)) w v (w'.setCell ⟨b, 0, none⟩ v') v') := by
        refine ⟨.inr ⟨b, rfl, by rw [heap_set hh]; rfl, r.keep (touch_set w' b 0 v') (fun k hk e => hv' k hk e), hv'⟩, m, ?_⟩
        exact (t.mono (fun k hk => .inr hk)).setCell (p := ⟨b, 0, none⟩) (.inl rfl) v'
      obtain ⟨a', n', cap', rfl⟩ := r.shape
      clear r t m H HB hh
      go_wp2
      go_returns
      exact ⟨rfl, _, unhide K⟩

set_option maxRecDepth 100000 in
theorem refuse_any (pv v : Value) (l : List Nat) (long : Bool) (w : World) (h : WrV w pv v l long) :
    Calls Try.prog 83 #[pv] w fun e w' => e = .returned (.tuple #[]) ∧ WrV w' pv (.slice none 0 0) [] true ∧ Step pv w v w' (.slice none 0 0) := by
  rcases h with ⟨rfl, rfl⟩ | ⟨b, rfl, h⟩
  · go_enter Try.func83, Try.ntmps83
    go_wp2
    go_returns
    exact ⟨rfl, .inl ⟨rfl, rfl⟩, Step.refl _ _ _⟩
  · have c0 : w.cell? ⟨b, 0, none⟩ = some v := by rw [cell_of h.heap]; rfl
    have z0 := frozen_of h.heap 0
    have z1 := frozen_of h.heap 1
    have c1 : w.cell? ⟨b, 1, none⟩ = some (.bool long) := by rw [cell_of h.heap]; rfl
    have hh1 := heap_set h.heap 0 (.slice none 0 0)
    have hh2 := heap_set hh1 1 (.bool true)
    have K : Hid (WrV ((w.setCell ⟨b, 0, none⟩ (.slice none 0 0)).setCell ⟨b, 1, none⟩ (.bool true)) (.pointer (some ⟨b, 0, none⟩)) (.slice none 0 0) [] true ∧ Step (.pointer (some ⟨b, 0, none⟩)) w v ((w.setCell ⟨b, 0, none⟩ (.slice none 0 0)).setCell ⟨b, 1, none⟩ (.bool true)) (.slice none 0 0)) := by
      refine ⟨.inr ⟨b, rfl, by rw [hh2]; rfl, Row.nil _, fun k hk => by simp [Value.ownBlock] at hk⟩, fun k hk => by simp [Value.ownBlock] at hk, ?_⟩
      exact ((Touch.refl _ w).setCell (p := ⟨b, 0, none⟩) (.inl rfl) _).setCell (p := ⟨b, 1, none⟩) (.inl rfl) _
    clear h hh1 hh2
    go_enter Try.func83, Try.ntmps83
    go_wp2
    go_returns
    exact ⟨rfl, unhide K⟩
end Go.Proofs.Ytblmondkdcpkaaa


namespace Go.Proofs.Ytblmondkdcpkaaa
open Go.RowKit
set_option linter.unusedVariables false

theorem or128 (m : Nat) : bits BinOp.or IntKind.u8 ((m : Int) % 256) 128 = ((m % 128 + 128 : Nat) : Int) := by
  have := u8_or_nat (m % 256) 128 (by omega) (by omega)
  have e : m % 256 ||| 128 = m % 128 + 128 := by
    have h1 : m % 256 = m % 128 ∨ m % 256 = m % 128 + 128 := by omega
    have h2 : 128 ||| m % 128 = 128 + m % 128 := nat_join 7 128 (m % 128) (by decide) (by omega)
    rcases h1 with h | h
    · rw [h, Nat.or_comm, h2, Nat.add_comm]
    · rw [h, Nat.add_comm, ← h2, Nat.or_comm (128 ||| m % 128), ← Nat.or_assoc]; simp
  rw [e] at this
  simpa using this

/-- One byte is laid. -/
theorem lay_one (pv v : Value) (l : List Nat) (long : Bool) (x : Nat) (w : World) (h : WrV w pv v l long) (hx : x < 256) (hlen : l.length + 1 ≤ 140737488355328) :
    Calls Try.prog 84 #[pv, .slice (some ⟨w.heap.size, 0, none⟩) 1 1] (w.alloc (.cells #[.int .u8 (x : Int)] 5)) fun e w' => e = .returned (.tuple #[]) ∧ ∃ v', WrV w' pv v' (lays long l [x]) long ∧ Step pv w v w' v' := by
  have hb : Below w.heap.size w (w.alloc (.cells #[.int .u8 (x : Int)] 5)) := (Below.refl _ w).alloc (Nat.le_refl _) _
  refine (lay_any pv v l long (some ⟨w.heap.size, 0, none⟩) 1 [x] _ (h.later hb) (LAt.lit w [x] (by simpa using hx) _ rfl) (fun h => by cases h) hlen).mono ?_
  rintro e w' ⟨rfl, v', h1, s1⟩
  exact ⟨rfl, v', h1, Step.below hb s1 h.lt⟩

set_option maxRecDepth 100000 in
theorem wuint_any (pv v : Value) (l : List Nat) (long : Bool) (n : Nat) (w : World) (h : WrV w pv v l long) (hn : n < 18446744073709551616) (hlen : l.length + 10 ≤ 140737488355328) :
    Calls Try.prog 65 #[pv, .int .u64 n] w fun e w' => e = .returned (.tuple #[]) ∧ ∃ v', WrV w' pv v' (lays long l (enc n)) long ∧ Step pv w v w' v' := by
  have H := hide h
  have L10 := hide (enc_len10 hn)
  clear h
  go_enter Try.func65, Try.ntmps65
  go_wp2_with fail
  go_loopw [1] (fun i wr => ∃ (m : Nat) (pre : List Nat) (v' : Value), m < 18446744073709551616 ∧ i = .int .u64 m ∧ pre ++ enc m = enc n ∧ WrV wr pv v' (lays long l pre) long ∧ Step pv w v wr v') (fun i _ => (intOf i).toNat)
  case atStart => exact ⟨n, [], v, hn, rfl, rfl, by rw [lays_nil]; exact unhide H, Step.refl _ _ _⟩
  case round =>
    obtain ⟨m, pre, v1, hm, rfl, hp, h1, s1⟩ := hrel
    have HP := hide hp
    have H1 := hide h1
    have S1 := hide s1
    have hl1 : Hid ((lays long l pre).length + 1 ≤ 140737488355328) := by
      have e1 := lays_len long l pre
      have e2 := congrArg List.length hp
      have e3 := enc_pos m
      have e4 := unhide L10
      rw [List.length_append] at e2
      show _ ≤ _
      omega
    clear hp h1 s1
    by_cases hc : m < 128
    · have hw : (m : Int) % 256 = m := by omega
      have hc' : (m : Int) < 128 := by omega
      go_wp2_with fail
      refine (lay_one pv v1 (lays long l pre) long m _ (unhide H1) (by omega) (unhide hl1)).mono ?_
      rintro e w2 ⟨rfl, v2, h2, s2⟩
      have K : Hid (WrV w2 pv v2 (lays long l (enc n)) long ∧ Step pv w v w2 v2) := by
        refine ⟨?_, (unhide S1).trans s2⟩
        rw [lays_lays, ← enc_lt hc, unhide HP] at h2
        exact h2
      clear h2 s2
      go_wp2
      go_returns
      exact ⟨rfl, v2, unhide K⟩
    · have hc' : ¬ (m : Int) < 128 := by omega
      have ho := or128 m
      go_wp2_with fail
      refine (lay_one pv v1 (lays long l pre) long (m % 128 + 128) _ (unhide H1) (by omega) (unhide hl1)).mono ?_
      rintro e w2 ⟨rfl, v2, h2, s2⟩
      have K : Hid (WrV w2 pv v2 (lays long l (pre ++ [m % 128 + 128])) long ∧ Step pv w v w2 v2) := by
        refine ⟨?_, (unhide S1).trans s2⟩
        rw [lays_lays] at h2
        exact h2
      have HQ : Hid ((pre ++ [m % 128 + 128]) ++ enc (m / 128) = enc n) := by
        show _ = _
        rw [List.append_assoc, List.singleton_append, ← enc_ge hc]
        exact unhide HP
      clear h2 s2
      go_wp2
      go_roundw
      case rel => exact ⟨m / 128, _, v2, by omega, by go_num, unhide HQ, unhide K⟩
      case measure => simp [intOf]; omega

theorem u64_flip (a : Nat) (h : a < 18446744073709551616) : bits .xor .u64 (a : Int) 18446744073709551615 = ((18446744073709551615 - a : Nat) : Int) := by
  have h1 := bits_xor_u64_nat a 18446744073709551615 h (by omega)
  have e : a ^^^ 18446744073709551615 = 18446744073709551615 - a := by
    have e0 : 18446744073709551615 - a = 2 ^ 64 - (a + 1) := by omega
    rw [e0]
    apply Nat.eq_of_testBit_eq
    intro i
    have hr : a < 2 ^ 64 := h
    rw [Nat.testBit_two_pow_sub_succ hr, Nat.testBit_xor, show (18446744073709551615 : Nat) = 2 ^ 64 - 1 from rfl, Nat.testBit_two_pow_sub_one]
    by_cases hi : i < 64
    · simp [hi]
    · have : a.testBit i = false := Nat.testBit_lt_two_pow (Nat.lt_of_lt_of_le hr (Nat.pow_le_pow_right (by omega) (by omega)))
      simp [hi, this]
  rw [e] at h1
  exact h1
theorem wz_pos {i : Int} (h0 : 0 ≤ i) (h2 : i < 9223372036854775808) : bits BinOp.xor IntKind.u64 (i * 2) (i / 9223372036854775808) = ((zig i : Nat) : Int) := by
  obtain ⟨n, rfl⟩ := Int.eq_ofNat_of_zero_le h0
  have h1 := bits_xor_u64_nat (n * 2) 0 (by omega) (by omega)
  have e1 : (n : Int) / 9223372036854775808 = 0 := by omega
  have e2 : zig (n : Int) = n * 2 := by have := zig_pos h0; omega
  rw [e1, e2]
  simpa using h1
theorem wz_neg {i : Int} (h0 : ¬ 0 ≤ i) (h1 : -9223372036854775808 ≤ i) : bits BinOp.xor IntKind.u64 (IntKind.u64.wrap (IntKind.u64.wrap i * 2)) (IntKind.u64.wrap (i / 9223372036854775808)) = ((zig i : Nat) : Int) := by
  rw [IntKind.wrap_u64, IntKind.wrap_u64, IntKind.wrap_u64]
  have e1 : i / 9223372036854775808 % 18446744073709551616 = 18446744073709551615 := by omega
  obtain ⟨n, hn⟩ : ∃ n : Nat, i % 18446744073709551616 * 2 % 18446744073709551616 = (n : Int) := ⟨(i % 18446744073709551616 * 2 % 18446744073709551616).toNat, by omega⟩
  have hn2 : n < 18446744073709551616 := by omega
  rw [e1, hn, u64_flip n hn2]
  have e2 := zig_neg h0
  omega
theorem rz (n : Nat) (hn : n < 18446744073709551616) : bits BinOp.xor IntKind.i64 ((n : Int) / 2) (wrap64 (-wrap64 (bits BinOp.and IntKind.u64 (n : Int) 1))) = zag n := by
  have ha := u64_and_nat n 1 hn (by omega)
  rw [nat_mask1] at ha
  have ha' : bits BinOp.and IntKind.u64 (n : Int) 1 = ((n % 2 : Nat) : Int) := ha
  have en : (n : Int) / 2 = ((n / 2 : Nat) : Int) := by omega
  rw [ha', en]
  have hm : n / 2 < 9223372036854775808 := by omega
  rcases Nat.mod_two_eq_zero_or_one n with h | h
  · rw [h, zag_even h]
    have e1 : wrap64 (-wrap64 ((0 : Nat) : Int)) = 0 := by unfold wrap64; omega
    rw [e1]
    show IntKind.i64.wrap ((BitVec.ofInt 64 ((n / 2 : Nat) : Int) ^^^ BitVec.ofInt 64 0).toNat : Int) = _
    have h1 : BitVec.ofInt 64 0 = 0#64 := by decide
    rw [h1, BitVec.xor_zero, ofInt_u64 _ (by omega)]
    simp only [IntKind.wrap, IntKind.bits, IntKind.signed]
    simp
    omega
  · rw [h, zag_odd h]
    have e1 : wrap64 (-wrap64 ((1 : Nat) : Int)) = -1 := by unfold wrap64; omega
    rw [e1]
    show IntKind.i64.wrap ((BitVec.ofInt 64 ((n / 2 : Nat) : Int) ^^^ BitVec.ofInt 64 (-1)).toNat : Int) = _
    have h1 : BitVec.ofInt 64 (-1) = BitVec.allOnes 64 := by decide
    rw [h1, BitVec.xor_allOnes, BitVec.toNat_not, ofInt_u64 _ (by omega)]
    simp only [IntKind.wrap, IntKind.bits, IntKind.signed]
    simp
    omega

set_option maxRecDepth 100000 in
theorem wint_any (pv v : Value) (l : List Nat) (long : Bool) (i : Int) (w : World) (h : WrV w pv v l long) (h1 : -9223372036854775808 ≤ i) (h2 : i < 9223372036854775808) (hlen : l.length + 10 ≤ 140737488355328) :
    Calls Try.prog 57 #[pv, .int .i64 i] w fun e w' => e = .returned (.tuple #[]) ∧ ∃ v', WrV w' pv v' (lays long l (enc (zig i))) long ∧ Step pv w v w' v' := by
  have H := hide h
  clear h
  by_cases h0 : 0 ≤ i
  · go_enter Try.func57, Try.ntmps57
    go_wp2_with fail
    rw [wz_pos h0 h2]
    refine (wuint_any pv v l long (zig i) _ (unhide H) (zig_lt h1 h2) hlen).mono ?_
    rintro e w2 ⟨rfl, h2⟩
    have H2 := hide h2
    clear h2
    go_wp2
    go_returns
    exact ⟨rfl, unhide H2⟩
  · go_enter Try.func57, Try.ntmps57
    go_wp2_with fail
    rw [wz_neg (by omega) h1]
    refine (wuint_any pv v l long (zig i) _ (unhide H) (zig_lt h1 h2) hlen).mono ?_
    rintro e w2 ⟨rfl, h2⟩
    have H2 := hide h2
    clear h2
    go_wp2
    go_returns
    exact ⟨rfl, unhide H2⟩

theorem flag_enc (q : Bool) : [q.toNat] = enc q.toNat := by rw [enc_lt (by cases q <;> simp)]
set_option maxRecDepth 100000 in
theorem wflag_any (pv v : Value) (l : List Nat) (long : Bool) (q : Bool) (w : World) (h : WrV w pv v l long) (hlen : l.length + 10 ≤ 140737488355328) :
    Calls Try.prog 58 #[pv, .bool q] w fun e w' => e = .returned (.tuple #[]) ∧ ∃ v', WrV w' pv v' (lays long l [q.toNat]) long ∧ Step pv w v w' v' := by
  rw [flag_enc]
  have H := hide h
  clear h
  cases q
  · go_enter Try.func58, Try.ntmps58
    go_wp2_with fail
    refine (wuint_any pv v l long 0 _ (unhide H) (by omega) hlen).mono ?_
    rintro e w2 ⟨rfl, h2⟩
    have H2 := hide h2
    clear h2
    go_wp2
    go_returns
    exact ⟨rfl, unhide H2⟩
  · go_enter Try.func58, Try.ntmps58
    go_wp2_with fail
    refine (wuint_any pv v l long 1 _ (unhide H) (by omega) hlen).mono ?_
    rintro e w2 ⟨rfl, h2⟩
    have H2 := hide h2
    clear h2
    go_wp2
    go_returns
    exact ⟨rfl, unhide H2⟩

set_option maxRecDepth 100000 in
theorem wbytes_any (pv v : Value) (l : List Nat) (long : Bool) (ao : Option Addr) (c : Nat) (l2 : List Nat) (w : World) (h : WrV w pv v l long) (hb : LAt w ao l2) (hnone : ao = none → c = 0) (hs : 0 < l2.length → ∀ x, ao = some x → ¬ Mine pv v x.block) (h4 : l2.length ≤ 4096) (hlen : l.length + 10 + l2.length ≤ 140737488355328) :
    Calls Try.prog 61 #[pv, .slice ao l2.length c] w fun e w' => e = .returned (.tuple #[]) ∧ ∃ v', WrV w' pv v' (lays long l (enc l2.length ++ l2)) long ∧ Step pv w v w' v' := by
  have H := hide h
  have HB := hide hb
  have HS := hide hs
  clear h hb hs
  have h4' : ¬ (4096 : Int) < (l2.length : Int) := by omega
  go_enter Try.func61, Try.ntmps61
  go_wp2_with fail
  refine (wuint_any pv v l long l2.length _ (unhide H) (by omega) (by omega)).mono ?_
  rintro e w2 ⟨rfl, v2, h2, s2⟩
  have H2 := hide h2
  have S2 := hide s2
  clear h2 s2
  go_wp2_with fail
  refine (lay_any pv v2 (lays long l (enc l2.length)) long ao c l2 _ (unhide H2) ((unhide HB).keep (unhide S2).touch (unhide HS)) hnone (by have := lays_len long l (enc l2.length); have := enc_len10 (n := l2.length) (by omega); omega)).mono ?_
  rintro e w3 ⟨rfl, v3, h3, s3⟩
  rw [lays_lays] at h3
  have H3 := hide (And.intro h3 ((unhide S2).trans s3))
  clear h3 s3 S2 H2
  go_wp2
  go_returns
  exact ⟨rfl, v3, unhide H3⟩

set_option maxRecDepth 100000 in
theorem wbytes_long (pv v : Value) (l : List Nat) (long : Bool) (ao : Option Addr) (n c : Nat) (w : World) (h : WrV w pv v l long) (h4 : 4096 < n) :
    Calls Try.prog 61 #[pv, .slice ao n c] w fun e w' => e = .returned (.tuple #[]) ∧ WrV w' pv (.slice none 0 0) [] true ∧ Step pv w v w' (.slice none 0 0) := by
  have H := hide h
  clear h
  have h4' : (4096 : Int) < (n : Int) := by omega
  go_enter Try.func61, Try.ntmps61
  go_wp2_with fail
  refine (refuse_any pv v l long _ (unhide H)).mono ?_
  rintro e w2 ⟨rfl, h2⟩
  have H2 := hide h2
  clear h2
  go_wp2
  go_returns
  exact ⟨rfl, unhide H2⟩

theorem encL_take (ls : List Int) (k : Nat) (h : k < ls.length) : encL (ls.take (k + 1)) = encL (ls.take k) ++ enc (zig (ls.getD k 0)) := by
  have e : ls.take (k + 1) = ls.take k ++ [ls.getD k 0] := by
    rw [List.take_add_one]
    simp [List.getD, h]
  rw [e]
  simp [encL]

set_option maxRecDepth 100000 in
theorem wints_any (pv v : Value) (l : List Nat) (long : Bool) (ao : Option Addr) (c : Nat) (ls : List Int) (w : World) (h : WrV w pv v l long) (hb : IAt w ao ls) (hs : 0 < ls.length → ∀ x, ao = some x → ¬ Mine pv v x.block) (hf : ∀ x ∈ ls, -9223372036854775808 ≤ x ∧ x < 9223372036854775808) (hls : ls.length ≤ 9223372036854775807) (hlen : l.length + 10 + 10 * ls.length ≤ 140737488355328 ∨ pv = .pointer none ∧ l = [] ∧ long = true) :
    Calls Try.prog 67 #[pv, .slice ao ls.length c] w fun e w' => e = .returned (.tuple #[]) ∧ ∃ v', WrV w' pv v' (lays long l (enc ls.length ++ encL ls)) long ∧ Step pv w v w' v' := by
  have room : ∀ x : List Nat, x.length ≤ 10 * ls.length → (lays long l x).length + 10 ≤ 140737488355328 := by
    intro x hx
    rcases hlen with h' | ⟨_, rfl, rfl⟩
    · have := lays_len long l x; omega
    · simp [lays]
  have room2 : ∀ x : List Nat, x.length + 10 ≤ 10 + 10 * ls.length → (lays long l x).length + 10 ≤ 140737488355328 := fun x hx => room x (by omega)
  have H := hide h
  have HB := hide hb
  have HS := hide hs
  have HF := hide hf
  have R := hide room
  have L0 : l.length + 10 ≤ 140737488355328 := by have := room [] (by simp); rw [lays_nil] at this; exact this
  clear h hb hs hf room room2 hlen
  go_enter Try.func67, Try.ntmps67
  go_wp2_with fail
  refine (wuint_any pv v l long ls.length _ (unhide H) (by omega) L0).mono ?_
  rintro e w2 ⟨rfl, v2, h2, s2⟩
  have H2 := hide h2
  have S2 := hide s2
  clear h2 s2
  go_wp2_with fail
  go_loopw [13] (fun i wr => ∃ (k : Nat) (v' : Value), k ≤ ls.length ∧ i = .int .i64 k ∧ WrV wr pv v' (lays long l (enc ls.length ++ encL (ls.take k))) long ∧ Step pv w v wr v') (fun i _ => ls.length - (intOf i).toNat)
  case atStart => exact ⟨0, v2, Nat.zero_le _, rfl, by simpa [encL] using unhide H2, unhide S2⟩
  case round =>
    obtain ⟨k, v3, hk, rfl, h3, s3⟩ := hrel
    have H3 := hide h3
    have S3 := hide s3
    clear h3 s3 H2 S2
    by_cases hc : k < ls.length
    · obtain ⟨cb, off, rfl, hcb, hcell⟩ := (unhide HB).keep (unhide S3).touch (unhide HS) k hc
      have hx := unhide HF (ls.getD k 0) (by simp [List.getD, hc])
      have ET := hide (encL_take ls k hc)
      generalize ls.getD k 0 = x at *
      have hc' : (k : Int) < (ls.length : Int) := by omega
      go_wp2_with fail
      refine (wint_any pv v3 (lays long l (enc ls.length ++ encL (ls.take k))) long x _ (unhide H3) hx.1 hx.2 ?_).mono ?_
      · refine unhide R _ ?_
        rw [List.length_append]
        have e1 := encL_len (ls.take k) (fun y hy => unhide HF y (List.mem_of_mem_take hy))
        have e2 := enc_len10 (n := ls.length) (by omega)
        rw [List.length_take] at e1
        omega
      rintro e w4 ⟨rfl, v4, h4, s4⟩
      rw [lays_lays, List.append_assoc, ← unhide ET] at h4
      have H4 := hide (And.intro h4 ((unhide S3).trans s4))
      clear h4 s4
      go_wp2
      go_roundw
      case rel => exact ⟨k + 1, v4, by omega, by go_num, unhide H4⟩
      case measure => simp [intOf]; omega
    · obtain rfl : k = ls.length := by omega
      have H4 : Hid (WrV wr pv v3 (lays long l (enc ls.length ++ encL ls)) long) := by have := unhide H3; rw [List.take_length] at this; exact this
      go_wp2
      go_returns
      exact ⟨rfl, v3, unhide H4, unhide S3⟩

set_option maxRecDepth 100000 in
theorem out_any (b : Nat) (v : Value) (l : List Nat) (w : World) (h : WrAt w b v l false) (hl : l.length ≤ 140737488355328) :
    Calls Try.prog 32 #[.pointer (some ⟨b, 0, none⟩)] w fun e w' => ∃ vo, e = .returned (.tuple #[vo, .int .i64 0]) ∧ Row w' vo l ∧ New w vo ∧ Below w.heap.size w w' := by
  have c0 : w.cell? ⟨b, 0, none⟩ = some v := by rw [cell_of h.heap]; rfl
  have c1 : w.cell? ⟨b, 1, none⟩ = some (.bool false) := by rw [cell_of h.heap]; rfl
  obtain ⟨a, cap, rfl, hr, _, _, hn, _⟩ := h.row.parts
  have H := hide hr
  clear h hr
  go_enter Try.func32, Try.ntmps32
  go_wp2_with fail
  refine (clone_any a l cap _ (unhide H) hn hl).mono ?_
  rintro e w2 ⟨vo, rfl, h2⟩
  have H2 := hide h2
  clear h2
  go_wp2
  go_returns
  exact ⟨_, rfl, unhide H2⟩

theorem out_long (b : Nat) (v : Value) (l : List Nat) (w : World) (h : WrAt w b v l true) :
    Calls Try.prog 32 #[.pointer (some ⟨b, 0, none⟩)] w fun e w' => e = .returned (.tuple #[.slice none 0 0, .int .i64 2]) ∧ w' = w := by
  have c1 : w.cell? ⟨b, 1, none⟩ = some (.bool true) := by rw [cell_of h.heap]; rfl
  clear h
  go_enter Try.func32, Try.ntmps32
  go_wp2
  go_returns
  exact ⟨rfl, rfl⟩

theorem out_nil (w : World) :
    Calls Try.prog 32 #[.pointer none] w fun e w' => e = .returned (.tuple #[.slice none 0 0, .int .i64 5]) ∧ w' = w := by
  go_enter Try.func32, Try.ntmps32
  go_wp2
  go_returns
  exact ⟨rfl, rfl⟩

theorem newwriter_any (w : World) :
    Calls Try.prog 28 #[] w fun e w' => e = .returned (.pointer (some ⟨w.heap.size, 0, none⟩)) ∧ WrAt w' w.heap.size (.slice none 0 0) [] false ∧ Below w.heap.size w w' := by
  go_enter Try.func28, Try.ntmps28
  go_wp2
  go_returns
  exact ⟨rfl, ⟨heap_new _ _, Row.nil _, fun k hk => by simp [Value.ownBlock] at hk⟩, (Below.refl _ _).alloc (Nat.le_refl _) _⟩
end Go.Proofs.Ytblmondkdcpkaaa
