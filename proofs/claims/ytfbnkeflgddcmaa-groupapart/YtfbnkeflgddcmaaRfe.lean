/-
  penstockref03's forms: Uint, Zig, Int, Flag, Fixed, Bytes, Ints make new rows of bytes. Conditions: a row has at most 2^47 bytes.
-/
import Derived.Test.YtfbnkeflgddcmaaRd2
namespace Go.Proofs.Ytfbnkeflgddcmaa
open Go.RowKit
set_option linter.unusedVariables false

/-- A new row. -/
def Fresh (w w' : World) (v : Value) (l : List Nat) : Prop := Row w' v l ∧ New w v ∧ Below w.heap.size w w'

/-- What an append of the row's own leaves. -/
theorem fresh_app {w w1 w2 w3 : World} {v v' : Value} {l l' : List Nat} (h : Fresh w w1 v l) (hb : Below w1.heap.size w1 w2) (r : Row w3 v' l') (t : Touch (fun k => v.ownBlock = some k) w2 w3) (m : Moved w2 v v') : Fresh w w3 v' l' := by
  obtain ⟨_, h2, h3⟩ := h
  have h4 : Below w.heap.size w w2 := h3.trans (hb.mono h3.size)
  exact ⟨r, h2.moved m h4.size, below_touch h4 t h4.size (fun k hk => h2 k hk)⟩

set_option maxRecDepth 100000 in
theorem euint_any (n : Nat) (w : World) (hn : n < 18446744073709551616) :
    Calls Try.prog 30 #[.int .u64 n] w fun e w' => ∃ v, e = .returned v ∧ Fresh w w' v (enc n) := by
  have L10 := hide (enc_len10 hn)
  go_enter Try.func30, Try.ntmps30
  go_wp2_with fail
  go_loopw [0, 3] (fun i vb wr => ∃ (m : Nat) (pre : List Nat) (v' : Value), v' = vb ∧ m < 18446744073709551616 ∧ i = .int .u64 m ∧ pre ++ enc m = enc n ∧ Fresh w wr v' pre) (fun i _ _ => (intOf i).toNat)
  case atStart => exact ⟨n, [], _, rfl, hn, rfl, rfl, Row.nil _, New.nil _, Below.refl _ _⟩
  case round =>
    obtain ⟨m, pre, v1, rfl, hm, rfl, hp, h1⟩ := hrel
    have HP := hide hp
    have H1 := hide h1
    have hl1 : pre.length ≤ 10 := by
      have e2 := congrArg List.length hp
      have e4 := unhide L10
      rw [List.length_append] at e2
      omega
    clear hp h1
    by_cases hc : m < 128
    · have hq : (m : Int) / 128 = 0 := by omega
      have hr : (m : Int) % 128 = m := by omega
      have hw : (m : Int) % 256 = m := by omega
      have hbl : Hid (Below wr.heap.size wr (wr.alloc (.cells #[.int .u8 (m : Int)] 5))) := (Below.refl _ _).alloc (Nat.le_refl _) _
      have hlt := hide (LAt.lit wr [m] (by simpa using (by omega : m < 256)) #[.int .u8 (m : Int)] rfl)
      go_wp2_with (at_builtin; refine wpList_row _ rfl (.tmp 11) (.tmp 14) rfl v1 pre rfl ((unhide H1).1.later (unhide hbl)) (some ⟨wr.heap.size, 0, none⟩) 1 [m] rfl (unhide hlt) (fun h => by cases h) (by simp; omega) ?_)
      intro v2 w2 r2 t2 m2
      have F := fresh_app (unhide H1) (unhide hbl) r2 t2 m2
      rw [← enc_lt hc, unhide HP] at F
      obtain ⟨a', n', c', rfl⟩ := r2.shape
      have FF := hide F
      clear r2 t2 m2 F hlt hbl
      go_wp2
      go_returns
      exact ⟨_, rfl, unhide FF⟩
    · have hq : ¬ (m : Int) / 128 = 0 := by omega
      have hw : ((m : Int) % 128 + 128) % 256 = (m : Int) % 128 + 128 := by omega
      have hcs : #[Value.int .u8 ((m : Int) % 128 + 128)].toList = vals [m % 128 + 128] := by simp [vals]
      have hbl : Hid (Below wr.heap.size wr (wr.alloc (.cells #[.int .u8 ((m : Int) % 128 + 128)] 5))) := (Below.refl _ _).alloc (Nat.le_refl _) _
      have hlt := hide (LAt.lit wr [m % 128 + 128] (by simpa using (by omega : m % 128 + 128 < 256)) #[.int .u8 ((m : Int) % 128 + 128)] hcs)
      go_wp2_with (at_builtin; refine wpList_row _ rfl (.tmp 17) (.tmp 21) rfl v1 pre rfl ((unhide H1).1.later (unhide hbl)) (some ⟨wr.heap.size, 0, none⟩) 1 [m % 128 + 128] rfl (unhide hlt) (fun h => by cases h) (by simp; omega) ?_)
      intro v2 w2 r2 t2 m2
      have F := hide (fresh_app (unhide H1) (unhide hbl) r2 t2 m2)
      have HQ : Hid ((pre ++ [m % 128 + 128]) ++ enc (m / 128) = enc n) := by
        show _ = _
        rw [List.append_assoc, List.singleton_append, ← enc_ge hc]
        exact unhide HP
      obtain ⟨a', n', c', rfl⟩ := r2.shape
      clear r2 t2 m2 hlt hbl hcs
      go_wp2
      go_roundw
      case rel => exact ⟨m / 128, _, _, rfl, by omega, by go_num, unhide HQ, unhide F⟩
      case measure => simp [intOf]; omega

set_option maxRecDepth 100000 in
theorem zig_any (i : Int) (w : World) (h1 : -9223372036854775808 ≤ i) (h2 : i < 9223372036854775808) :
    Calls Try.prog 31 #[.int .i64 i] w fun e w' => e = .returned (.int .u64 (zig i : Nat)) ∧ w' = w := by
  by_cases h0 : 0 ≤ i
  · have e := zig_pos h0
    go_enter Try.func31, Try.ntmps31
    go_wp2
    go_returns
    exact ⟨by rw [e]; simp <;> omega, rfl⟩
  · have e := zig_neg h0
    have h0' : i < 0 := by omega
    go_enter Try.func31, Try.ntmps31
    go_wp2
    go_returns
    exact ⟨by show Ending.returned (Value.int .u64 (2 * -(i + 1) + 1)) = Ending.returned (Value.int .u64 (-2 * i - 1)); congr 2; omega, rfl⟩

theorem eint_any (i : Int) (w : World) (h1 : -9223372036854775808 ≤ i) (h2 : i < 9223372036854775808) :
    Calls Try.prog 22 #[.int .i64 i] w fun e w' => ∃ v, e = .returned v ∧ Fresh w w' v (enc (zig i)) := by
  go_enter Try.func22, Try.ntmps22
  go_wp2_with fail
  refine (zig_any i w h1 h2).mono ?_
  rintro e w1 ⟨rfl, rfl⟩
  go_wp2_with fail
  refine (euint_any (zig i) _ (zig_lt h1 h2)).mono ?_
  rintro e w1 ⟨v, rfl, f⟩
  have F := hide f
  clear f
  go_wp2
  go_returns
  exact ⟨_, rfl, unhide F⟩

set_option maxRecDepth 100000 in
theorem eints_any (ao : Option Addr) (c : Nat) (ls : List Int) (w : World) (h : IAt w ao ls) (hf : ∀ x ∈ ls, -9223372036854775808 ≤ x ∧ x < 9223372036854775808) (hl : 10 + 10 * ls.length ≤ 140737488355328) :
    Calls Try.prog 23 #[.slice ao ls.length c] w fun e w' => ∃ v, e = .returned v ∧ Fresh w w' v (enc ls.length ++ encL ls) := by
  have H := hide h
  have HF := hide hf
  clear h hf
  go_enter Try.func23, Try.ntmps23
  go_wp2_with fail
  refine (euint_any ls.length w (by omega)).mono ?_
  rintro e w1 ⟨v1, rfl, f⟩
  have L10 := enc_len10 (n := ls.length) (by omega)
  have F1 := hide f
  clear f
  go_wp2_with fail
  go_loopw [3, 4] (fun vb i wr => ∃ (k : Nat) (v' : Value), v' = vb ∧ k ≤ ls.length ∧ i = .int .i64 k ∧ Fresh w wr v' (enc ls.length ++ encL (ls.take k))) (fun _ i _ => ls.length - (intOf i).toNat)
  case atStart => exact ⟨0, _, rfl, Nat.zero_le _, rfl, by simpa [encL] using unhide F1⟩
  case round =>
    obtain ⟨k, v2, rfl, hk, rfl, f2⟩ := hrel
    have F2 := hide f2
    clear f2
    by_cases hc : k < ls.length
    · obtain ⟨cb, off, rfl, hcb, hcell⟩ := (unhide H).later (unhide F2).2.2 k hc
      have hx := unhide HF (ls.getD k 0) (by simp [List.getD, hc])
      have ET := hide (encL_take ls k hc)
      have hroom : (enc ls.length ++ encL (ls.take k)).length + 10 ≤ 140737488355328 := by
        rw [List.length_append]
        have e1 := encL_len (ls.take k) (fun y hy => unhide HF y (List.mem_of_mem_take hy))
        rw [List.length_take] at e1
        omega
      generalize ls.getD k 0 = x at *
      have hc' : (k : Int) < (ls.length : Int) := by omega
      have z10 := enc_len10 (zig_lt hx.1 hx.2)
      go_wp2_with fail
      refine (eint_any x _ hx.1 hx.2).mono ?_
      rintro e w3 ⟨v3, rfl, f3⟩
      obtain ⟨a3, c3, rfl, l3, _, _, n3, _⟩ := f3.1.parts
      have B3 := hide f3.2.2
      have L3 := hide l3
      have R2 := hide ((unhide F2).1.later f3.2.2)
      clear f3 l3
      go_wp2_with (at_builtin; refine wpList_row _ rfl (.tmp 15) (.tmp 20) rfl v2 (enc ls.length ++ encL (ls.take k)) rfl (unhide R2) a3 c3 (enc (zig x)) rfl (unhide L3) n3 (by omega) ?_)
      intro v4 w4 r4 t4 m4
      have F4 := fresh_app (unhide F2) (unhide B3) r4 t4 m4
      rw [← unhide ET] at F4
      have FF := hide F4
      obtain ⟨a', n', c', rfl⟩ := r4.shape
      clear r4 t4 m4 F4 R2 L3 B3
      go_wp2
      go_roundw
      case rel => exact ⟨k + 1, _, rfl, by omega, by go_num, unhide FF⟩
      case measure => simp [intOf]; omega
    · obtain rfl : k = ls.length := by omega
      have F3 : Hid (Fresh w wr v2 (enc ls.length ++ encL ls)) := by have := unhide F2; rw [List.take_length] at this; exact this
      go_wp2
      go_returns
      exact ⟨_, rfl, unhide F3⟩
end Go.Proofs.Ytfbnkeflgddcmaa
