/-
  penstockref03's forms: Uint, Zig, Int, Flag, Fixed, Bytes, Ints make new rows of bytes. Conditions: a row has at most 2^47 bytes.
-/
import Derived.Test.YtkcoeofbobkaoabGreatDoorRd4

namespace Go.Proofs.YtkcoeofbobkaoabGreatDoor
open Go.RowKit
set_option linter.unusedVariables false

/-- A new row. -/
def Fresh (w w' : World) (v : Value) (l : List Nat) : Prop := Row w' v l ∧ New w v ∧ Below w.heap.size w w'

/-- What an append of the row's own leaves. -/
theorem fresh_app {w w1 w2 w3 : World} {v v' : Value} {l l' : List Nat} (h : Fresh w w1 v l) (hb : Below w1.heap.size w1 w2) (r : Row w3 v' l') (t : Touch (fun k => v.ownBlock = some k) w2 w3) (m : Moved w2 v v') : Fresh w w3 v' l' := by
  obtain ⟨_, h2, h3⟩ := h
  have h4 : Below w.heap.size w w2 := h3.trans (hb.mono h3.size)
  exact ⟨r, h2.moved m h4.size, below_touch h4 t h4.size (fun k hk => h2 k hk)⟩

set_option maxRecDepth 100000 in
theorem euint_any (n : Nat) (w : World) (hn : n < 18446744073709551616) :
    Calls Tryz.prog 27 #[.int .u64 n] w fun e w' => ∃ v, e = .returned v ∧ Fresh w w' v (enc n) := by
  have L10 := hide (enc_len10 hn)
  go_enter Tryz.func27, Tryz.ntmps27
  go_wp2_with fail
  go_loopw [0, 3] (fun i vb wr => ∃ (m : Nat) (pre : List Nat) (v' : Value), v' = vb ∧ m < 18446744073709551616 ∧ i = .int .u64 m ∧ pre ++ enc m = enc n ∧ Fresh w wr v' pre) (fun i _ _ => (intOf i).toNat)
  case atStart => exact ⟨n, [], _, rfl, hn, rfl, rfl, Row.nil _, New.nil _, Below.refl _ _⟩
  case round =>
    obtain ⟨m, pre, v1, rfl, hm, rfl, hp, h1⟩ := hrel
    have HP := hide hp
    have H1 := hide h1
    have hl1 : pre.length ≤ 10 := by
      have e2 := congrArg List.length hp
      have e4 := unhide L10
      rw [List.length_append] at e2
      omega
    clear hp h1
    by_cases hc : m < 128
    · have hq : (m : Int) / 128 = 0 := by omega
      have hr : (m : Int) % 128 = m := by omega
      have hw : (m : Int) % 256 = m := by omega
      have hbl : Hid (Below wr.heap.size wr (wr.alloc (.cells #[.int .u8 (m : Int)] 5))) := (Below.refl _ _).alloc (Nat.le_refl _) _
      have hlt := hide (LAt.lit wr [m] (by simpa using (by omega : m < 256)) #[.int .u8 (m : Int)] rfl)
      go_wp2_with (at_builtin; refine wpList_row _ rfl (.tmp 11) (.tmp 14) rfl v1 pre rfl ((unhide H1).1.later (unhide hbl)) (some ⟨wr.heap.size, 0, none⟩) 1 [m] rfl (unhide hlt) (fun h => by cases h) (by simp; omega) ?_)
      intro v2 w2 r2 t2 m2
      have F := fresh_app (unhide H1) (unhide hbl) r2 t2 m2
      rw [← enc_lt hc, unhide HP] at F
      obtain ⟨a', n', c', rfl⟩ := r2.shape
      have FF := hide F
      clear r2 t2 m2 F hlt hbl
      go_wp2
      go_returns
      exact ⟨_, rfl, unhide FF⟩
    · have hq : ¬ (m : Int) / 128 = 0 := by omega
      have hw : ((m : Int) % 128 + 128) % 256 = (m : Int) % 128 + 128 := by omega
      have hcs : #[Value.int .u8 ((m : Int) % 128 + 128)].toList = vals [m % 128 + 128] := by simp [vals]
      have hbl : Hid (Below wr.heap.size wr (wr.alloc (.cells #[.int .u8 ((m : Int) % 128 + 128)] 5))) := (Below.refl _ _).alloc (Nat.le_refl _) _
      have hlt := hide (LAt.lit wr [m % 128 + 128] (by simpa using (by omega : m % 128 + 128 < 256)) #[.int .u8 ((m : Int) % 128 + 128)] hcs)
      go_wp2_with (at_builtin; refine wpList_row _ rfl (.tmp 17) (.tmp 21) rfl v1 pre rfl ((unhide H1).1.later (unhide hbl)) (some ⟨wr.heap.size, 0, none⟩) 1 [m % 128 + 128] rfl (unhide hlt) (fun h => by cases h) (by simp; omega) ?_)
      intro v2 w2 r2 t2 m2
      have F := hide (fresh_app (unhide H1) (unhide hbl) r2 t2 m2)
      have HQ : Hid ((pre ++ [m % 128 + 128]) ++ enc (m / 128) = enc n) := by
        show _ = _
        rw [List.append_assoc, List.singleton_append, ← enc_ge hc]
        exact unhide HP
      obtain ⟨a', n', c', rfl⟩ := r2.shape
      clear r2 t2 m2 hlt hbl hcs
      go_wp2
      go_roundw
      case rel => exact ⟨m / 128, _, _, rfl, by omega, by go_num, unhide HQ, unhide F⟩
      case measure => simp [intOf]; omega

set_option maxRecDepth 100000 in
theorem zig_any (i : Int) (w : World) (h1 : -9223372036854775808 ≤ i) (h2 : i < 9223372036854775808) :
    Calls Tryz.prog 64 #[.int .i64 i] w fun e w' => e = .returned (.int .u64 (zig i : Nat)) ∧ w' = w := by
  by_cases h0 : 0 ≤ i
  · have e := zig_pos h0
    go_enter Tryz.func64, Tryz.ntmps64
    go_wp2
    go_returns
    exact ⟨by rw [e]; simp <;> omega, rfl⟩
  · have e := zig_neg h0
    have h0' : i < 0 := by omega
    go_enter Tryz.func64, Tryz.ntmps64
    go_wp2
    go_returns
    exact ⟨by show Ending.returned (Value.int .u64 (2 * -(i + 1) + 1)) = Ending.returned (Value.int .u64 (-2 * i - 1)); congr 2; omega, rfl⟩

theorem eint_any (i : Int) (w : World) (h1 : -9223372036854775808 ≤ i) (h2 : i < 9223372036854775808) :
    Calls Tryz.prog 26 #[.int .i64 i] w fun e w' => ∃ v, e = .returned v ∧ Fresh w w' v (enc (zig i)) := by
  go_enter Tryz.func26, Tryz.ntmps26
  go_wp2_with fail
  refine (zig_any i w h1 h2).mono ?_
  rintro e w1 ⟨rfl, rfl⟩
  go_wp2_with fail
  refine (euint_any (zig i) _ (zig_lt h1 h2)).mono ?_
  rintro e w1 ⟨v, rfl, f⟩
  have F := hide f
  clear f
  go_wp2
  go_returns
  exact ⟨_, rfl, unhide F⟩

theorem eflag_any (q : Bool) (w : World) :
    Calls Tryz.prog 28 #[.bool q] w fun e w' => ∃ v, e = .returned v ∧ Fresh w w' v [q.toNat] := by
  cases q
  · have F := hide (Row.lit w [0] (by simp) #[.int .u8 0] rfl (by simp [maxLen]))
    go_enter Tryz.func28, Tryz.ntmps28
    go_wp2
    go_returns
    exact ⟨_, rfl, unhide F, fun k hk => by simp [Value.ownBlock] at hk; omega, (Below.refl _ _).alloc (Nat.le_refl _) _⟩
  · have F := hide (Row.lit w [1] (by simp) #[.int .u8 1] rfl (by simp [maxLen]))
    go_enter Tryz.func28, Tryz.ntmps28
    go_wp2
    go_returns
    exact ⟨_, rfl, unhide F, fun k hk => by simp [Value.ownBlock] at hk; omega, (Below.refl _ _).alloc (Nat.le_refl _) _⟩

set_option maxRecDepth 100000 in
theorem efix_any (n : Nat) (w : World) (hn : n < 4294967296) :
    Calls Tryz.prog 30 #[.int .u32 n] w fun e w' => ∃ v, e = .returned v ∧ Fresh w w' v (fix n) := by
  have hn4 : n / 16777216 % 256 = n / 16777216 := by omega
  have hcs : #[Value.int IntKind.u8 ((n : Int) % 256), Value.int IntKind.u8 ((n : Int) / 256 % 256), Value.int IntKind.u8 ((n : Int) / 65536 % 256), Value.int IntKind.u8 ((n : Int) / 16777216)].toList = vals (fix n) := by
    simp [vals, fix, hn4]
  have F := hide (Row.lit w (fix n) (fix_bytes n) _ hcs (by simp [maxLen, fix]))
  clear hcs
  go_enter Tryz.func30, Tryz.ntmps30
  go_wp2
  go_returns
  exact ⟨_, rfl, unhide F, fun k hk => by simp [Value.ownBlock] at hk; omega, (Below.refl _ _).alloc (Nat.le_refl _) _⟩

set_option maxRecDepth 100000 in
theorem ebytes_any (ao : Option Addr) (c : Nat) (l : List Nat) (w : World) (h : LAt w ao l) (hn : ao = none → c = 0) (hl : l.length + 10 ≤ 140737488355328) :
    Calls Tryz.prog 29 #[.slice ao l.length c] w fun e w' => ∃ v, e = .returned v ∧ Fresh w w' v (enc l.length ++ l) := by
  have H := hide h
  clear h
  go_enter Tryz.func29, Tryz.ntmps29
  go_wp2_with fail
  refine (euint_any l.length w (by omega)).mono ?_
  rintro e w1 ⟨v1, rfl, f⟩
  have L10 := enc_len10 (n := l.length) (by omega)
  have F1 := hide f
  have H1 := hide ((unhide H).later f.2.2)
  clear f H
  go_wp2_with (at_builtin; refine wpList_row _ rfl (.tmp 8) (.tmp 9) rfl v1 (enc l.length) rfl (unhide F1).1 ao c l rfl (unhide H1) hn (by omega) ?_)
  intro v2 w2 r2 t2 m2
  have F := hide (fresh_app (unhide F1) (Below.refl _ _) r2 t2 m2)
  obtain ⟨a', n', c', rfl⟩ := r2.shape
  clear r2 t2 m2 F1 H1
  go_wp2
  go_returns
  exact ⟨_, rfl, unhide F⟩

end Go.Proofs.YtkcoeofbobkaoabGreatDoor
