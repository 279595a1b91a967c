/-
  crc.Table's More and Sum in the run of one goroutine: the sums of the text on CRC-32C. Conditions: the table's block holds what a table that was not yet asked, or was, holds.
-/
import Derived.Test.YtfdpnfeaagijhaaWCrc
import Derived.Test.YtfdpnfeaagijhaaBytes
import Derived.Lib.SlBytesConst

namespace Go.Proofs.Ytfdpnfeaagijhaa
open Go.RowKit

variable {Xo : Outer}

/-- A table that is ready to be asked: it was not asked yet, or it was. -/
def Ready (Xo : Outer) (w : World) (b : Nat) : Prop := (∃ T, TabAt Xo w b 0 0 T) ∨ TabAt Xo w b 1 0 (stps 8)
theorem Ready.keep {w w' : World} {b : Nat} {S : Nat → Prop} (m : Ready Xo w b) (tc : Touch S w w') (hs : ¬ S b) : Ready Xo w' b := by
  rcases m with ⟨T, m⟩ | m
  · exact .inl ⟨T, m.keep tc hs⟩
  · exact .inr (m.keep tc hs)
theorem Ready.lt {w : World} {b : Nat} (m : Ready Xo w b) : b < w.heap.size := by
  rcases m with ⟨T, m⟩ | m
  · exact m.lt
  · exact m.lt
theorem Ready.drew {w : World} {b : Nat} (m : Ready Xo w b) : Ready Xo w.drew b := by
  rcases m with ⟨T, m⟩ | m
  · exact .inl ⟨T, m.drew⟩
  · exact .inr m.drew

set_option maxRecDepth 100000 in
set_option maxHeartbeats 1600000 in
theorem tslow_any (b : Nat) (T : Nat → Nat) (w : World) (h : TabAt Xo w b 0 0 T) :
    Calls Try.prog 54 #[.pointer (some ⟨b, 2, none⟩), .func (.func 50) #[.pointer (some ⟨b, 2, none⟩)] #[]] w fun e w' => e = .returned (.tuple #[]) ∧ TabAt Xo w' b 1 0 (stps 8) ∧ Touch (· = b) w w' := by
  have h1 := h.lock
  have f1 := h.frozen 3
  have ha := h.setLock 1
  have ta : Touch (· = b) w (w.setCell ⟨b, 3, none⟩ (.int .i32 1)) := touch_set _ _ _ _
  have a0 := ha.done
  have HA := hide ha
  have TA := hide ta
  have hnot : ∀ (x : Bool) (w : World), (Op.unary .not (.bool x)).run Try.prog w = .ok (.bool (!x)) w := fun _ _ => rfl
  clear ha ta h
  go_enter_defers Try.func54, Try.ntmps54
  go_wp2_with fail
  refine (lock_free ⟨b, 3, none⟩ w h1 f1).mono ?_
  rintro e w' ⟨rfl, rfl⟩
  go_wp2_with fail
  refine (boolload_any b 2 0 _ a0).mono ?_
  rintro e w' ⟨rfl, rfl⟩
  go_wp2_with fail
  refine (fill_any b 0 1 T _ (unhide HA)).mono ?_
  rintro e wb ⟨rfl, hb, tb⟩
  have tb' := (unhide TA).trans tb
  have HB := hide hb
  have TB := hide tb'
  clear HA TA a0 tb tb' hb
  go_wp2_with fail
  refine leaves_cons (f := 62) (args := #[.pointer (some ⟨b, 2, none⟩), .bool true]) (by simp) (by simp [go_sem]) ?_
  refine (boolstore_deferred ⟨b, 2, none⟩ (.int .u32 0) .returning wb (unhide HB).done ((unhide HB).frozen 2)).mono ?_
  rintro e u' w'' ⟨rfl, rfl, rfl⟩
  have hc := (unhide HB).drew.setDone 1
  have tc : Touch (· = b) w (wb.drew.setCell ⟨b, 2, none⟩ (.int .u32 1)) := (unhide TB).drew.trans (touch_set _ _ _ _)
  refine leaves_cons (f := 61) (args := #[.pointer (some ⟨b, 3, none⟩)]) (by simp [settle]) (by simp [go_sem]) ?_
  refine (unlock_deferred ⟨b, 3, none⟩ _ _ hc.lock (hc.frozen 3)).mono ?_
  rintro e u' w'' ⟨rfl, rfl, rfl⟩
  exact ⟨_, results_none rfl _ _ _, rfl, hc.setLock 0, tc.trans (touch_set _ _ _ _)⟩

theorem tdo_first (b : Nat) (T : Nat → Nat) (w : World) (h : TabAt Xo w b 0 0 T) :
    Calls Try.prog 49 #[.pointer (some ⟨b, 2, none⟩), .func (.func 50) #[.pointer (some ⟨b, 2, none⟩)] #[]] w fun e w' => e = .returned (.tuple #[]) ∧ TabAt Xo w' b 1 0 (stps 8) ∧ Touch (· = b) w w' := by
  have h0 := h.done
  have K := hide (tslow_any b T w h)
  clear h
  go_enter Try.func49, Try.ntmps49
  go_wp2_with fail
  refine (boolload_any b 2 0 _ h0).mono ?_
  rintro e w' ⟨rfl, rfl⟩
  go_wp2_with fail
  refine (unhide K).mono ?_
  rintro e w1 ⟨rfl, h1⟩
  have H1 := hide h1
  clear h1
  go_wp2
  go_end0
  exact ⟨rfl, unhide H1⟩

theorem tdo_done (b : Nat) (fv : Value) (d : Int) (hd : (d != 0) = true) (w : World) (h0 : w.cell? ⟨b, 2, none⟩ = some (.int .u32 d)) :
    Calls Try.prog 49 #[.pointer (some ⟨b, 2, none⟩), fv] w fun e w' => e = .returned (.tuple #[]) ∧ w' = w := by
  go_enter Try.func49, Try.ntmps49
  go_wp2_with (go_at_call 53; refine (boolload_any b 2 d _ h0).mono ?_; rintro e w' ⟨rfl, rfl⟩)
  go_end0
  exact ⟨rfl, rfl⟩

theorem tdo_any (b : Nat) (w : World) (h : Ready Xo w b) :
    Calls Try.prog 49 #[.pointer (some ⟨b, 2, none⟩), .func (.func 50) #[.pointer (some ⟨b, 2, none⟩)] #[]] w fun e w' => e = .returned (.tuple #[]) ∧ TabAt Xo w' b 1 0 (stps 8) ∧ Touch (· = b) w w' := by
  rcases h with ⟨T, h⟩ | h
  · exact tdo_first b T w h
  · refine (tdo_done b _ 1 rfl w h.done).mono ?_
    rintro e w' ⟨rfl, rfl⟩
    exact ⟨rfl, h, Touch.refl _ _⟩

theorem more_nil (s : Int) (a : Value) (w : World) :
    Calls Try.prog 43 #[.pointer none, .int .u32 s, a] w fun e w' => e = .returned (.int .u32 0) ∧ w' = w := by
  go_enter Try.func43, Try.ntmps43
  go_wp2
  go_ret
  exact ⟨rfl, rfl⟩

theorem sum_nil (a : Value) (w : World) :
    Calls Try.prog 29 #[.pointer none, a] w fun e w' => e = .returned (.int .u32 0) ∧ w' = w := by
  go_enter Try.func29, Try.ntmps29
  go_wp2_with (go_at_call 43; refine (more_nil _ _ _).mono ?_; rintro e w' ⟨rfl, rfl⟩)
  go_ret
  exact ⟨rfl, rfl⟩

theorem not32 (s : Nat) (h : s < 4294967296) : bits BinOp.xor IntKind.u32 IntKind.u32.max (s : Int) = ((cpl s : Nat) : Int) := by
  have := u32_xor_nat 4294967295 s (by omega) h
  rw [cpl_xor h, Nat.xor_comm]
  exact this

set_option maxRecDepth 100000 in
set_option maxHeartbeats 800000 in
theorem more_any (b s : Nat) (a : Option Addr) (len cap : Nat) (g : Nat → Nat) (w : World) (h : Ready Xo w b) (hs : s < 4294967296) (hg : BytesAt w a len g) (hb : 0 < len → ∀ x, a = some x → x.block ≠ b) (hlen : len ≤ 9223372036854775807) :
    Calls Try.prog 43 #[.pointer (some ⟨b, 2, none⟩), .int .u32 s, .slice a len cap] w fun e w' => e = .returned (.int .u32 (mor g s len)) ∧ TabAt Xo w' b 1 0 (stps 8) ∧ Touch (· = b) w w' := by
  have hmf : ∀ (fn : Fn) (first cap : Array Value) (w : World), (Instr.makeFunc fn first cap).run Try.prog w = .ok (.func fn first cap) w := fun _ _ _ _ => rfl
  have H := hide h
  have G := hide hg
  have HB := hide hb
  clear h hg hb
  go_enter Try.func43, Try.ntmps43
  go_wp2_with fail
  refine (tdo_any b w (unhide H)).mono ?_
  rintro e w1 ⟨rfl, h1, t1⟩
  have H1 := hide h1
  have T1 := hide t1
  clear h1 t1 hmf
  have hx : bits BinOp.xor IntKind.u32 IntKind.u32.max (s : Int) = ((cpl s : Nat) : Int) := not32 s hs
  go_wp2_with fail
  go_loop [7, 22] (fun v i => ∃ k : Nat, k ≤ len ∧ i = .int .i64 k ∧ v = .int .u32 (reg (txt g) (cpl s) (8 * k))) (fun _ i => len - (intOf i).toNat)
  case atStart => exact ⟨0, Nat.zero_le _, rfl, rfl⟩
  case round =>
    obtain ⟨k, hk, rfl, rfl⟩ := hrel
    have hlt := reg_lt (txt g) (cpl_lt s) (8 * k)
    have ES := hide (reg_byte g (cpl s) k)
    by_cases h8 : k < len
    · obtain ⟨c, off, rfl, hbz, hc, hgk⟩ := (unhide G) k h8
      have hc1 : w1.cell? ⟨c, off + k, none⟩ = some (.int .u8 (g k)) := by
        rw [World.cell?_of_block (w := w) (a := ⟨c, off + k, none⟩) ((unhide T1).block c hbz ((unhide HB) (by omega) _ rfl))]; exact hc
      generalize reg (txt g) (cpl s) (8 * k) = r at *
      clear hc
      obtain ⟨j, EJ, hj⟩ : ∃ j : Nat, Hid (j = (r % 256) ^^^ g k) ∧ bits BinOp.xor IntKind.u8 ((r : Int) % 256) (g k : Int) = (j : Int) := by
        refine ⟨_, rfl, ?_⟩
        have := u8_xor_nat (r % 256) (g k) (by omega) hgk
        simpa using this
      have hj2 : j < 256 := by rw [unhide EJ]; exact Nat.xor_lt_two_pow (n := 8) (by omega) hgk
      have hj3 : (j : Int) < 256 := by omega
      have hcj := (unhide H1).cell hj2
      obtain ⟨y, EY, hy⟩ : ∃ y : Nat, Hid (y = stps 8 j ^^^ (r / 256)) ∧ bits BinOp.xor IntKind.u32 (stps 8 j : Int) ((r : Int) / 256) = (y : Int) := by
        refine ⟨_, rfl, ?_⟩
        have := u32_xor_nat (stps 8 j) (r / 256) (stps_lt 8 (by omega)) (by omega)
        simpa using this
      go_wp2
      go_round
      case rel => exact ⟨k + 1, by omega, by go_num, ival (by rw [unhide ES, unhide EY, unhide EJ, byte_step r (g k) hgk])⟩
      case measure => simp [intOf]; omega
    · obtain rfl : k = len := by omega
      have hn := not32 _ hlt
      have EM : Hid (mor g s k = cpl (reg (txt g) (cpl s) (8 * k))) := rfl
      generalize reg (txt g) (cpl s) (8 * k) = r at *
      go_wp2
      go_ret
      exact ⟨by rw [unhide EM]; rfl, unhide H1, unhide T1⟩

set_option maxRecDepth 100000 in
theorem sum_any (b : Nat) (a : Option Addr) (len cap : Nat) (g : Nat → Nat) (w : World) (h : Ready Xo w b) (hg : BytesAt w a len g) (hb : 0 < len → ∀ x, a = some x → x.block ≠ b) (hlen : len ≤ 9223372036854775807) :
    Calls Try.prog 29 #[.pointer (some ⟨b, 2, none⟩), .slice a len cap] w fun e w' => e = .returned (.int .u32 (mor g 0 len)) ∧ TabAt Xo w' b 1 0 (stps 8) ∧ Touch (· = b) w w' := by
  have K := hide (more_any b 0 a len cap g w h (by omega) hg hb hlen)
  clear h hg hb
  go_enter Try.func29, Try.ntmps29
  go_wp2_with fail
  refine (unhide K).mono ?_
  rintro e w1 ⟨rfl, h1⟩
  have H1 := hide h1
  clear h1 K
  go_wp2
  go_ret
  exact ⟨rfl, unhide H1⟩
end Go.Proofs.Ytfdpnfeaagijhaa
