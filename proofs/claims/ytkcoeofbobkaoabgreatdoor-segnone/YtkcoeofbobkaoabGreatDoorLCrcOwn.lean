/-
  The statements' own helpers of layer 2: 'own' hands back new bytes alike, and penstockref02.More is the sum of the text on CRC-32C. Conditions: the bytes are at most 2^47.
-/
import Derived.Test.YtkcoeofbobkaoabGreatDoorBools
import Derived.Test.YtkcoeofbobkaoabGreatDoorCrcMath
import Derived.Laws.BitsAllLaws
import Derived.Deep.RegionWith
import Derived.Test.YtkcoeofbobkaoabGreatDoorLst
import Derived.Lib.SlBytesConst
import Derived.OpenShut
import Derived.Laws.MakeOwn
import Derived.Laws.CopyOwn

/-
  What crc.Table's methods do in the run of one goroutine. Conditions: the table's block holds what a table that was not yet asked, or was, holds.
-/
namespace Go.Proofs.YtkcoeofbobkaoabGreatDoor
open Go.RowKit

theorem and1 (q : Nat) (h : q < 4294967296) : bits .and .u32 (q : Int) 1 = ((q % 2 : Nat) : Int) := by
  have := u32_and_nat q 1 h (by omega)
  rw [nat_mask1] at this
  exact this
theorem xorP (q : Nat) (h : q < 4294967296) : bits .xor .u32 ((q : Int) / 2) 2197175160 = (((q / 2) ^^^ pol : Nat) : Int) := by
  have := u32_xor_nat (q / 2) pol (by omega) (by unfold pol; omega)
  simpa [pol] using this
theorem ival {k : IntKind} {a b : Int} (h : a = b) : Value.int k a = Value.int k b := by rw [h]
theorem stp_odd (q : Nat) (h : q % 2 = 1) : stp q = (q / 2) ^^^ pol := by unfold stp; rw [if_pos h]
theorem stp_ev (q : Nat) (h : ¬ q % 2 = 1) : stp q = q / 2 := by unfold stp; rw [if_neg h, Nat.xor_zero]

set_option maxHeartbeats 400000 in
theorem eight_any (r : Nat) (w : World) (hr : r < 4294967296) :
    Calls Tryz.prog 157 #[.int .u32 r] w fun e w' => e = .returned (.int .u32 (stps 8 r)) ∧ w' = w := by
  go_enter Tryz.func157, Tryz.ntmps157
  go_wp2_with fail
  go_loop [0, 4] (fun v i => ∃ k : Nat, k ≤ 8 ∧ i = .int .i64 k ∧ v = .int .u32 (stps k r)) (fun _ i => 8 - (intOf i).toNat)
  case atStart => exact ⟨0, Nat.zero_le _, rfl, rfl⟩
  case round =>
    obtain ⟨k, hk, rfl, rfl⟩ := hrel
    have hlt := stps_lt k hr
    have ES : Hid (stps (k + 1) r = stp (stps k r)) := rfl
    by_cases h8 : k < 8
    · generalize stps k r = q at *
      have ha := and1 q hlt
      by_cases hq : q % 2 = 1
      · rw [hq] at ha
        go_wp2
        go_round
        case rel => exact ⟨k + 1, by omega, by go_num, ival (by rw [unhide ES, stp_odd q hq, xorP q hlt])⟩
        case measure => simp [intOf]; omega
      · have h0 : q % 2 = 0 := by omega
        rw [h0] at ha
        have HQ := hide hq
        clear hq h0
        go_wp2
        go_round
        case rel => exact ⟨k + 1, by omega, by go_num, ival (by rw [unhide ES, stp_ev q (unhide HQ)]; omega)⟩
        case measure => simp [intOf]; omega
    · obtain rfl : k = 8 := by omega
      go_wp2
      go_ret
      exact ⟨rfl, rfl⟩

/-- The other cells of a log's block: its disk, its name, its segments. -/
structure Outer where
  d : Value
  n : Value
  s : Value
/-- A table within a log's block: done, the lock's word, and 256 steps; and the other cells. -/
structure TabAt (Xo : Outer) (w : World) (b : Nat) (d s : Int) (T : Nat → Nat) : Prop where
  ex : ∃ cs : Array Value, w.heap[b]? = some (.cells cs 97) ∧ cs.size = 262 ∧ cs[2]? = some (.int .u32 d) ∧ cs[3]? = some (.int .i32 s) ∧ (∀ i, i < 256 → cs[5 + i]? = some (.int .u32 (T i))) ∧ (cs[0]? = some Xo.d ∧ cs[1]? = some Xo.n ∧ cs[261]? = some Xo.s)

def upn (T : Nat → Nat) (i x : Nat) : Nat → Nat := fun j => if j = i then x else T j

section
variable {Xo : Outer} {w w' : World} {b : Nat} {d s : Int} {T : Nat → Nat}
theorem TabAt.lt (m : TabAt Xo w b d s T) : b < w.heap.size := by obtain ⟨cs, h1, _⟩ := m.ex; exact lt_of_heap h1
theorem TabAt.keep {S : Nat → Prop} (m : TabAt Xo w b d s T) (tc : Touch S w w') (hs : ¬ S b) : TabAt Xo w' b d s T := by
  obtain ⟨cs, h1, h2⟩ := m.ex; exact ⟨cs, tc.keep h1 hs, h2⟩
theorem TabAt.drew (m : TabAt Xo w b d s T) : TabAt Xo w.drew b d s T := by obtain ⟨cs, h1, h2⟩ := m.ex; exact ⟨cs, h1, h2⟩
theorem TabAt.done (m : TabAt Xo w b d s T) : w.cell? ⟨b, 2, none⟩ = some (.int .u32 d) := by
  obtain ⟨cs, h1, h2, h3, h4, h5, h6⟩ := m.ex; rw [cell_of h1]; exact h3
theorem TabAt.lock (m : TabAt Xo w b d s T) : w.cell? ⟨b, 3, none⟩ = some (.int .i32 s) := by
  obtain ⟨cs, h1, h2, h3, h4, h5, h6⟩ := m.ex; rw [cell_of h1]; exact h4
theorem TabAt.cell (m : TabAt Xo w b d s T) {i : Nat} (hi : i < 256) : w.cell? ⟨b, 5 + i, none⟩ = some (.int .u32 (T i)) := by
  obtain ⟨cs, h1, h2, h3, h4, h5, h6⟩ := m.ex; rw [cell_of h1]; exact h5 i hi
theorem TabAt.outer (m : TabAt Xo w b d s T) : w.cell? ⟨b, 0, none⟩ = some Xo.d ∧ w.cell? ⟨b, 1, none⟩ = some Xo.n ∧ w.cell? ⟨b, 261, none⟩ = some Xo.s := by
  obtain ⟨cs, h1, h2, h3, h4, h5, h6, h7, h8⟩ := m.ex
  exact ⟨by rw [cell_of h1]; exact h6, by rw [cell_of h1]; exact h7, by rw [cell_of h1]; exact h8⟩
theorem TabAt.frozen (m : TabAt Xo w b d s T) (i : Nat) : w.frozen? ⟨b, i, none⟩ = false := by
  obtain ⟨cs, h1, _⟩ := m.ex; exact frozen_of h1 i
theorem set_ne {cs : Array Value} {i j : Nat} (v : Value) (h : i ≠ j) : (cs.setIfInBounds i v)[j]? = cs[j]? := by rw [Array.getElem?_setIfInBounds, if_neg h]
theorem set_eq {cs : Array Value} {i : Nat} (v : Value) (h : i < cs.size) : (cs.setIfInBounds i v)[i]? = some v := by rw [Array.getElem?_setIfInBounds, if_pos rfl, if_pos h]
theorem TabAt.setDone (m : TabAt Xo w b d s T) (y : Int) : TabAt Xo (w.setCell ⟨b, 2, none⟩ (.int .u32 y)) b y s T := by
  obtain ⟨cs, h1, h2, h3, h4, h5, h6, h7, h8⟩ := m.ex
  refine ⟨_, heap_set h1 2 _, by simpa using h2, set_eq _ (by omega), ?_, fun i hi => ?_, ?_, ?_, ?_⟩ <;> rw [set_ne _ (by omega)]
  · exact h4
  · exact h5 i hi
  · exact h6
  · exact h7
  · exact h8
theorem TabAt.setLock (m : TabAt Xo w b d s T) (y : Int) : TabAt Xo (w.setCell ⟨b, 3, none⟩ (.int .i32 y)) b d y T := by
  obtain ⟨cs, h1, h2, h3, h4, h5, h6, h7, h8⟩ := m.ex
  refine ⟨_, heap_set h1 3 _, by simpa using h2, ?_, set_eq _ (by omega), fun i hi => ?_, ?_, ?_, ?_⟩ <;> rw [set_ne _ (by omega)]
  · exact h3
  · exact h5 i hi
  · exact h6
  · exact h7
  · exact h8
theorem TabAt.setStep (m : TabAt Xo w b d s T) {i : Nat} (hi : i < 256) (x : Nat) : TabAt Xo (w.setCell ⟨b, 5 + i, none⟩ (.int .u32 x)) b d s (upn T i x) := by
  obtain ⟨cs, h1, h2, h3, h4, h5, h6, h7, h8⟩ := m.ex
  refine ⟨_, heap_set h1 (5 + i) _, by simpa using h2, ?_, ?_, fun j hj => ?_, ?_, ?_, ?_⟩
  · rw [set_ne _ (by omega)]; exact h3
  · rw [set_ne _ (by omega)]; exact h4
  · unfold upn
    by_cases e : j = i
    · subst e; rw [if_pos rfl]; exact set_eq _ (by omega)
    · rw [if_neg e, set_ne _ (by omega)]; exact h5 j hj
  · rw [set_ne _ (by omega)]; exact h6
  · rw [set_ne _ (by omega)]; exact h7
  · rw [set_ne _ (by omega)]; exact h8
theorem TabAt.setSize (m : TabAt Xo w b d s T) (y : Value) : TabAt { Xo with s := y } (w.setCell ⟨b, 261, none⟩ y) b d s T := by
  obtain ⟨cs, h1, h2, h3, h4, h5, h6, h7, h8⟩ := m.ex
  refine ⟨_, heap_set h1 261 _, by simpa using h2, ?_, ?_, fun i hi => ?_, ?_, ?_, set_eq _ (by omega)⟩ <;> rw [set_ne _ (by omega)]
  · exact h3
  · exact h4
  · exact h5 i hi
  · exact h6
  · exact h7
theorem TabAt.congr {U : Nat → Nat} (m : TabAt Xo w b d s T) (e : ∀ i, i < 256 → T i = U i) : TabAt Xo w b d s U := by
  obtain ⟨cs, h1, h2, h3, h4, h5, h6⟩ := m.ex
  exact ⟨cs, h1, h2, h3, h4, fun i hi => by rw [h5 i hi, e i hi], h6⟩
end
variable {Xo : Outer}

/-- The first k steps are laid. -/
def part (T : Nat → Nat) (k : Nat) : Nat → Nat := fun i => if i < k then stps 8 i else T i

set_option maxRecDepth 100000 in
set_option maxHeartbeats 800000 in
theorem fill_any (b : Nat) (d s : Int) (T : Nat → Nat) (w : World) (m : TabAt Xo w b d s T) :
    Calls Tryz.prog 130 #[.pointer (some ⟨b, 2, none⟩)] w fun e w' => e = .returned (.tuple #[]) ∧ TabAt Xo w' b d s (stps 8) ∧ Touch (· = b) w w' := by
  have M := hide m
  clear m
  go_enter Tryz.func130, Tryz.ntmps130
  go_wp2_with fail
  go_loopw [3] (fun i wr => ∃ k : Nat, k ≤ 256 ∧ i = .int .i64 k ∧ TabAt Xo wr b d s (part T k) ∧ Touch (· = b) w wr) (fun i _ => 256 - (intOf i).toNat)
  case atStart => exact ⟨0, Nat.zero_le _, rfl, (unhide M).congr (fun i _ => rfl), Touch.refl _ _⟩
  case round =>
    obtain ⟨k, hk, rfl, hm, ht⟩ := hrel
    have HM := hide hm
    have HT := hide ht
    clear hm ht M
    by_cases h8 : k < 256
    · have hk' : (k : Int) < 256 := by omega
      have c := (unhide HM).drew.cell h8
      have z := (unhide HM).drew.frozen (5 + k)
      have hwr : IntKind.u32.wrap (k : Int) = k := by rw [IntKind.wrap_u32']; omega
      go_wp2_with fail
      go_region_with (go_at_call 157; refine (eight_any k _ (by omega)).mono ?_; rintro e w' ⟨rfl, rfl⟩)
      all_goals
        go_wp2
        go_roundw
        case rel => exact ⟨k + 1, by omega, by go_num, ((unhide HM).drew.setStep h8 (stps 8 k)).congr (fun i _ => by unfold upn part; by_cases e : i = k; (subst e; rw [if_pos rfl, if_pos (by omega)]); (rw [if_neg e]; by_cases e2 : i < k; (rw [if_pos e2, if_pos (by omega)]); (rw [if_neg e2, if_neg (by omega)]))), (unhide HT).drew.trans (touch_set _ _ _ _)⟩
        case measure => simp [intOf]; omega
    · obtain rfl : k = 256 := by omega
      go_wp2
      go_end0
      exact ⟨rfl, (unhide HM).congr (fun i hi => by unfold part; rw [if_pos hi]), unhide HT⟩
end Go.Proofs.YtkcoeofbobkaoabGreatDoor


/-
  crc.Table's More and Sum in the run of one goroutine: the sums of the text on CRC-32C. Conditions: the table's block holds what a table that was not yet asked, or was, holds.
-/
namespace Go.Proofs.YtkcoeofbobkaoabGreatDoor
open Go.RowKit

variable {Xo : Outer}

/-- A table that is ready to be asked: it was not asked yet, or it was. -/
def Ready (Xo : Outer) (w : World) (b : Nat) : Prop := (∃ T, TabAt Xo w b 0 0 T) ∨ TabAt Xo w b 1 0 (stps 8)
theorem Ready.keep {w w' : World} {b : Nat} {S : Nat → Prop} (m : Ready Xo w b) (tc : Touch S w w') (hs : ¬ S b) : Ready Xo w' b := by
  rcases m with ⟨T, m⟩ | m
  · exact .inl ⟨T, m.keep tc hs⟩
  · exact .inr (m.keep tc hs)
theorem Ready.lt {w : World} {b : Nat} (m : Ready Xo w b) : b < w.heap.size := by
  rcases m with ⟨T, m⟩ | m
  · exact m.lt
  · exact m.lt
theorem Ready.drew {w : World} {b : Nat} (m : Ready Xo w b) : Ready Xo w.drew b := by
  rcases m with ⟨T, m⟩ | m
  · exact .inl ⟨T, m.drew⟩
  · exact .inr m.drew

set_option maxRecDepth 100000 in
set_option maxHeartbeats 1600000 in
theorem tslow_any (b : Nat) (T : Nat → Nat) (w : World) (h : TabAt Xo w b 0 0 T) :
    Calls Tryz.prog 156 #[.pointer (some ⟨b, 2, none⟩), .func (.func 130) #[.pointer (some ⟨b, 2, none⟩)] #[]] w fun e w' => e = .returned (.tuple #[]) ∧ TabAt Xo w' b 1 0 (stps 8) ∧ Touch (· = b) w w' := by
  have h1 := h.lock
  have f1 := h.frozen 3
  have ha := h.setLock 1
  have ta : Touch (· = b) w (w.setCell ⟨b, 3, none⟩ (.int .i32 1)) := touch_set _ _ _ _
  have a0 := ha.done
  have HA := hide ha
  have TA := hide ta
  have hnot : ∀ (x : Bool) (w : World), (Op.unary .not (.bool x)).run Tryz.prog w = .ok (.bool (!x)) w := fun _ _ => rfl
  clear ha ta h
  go_enter_defers Tryz.func156, Tryz.ntmps156
  go_wp2_with fail
  refine (lock_free ⟨b, 3, none⟩ w h1 f1).mono ?_
  rintro e w' ⟨rfl, rfl⟩
  go_wp2_with fail
  refine (boolload_any b 2 0 _ a0).mono ?_
  rintro e w' ⟨rfl, rfl⟩
  go_wp2_with fail
  refine (fill_any b 0 1 T _ (unhide HA)).mono ?_
  rintro e wb ⟨rfl, hb, tb⟩
  have tb' := (unhide TA).trans tb
  have HB := hide hb
  have TB := hide tb'
  clear HA TA a0 tb tb' hb
  go_wp2_with fail
  refine leaves_cons (f := 177) (args := #[.pointer (some ⟨b, 2, none⟩), .bool true]) (by simp) (by simp [go_sem]) ?_
  refine (boolstore_deferred ⟨b, 2, none⟩ (.int .u32 0) .returning wb (unhide HB).done ((unhide HB).frozen 2)).mono ?_
  rintro e u' w'' ⟨rfl, rfl, rfl⟩
  have hc := (unhide HB).drew.setDone 1
  have tc : Touch (· = b) w (wb.drew.setCell ⟨b, 2, none⟩ (.int .u32 1)) := (unhide TB).drew.trans (touch_set _ _ _ _)
  refine leaves_cons (f := 176) (args := #[.pointer (some ⟨b, 3, none⟩)]) (by simp [settle]) (by simp [go_sem]) ?_
  refine (unlock_deferred ⟨b, 3, none⟩ _ _ hc.lock (hc.frozen 3)).mono ?_
  rintro e u' w'' ⟨rfl, rfl, rfl⟩
  exact ⟨_, results_none rfl _ _ _, rfl, hc.setLock 0, tc.trans (touch_set _ _ _ _)⟩

theorem tdo_first (b : Nat) (T : Nat → Nat) (w : World) (h : TabAt Xo w b 0 0 T) :
    Calls Tryz.prog 129 #[.pointer (some ⟨b, 2, none⟩), .func (.func 130) #[.pointer (some ⟨b, 2, none⟩)] #[]] w fun e w' => e = .returned (.tuple #[]) ∧ TabAt Xo w' b 1 0 (stps 8) ∧ Touch (· = b) w w' := by
  have h0 := h.done
  have K := hide (tslow_any b T w h)
  clear h
  go_enter Tryz.func129, Tryz.ntmps129
  go_wp2_with fail
  refine (boolload_any b 2 0 _ h0).mono ?_
  rintro e w' ⟨rfl, rfl⟩
  go_wp2_with fail
  refine (unhide K).mono ?_
  rintro e w1 ⟨rfl, h1⟩
  have H1 := hide h1
  clear h1
  go_wp2
  go_end0
  exact ⟨rfl, unhide H1⟩

theorem tdo_done (b : Nat) (fv : Value) (d : Int) (hd : (d != 0) = true) (w : World) (h0 : w.cell? ⟨b, 2, none⟩ = some (.int .u32 d)) :
    Calls Tryz.prog 129 #[.pointer (some ⟨b, 2, none⟩), fv] w fun e w' => e = .returned (.tuple #[]) ∧ w' = w := by
  go_enter Tryz.func129, Tryz.ntmps129
  go_wp2_with (go_at_call 155; refine (boolload_any b 2 d _ h0).mono ?_; rintro e w' ⟨rfl, rfl⟩)
  go_end0
  exact ⟨rfl, rfl⟩

theorem tdo_any (b : Nat) (w : World) (h : Ready Xo w b) :
    Calls Tryz.prog 129 #[.pointer (some ⟨b, 2, none⟩), .func (.func 130) #[.pointer (some ⟨b, 2, none⟩)] #[]] w fun e w' => e = .returned (.tuple #[]) ∧ TabAt Xo w' b 1 0 (stps 8) ∧ Touch (· = b) w w' := by
  rcases h with ⟨T, h⟩ | h
  · exact tdo_first b T w h
  · refine (tdo_done b _ 1 rfl w h.done).mono ?_
    rintro e w' ⟨rfl, rfl⟩
    exact ⟨rfl, h, Touch.refl _ _⟩

theorem more_nil (s : Int) (a : Value) (w : World) :
    Calls Tryz.prog 114 #[.pointer none, .int .u32 s, a] w fun e w' => e = .returned (.int .u32 0) ∧ w' = w := by
  go_enter Tryz.func114, Tryz.ntmps114
  go_wp2
  go_ret
  exact ⟨rfl, rfl⟩

theorem sum_nil (a : Value) (w : World) :
    Calls Tryz.prog 84 #[.pointer none, a] w fun e w' => e = .returned (.int .u32 0) ∧ w' = w := by
  go_enter Tryz.func84, Tryz.ntmps84
  go_wp2_with (go_at_call 114; refine (more_nil _ _ _).mono ?_; rintro e w' ⟨rfl, rfl⟩)
  go_ret
  exact ⟨rfl, rfl⟩

theorem not32 (s : Nat) (h : s < 4294967296) : bits BinOp.xor IntKind.u32 IntKind.u32.max (s : Int) = ((cpl s : Nat) : Int) := by
  have := u32_xor_nat 4294967295 s (by omega) h
  rw [cpl_xor h, Nat.xor_comm]
  exact this

set_option maxRecDepth 100000 in
set_option maxHeartbeats 800000 in
theorem more_any (b s : Nat) (a : Option Addr) (len cap : Nat) (g : Nat → Nat) (w : World) (h : Ready Xo w b) (hs : s < 4294967296) (hg : BytesAt w a len g) (hb : 0 < len → ∀ x, a = some x → x.block ≠ b) (hlen : len ≤ 9223372036854775807) :
    Calls Tryz.prog 114 #[.pointer (some ⟨b, 2, none⟩), .int .u32 s, .slice a len cap] w fun e w' => e = .returned (.int .u32 (mor g s len)) ∧ TabAt Xo w' b 1 0 (stps 8) ∧ Touch (· = b) w w' := by
  have hmf : ∀ (fn : Fn) (first cap : Array Value) (w : World), (Instr.makeFunc fn first cap).run Tryz.prog w = .ok (.func fn first cap) w := fun _ _ _ _ => rfl
  have H := hide h
  have G := hide hg
  have HB := hide hb
  clear h hg hb
  go_enter Tryz.func114, Tryz.ntmps114
  go_wp2_with fail
  refine (tdo_any b w (unhide H)).mono ?_
  rintro e w1 ⟨rfl, h1, t1⟩
  have H1 := hide h1
  have T1 := hide t1
  clear h1 t1 hmf
  have hx : bits BinOp.xor IntKind.u32 IntKind.u32.max (s : Int) = ((cpl s : Nat) : Int) := not32 s hs
  go_wp2_with fail
  go_loop [7, 22] (fun v i => ∃ k : Nat, k ≤ len ∧ i = .int .i64 k ∧ v = .int .u32 (reg (txt g) (cpl s) (8 * k))) (fun _ i => len - (intOf i).toNat)
  case atStart => exact ⟨0, Nat.zero_le _, rfl, rfl⟩
  case round =>
    obtain ⟨k, hk, rfl, rfl⟩ := hrel
    have hlt := reg_lt (txt g) (cpl_lt s) (8 * k)
    have ES := hide (reg_byte g (cpl s) k)
    by_cases h8 : k < len
    · obtain ⟨c, off, rfl, hbz, hc, hgk⟩ := (unhide G) k h8
      have hc1 : w1.cell? ⟨c, off + k, none⟩ = some (.int .u8 (g k)) := by
        rw [World.cell?_of_block (w := w) (a := ⟨c, off + k, none⟩) ((unhide T1).block c hbz ((unhide HB) (by omega) _ rfl))]; exact hc
      generalize reg (txt g) (cpl s) (8 * k) = r at *
      clear hc
      obtain ⟨j, EJ, hj⟩ : ∃ j : Nat, Hid (j = (r % 256) ^^^ g k) ∧ bits BinOp.xor IntKind.u8 ((r : Int) % 256) (g k : Int) = (j : Int) := by
        refine ⟨_, rfl, ?_⟩
        have := u8_xor_nat (r % 256) (g k) (by omega) hgk
        simpa using this
      have hj2 : j < 256 := by rw [unhide EJ]; exact Nat.xor_lt_two_pow (n := 8) (by omega) hgk
      have hj3 : (j : Int) < 256 := by omega
      have hcj := (unhide H1).cell hj2
      obtain ⟨y, EY, hy⟩ : ∃ y : Nat, Hid (y = stps 8 j ^^^ (r / 256)) ∧ bits BinOp.xor IntKind.u32 (stps 8 j : Int) ((r : Int) / 256) = (y : Int) := by
        refine ⟨_, rfl, ?_⟩
        have := u32_xor_nat (stps 8 j) (r / 256) (stps_lt 8 (by omega)) (by omega)
        simpa using this
      go_wp2
      go_round
      case rel => exact ⟨k + 1, by omega, by go_num, ival (by rw [unhide ES, unhide EY, unhide EJ, byte_step r (g k) hgk])⟩
      case measure => simp [intOf]; omega
    · obtain rfl : k = len := by omega
      have hn := not32 _ hlt
      have EM : Hid (mor g s k = cpl (reg (txt g) (cpl s) (8 * k))) := rfl
      generalize reg (txt g) (cpl s) (8 * k) = r at *
      go_wp2
      go_ret
      exact ⟨by rw [unhide EM]; rfl, unhide H1, unhide T1⟩

set_option maxRecDepth 100000 in
theorem sum_any (b : Nat) (a : Option Addr) (len cap : Nat) (g : Nat → Nat) (w : World) (h : Ready Xo w b) (hg : BytesAt w a len g) (hb : 0 < len → ∀ x, a = some x → x.block ≠ b) (hlen : len ≤ 9223372036854775807) :
    Calls Tryz.prog 84 #[.pointer (some ⟨b, 2, none⟩), .slice a len cap] w fun e w' => e = .returned (.int .u32 (mor g 0 len)) ∧ TabAt Xo w' b 1 0 (stps 8) ∧ Touch (· = b) w w' := by
  have K := hide (more_any b 0 a len cap g w h (by omega) hg hb hlen)
  clear h hg hb
  go_enter Tryz.func84, Tryz.ntmps84
  go_wp2_with fail
  refine (unhide K).mono ?_
  rintro e w1 ⟨rfl, h1⟩
  have H1 := hide h1
  clear h1 K
  go_wp2
  go_ret
  exact ⟨rfl, unhide H1⟩
end Go.Proofs.YtkcoeofbobkaoabGreatDoor


namespace Go.Proofs.YtkcoeofbobkaoabGreatDoor
variable {Xo : Outer}
open Go.RowKit

/-- A block of bytes that the call made: its first n bytes are g's. -/
def OwnAt (w : World) (b n : Nat) (g : Nat → Nat) : Prop :=
  ∃ cs : Array Value, w.heap[b]? = some (.cells cs 5) ∧ n ≤ cs.size ∧ ∀ i, i < n → cs[i]? = some (.int .u8 (g i)) ∧ g i < 256

theorem OwnAt.lt {w : World} {b n : Nat} {g : Nat → Nat} (h : OwnAt w b n g) : b < w.heap.size := by obtain ⟨cs, h1, _⟩ := h; exact lt_of_heap h1
theorem OwnAt.keep {w w' : World} {b n : Nat} {g : Nat → Nat} {S : Nat → Prop} (h : OwnAt w b n g) (t : Touch S w w') (hs : ¬ S b) : OwnAt w' b n g := by
  obtain ⟨cs, h1, h2⟩ := h; exact ⟨cs, t.keep h1 hs, h2⟩
theorem OwnAt.bytes {w : World} {b n : Nat} {g : Nat → Nat} (h : OwnAt w b n g) : BytesAt w (some ⟨b, 0, none⟩) n g := by
  obtain ⟨cs, h1, h2, h3⟩ := h
  intro i hi
  refine ⟨b, 0, rfl, lt_of_heap h1, ?_, (h3 i hi).2⟩
  rw [cell_of h1, Nat.zero_add]; exact (h3 i hi).1
theorem OwnAt.cell {w : World} {b n : Nat} {g : Nat → Nat} (h : OwnAt w b n g) {i : Nat} (hi : i < n) : w.cell? ⟨b, i, none⟩ = some (.int .u8 (g i)) := by
  obtain ⟨cs, h1, h2, h3⟩ := h
  rw [cell_of h1]; exact (h3 i hi).1
theorem OwnAt.frozen {w : World} {b n : Nat} {g : Nat → Nat} (h : OwnAt w b n g) (i : Nat) : w.frozen? ⟨b, i, none⟩ = false := by
  obtain ⟨cs, h1, _⟩ := h; exact frozen_of h1 i
theorem OwnAt.set {w : World} {b n : Nat} {g : Nat → Nat} (h : OwnAt w b n g) {i : Nat} (hi : i < n) {x : Nat} (hx : x < 256) : OwnAt (w.setCell ⟨b, i, none⟩ (.int .u8 x)) b n (upn g i x) := by
  obtain ⟨cs, h1, h2, h3⟩ := h
  refine ⟨_, heap_set h1 i _, by simpa using h2, fun j hj => ?_⟩
  rw [Array.getElem?_setIfInBounds]
  unfold upn
  by_cases e : j = i
  · subst e; rw [if_pos rfl, if_pos (by omega), if_pos rfl]; exact ⟨rfl, hx⟩
  · rw [if_neg (by omega), if_neg e]; exact h3 j hj
theorem OwnAt.congr {w : World} {b n : Nat} {g h : Nat → Nat} (m : OwnAt w b n g) (e : ∀ i, i < n → g i = h i) : OwnAt w b n h := by
  obtain ⟨cs, h1, h2, h3⟩ := m
  exact ⟨cs, h1, h2, fun i hi => by rw [← e i hi]; exact h3 i hi⟩

theorem info_u8 : ∃ i, Tryz.prog.info? 5 = some i ∧ i.zero = some (.int .u8 0) ∧ i.size = 1 ∧ i.bytes = 1 := by
  have h : (Tryz.prog.info? 5).map (fun i => (i.zero, i.size, i.bytes)) = some (some (.int .u8 0), 1, 1) := by kernel_rfl
  obtain ⟨i, hi, hz⟩ := Option.map_eq_some_iff.1 h
  simp only [Prod.mk.injEq] at hz
  exact ⟨i, hi, hz⟩

theorem make_own (len : Nat) (hlen : len ≤ 140737488351232) (w : World) :
    (Instr.makeSlice 23 (.int .i64 (len : Int)) (.int .i64 ((len : Int) + 9))).run Tryz.prog w = .ok (.slice (some ⟨w.heap.size, 0, none⟩) len (len + 9)) (w.alloc (.cells (madeCells #[.int .u8 0] (len + 9)) 5)) := by
  obtain ⟨i, hi, hz, hs, hb⟩ := info_u8
  have h := run_make (P := Tryz.prog) w 23 5 i _ Tryz.underlying23 hi hz .i64 .i64 (len : Int) ((len : Int) + 9) (by omega) (by omega) (by rw [hb]; omega) (by omega)
  have e1 : ((len : Int) + 9).toNat = len + 9 := by omega
  rw [Int.toNat_natCast, e1, hs, Nat.mul_one] at h
  exact h

theorem copy_own (a : Option Addr) (len cap : Nat) (g : Nat → Nat) (w : World) (hg : BytesAt w a len g) :
    ∃ w', (Builtin.copy_ #[23, 23] 3 #[.slice (some ⟨w.heap.size, 0, none⟩) len (len + 9), .slice a len cap]).run Tryz.prog (w.alloc (.cells (madeCells #[.int .u8 0] (len + 9)) 5)) = .ok (.int .i64 (len : Int)) w' ∧
      OwnAt w' w.heap.size len g ∧ Below w.heap.size w w' := by
  have hsz : (Tryz.prog.info? 5).map (·.size) = some 1 := by kernel_rfl
  have b0 : Below w.heap.size w (w.alloc (.cells (madeCells #[.int .u8 0] (len + 9)) 5)) := (Below.refl _ _).alloc (Nat.le_refl _) _
  by_cases h0 : len = 0
  · subst h0
    refine ⟨_, run_copy_none (P := Tryz.prog) _ 23 23 3 5 _ a 0 (0 + 9) 0 cap Tryz.underlying23 hsz rfl, ⟨_, heap_new _ _, Nat.zero_le _, fun i hi => by omega⟩, b0⟩
  · obtain ⟨b, off, rfl, hb, _, _⟩ := hg 0 (by omega)
    have hcl : ((List.range len).map (fun i => Value.int .u8 (g i))).length = len := by simp
    have hrun := run_copy_row (P := Tryz.prog) (w.alloc (.cells (madeCells #[.int .u8 0] (len + 9)) 5)) 23 23 3 5 w.heap.size 0 len (len + 9) ⟨b, off, none⟩ len cap (madeCells #[.int .u8 0] (len + 9)) 5 ((List.range len).map (fun i => Value.int .u8 (g i)))
      Tryz.underlying23 hsz (heap_new _ _) (by rw [hcl]; exact (Nat.min_self len).symm) (fun j v hj => by
        have hjl : j < len := by
          have := (List.getElem?_eq_some_iff.1 hj).1
          rw [hcl] at this; exact this
        obtain ⟨b', off', ha', hb', hc', _⟩ := hg j hjl
        simp at ha'
        obtain ⟨rfl, rfl⟩ := ha'
        have ev : v = .int .u8 (g j) := by
          simp [hjl] at hj
          exact hj.symm
        have hadd : Addr.add ⟨b, off, none⟩ j = ⟨b, off + j, none⟩ := by
          unfold Addr.add
          split
          · rename_i h0; subst h0; rfl
          · rfl
        rw [hadd, ev, b0.cell (p := ⟨b, off + j, none⟩) hb']
        exact hc') (by rw [hcl, size_madeCells]; omega) (fun v hv => by
        obtain ⟨i, _, rfl⟩ := List.mem_map.1 hv
        rfl)
    rw [hcl] at hrun
    refine ⟨_, hrun, ⟨_, setRow_heap _ _ _ _ _ _ (heap_new _ _), ?_, fun i hi => ?_⟩, below_setRow b0 (Nat.le_refl _) _⟩
    · simp [size_madeCells]
    · obtain ⟨_, _, _, _, _, h256⟩ := hg i hi
      refine ⟨?_, h256⟩
      rw [List.getElem?_toArray, List.take_zero, List.nil_append, List.getElem?_append_left (by rw [hcl]; exact hi)]
      simp [hi]


theorem shr_bit (x j : Nat) : x / 2 ^ j % 2 = (x.testBit j).toNat := by
  rw [Nat.testBit_eq_decide_div_mod_eq]
  have := Nat.mod_two_eq_zero_or_one (x / 2 ^ j)
  rcases this with h | h <;> simp [h]

theorem bit_div (b : Bool) : b.toNat / 2 = 0 := by cases b <;> rfl
theorem bit_mod (b : Bool) : b.toNat % 2 = b.toNat := by cases b <;> rfl
theorem stp_bit1 (q : Nat) (b : Bool) (h : q % 2 + b.toNat = 1) : stp (q ^^^ b.toNat) = (q / 2) ^^^ pol := by
  unfold stp
  rw [xor_mod2, xor_div2, bit_div, bit_mod, Nat.xor_zero, h, if_pos rfl]
theorem stp_bit0 (q : Nat) (b : Bool) (h : (q % 2 + b.toNat) % 2 = 0) : stp (q ^^^ b.toNat) = q / 2 := by
  unfold stp
  rw [xor_mod2, xor_div2, bit_div, bit_mod, Nat.xor_zero, h, if_neg (by omega), Nat.xor_zero]
theorem and_bit (x j : Nat) (hx : x < 256) : bits .and .u32 ((x : Int) / 2 ^ j % 4294967296) 1 = (((x.testBit j).toNat : Nat) : Int) := by
  have h1 : ((x : Int) / 2 ^ j % 4294967296) = ((x / 2 ^ j : Nat) : Int) := by
    have e : ((x : Int) / 2 ^ j) = ((x / 2 ^ j : Nat) : Int) := by simp
    rw [e]
    have : x / 2 ^ j ≤ x := Nat.div_le_self _ _
    generalize x / 2 ^ j = y at *
    omega
  rw [h1, and1 _ (by have : x / 2 ^ j ≤ x := Nat.div_le_self _ _
                     omega), shr_bit]

set_option maxRecDepth 100000 in
set_option maxHeartbeats 1600000 in
theorem refmore_any (s : Nat) (a : Option Addr) (len cap : Nat) (g : Nat → Nat) (w : World) (hs : s < 4294967296) (hg : BytesAt w a len g) (hlen : len ≤ 9223372036854775807) :
    Calls Tryz.prog 31 #[.int .u32 s, .slice a len cap] w fun e w' => e = .returned (.int .u32 (mor g s len)) ∧ w' = w := by
  have G := hide hg
  clear hg
  have hx : bits BinOp.xor IntKind.u32 IntKind.u32.max (s : Int) = ((cpl s : Nat) : Int) := not32 s hs
  go_enter Tryz.func31, Tryz.ntmps31
  go_wp2_with fail
  go_loop [5, 6] (fun v i => ∃ k : Nat, k ≤ len ∧ i = .int .i64 k ∧ v = .int .u32 (reg (txt g) (cpl s) (8 * k))) (fun _ i => len - (intOf i).toNat)
  case atStart => exact ⟨0, Nat.zero_le _, rfl, rfl⟩
  case round =>
    obtain ⟨k, hk, rfl, rfl⟩ := hrel
    have hlt := reg_lt (txt g) (cpl_lt s) (8 * k)
    have ES := hide (reg_byte g (cpl s) k)
    by_cases h8 : k < len
    · obtain ⟨c, off, rfl, hbz, hc, hgk⟩ := (unhide G) k h8
      generalize hr : reg (txt g) (cpl s) (8 * k) = r at *
      have HR := hide hr
      clear hr
      go_wp2_with fail
      go_loop [5, 7] (fun v i => ∃ j : Nat, j ≤ 8 ∧ i = .int .i64 j ∧ v = .int .u32 (reg (fun i => (g k).testBit i) r j)) (fun _ i => 8 - (intOf i).toNat)
      case atStart => exact ⟨0, Nat.zero_le _, rfl, rfl⟩
      case round =>
        obtain ⟨j, hj, rfl, rfl⟩ := hrel
        have hq := reg_lt (fun i => (g k).testBit i) hlt j
        by_cases hj8 : j < 8
        · generalize hq0 : reg (fun i => (g k).testBit i) r j = q at *
          have HQ := hide hq0
          clear hq0
          have hA := and1 q hq
          have hB := and_bit (g k) j hgk
          have EQ : Hid (reg (fun i => (g k).testBit i) r (j + 1) = stp (q ^^^ ((g k).testBit j).toNat)) := by
            show stp (reg (fun i => (g k).testBit i) r j ^^^ ((g k).testBit j).toNat) = _
            rw [unhide HQ]
          generalize (g k).testBit j = β at *
          have x00 : bits BinOp.xor IntKind.u32 0 0 = 0 := by decide
          have x01 : bits BinOp.xor IntKind.u32 0 1 = 1 := by decide
          have x10 : bits BinOp.xor IntKind.u32 1 0 = 1 := by decide
          have x11 : bits BinOp.xor IntKind.u32 1 1 = 0 := by decide
          rcases Nat.mod_two_eq_zero_or_one q with hm | hm
          all_goals
            rw [hm] at hA
            have HM := hide hm
            clear hm
            cases β
            all_goals
              simp only [Bool.toNat_false, Bool.toNat_true] at hB
              go_wp2
              go_round
              case rel => exact ⟨j + 1, by omega, by go_num, ival (by
                rw [unhide EQ]
                first
                  | (rw [stp_bit1 q _ (by rw [unhide HM]; rfl), xorP q hq])
                  | (rw [stp_bit0 q _ (by rw [unhide HM]; rfl)]; omega))⟩
              case measure => simp [intOf]; omega
        · obtain rfl : j = 8 := by omega
          have ER : Hid (reg (fun i => (g k).testBit i) r 8 = reg (txt g) (cpl s) (8 * (k + 1))) := by show _ = _; rw [unhide ES]
          go_wp2
          go_round
          case rel => exact ⟨k + 1, by omega, by go_num, ival (by rw [unhide ER])⟩
          case measure => simp [intOf]; omega
    · obtain rfl : k = len := by omega
      have hn := not32 _ hlt
      have EM : Hid (mor g s k = cpl (reg (txt g) (cpl s) (8 * k))) := rfl
      generalize reg (txt g) (cpl s) (8 * k) = r at *
      go_wp2
      go_ret
      exact ⟨by rw [unhide EM]; rfl, rfl⟩
end Go.Proofs.YtkcoeofbobkaoabGreatDoor
