/-
  What crc.Table's methods do in the run of one goroutine. Conditions: the table's block holds what a table that was not yet asked, or was, holds.
-/
import Derived.Test.YtfdpnfeaagijhaaBools
import Derived.Test.YtfdpnfeaagijhaaCrcMath
import Derived.Laws.BitsAllLaws
import Derived.Deep.RegionWith

namespace Go.Proofs.Ytfdpnfeaagijhaa
open Go.RowKit

theorem and1 (q : Nat) (h : q < 4294967296) : bits .and .u32 (q : Int) 1 = ((q % 2 : Nat) : Int) := by
  have := u32_and_nat q 1 h (by omega)
  rw [nat_mask1] at this
  exact this
theorem xorP (q : Nat) (h : q < 4294967296) : bits .xor .u32 ((q : Int) / 2) 2197175160 = (((q / 2) ^^^ pol : Nat) : Int) := by
  have := u32_xor_nat (q / 2) pol (by omega) (by unfold pol; omega)
  simpa [pol] using this
theorem ival {k : IntKind} {a b : Int} (h : a = b) : Value.int k a = Value.int k b := by rw [h]
theorem stp_odd (q : Nat) (h : q % 2 = 1) : stp q = (q / 2) ^^^ pol := by unfold stp; rw [if_pos h]
theorem stp_ev (q : Nat) (h : ¬ q % 2 = 1) : stp q = q / 2 := by unfold stp; rw [if_neg h, Nat.xor_zero]

set_option maxHeartbeats 400000 in
theorem eight_any (r : Nat) (w : World) (hr : r < 4294967296) :
    Calls Try.prog 55 #[.int .u32 r] w fun e w' => e = .returned (.int .u32 (stps 8 r)) ∧ w' = w := by
  go_enter Try.func55, Try.ntmps55
  go_wp2_with fail
  go_loop [0, 4] (fun v i => ∃ k : Nat, k ≤ 8 ∧ i = .int .i64 k ∧ v = .int .u32 (stps k r)) (fun _ i => 8 - (intOf i).toNat)
  case atStart => exact ⟨0, Nat.zero_le _, rfl, rfl⟩
  case round =>
    obtain ⟨k, hk, rfl, rfl⟩ := hrel
    have hlt := stps_lt k hr
    have ES : Hid (stps (k + 1) r = stp (stps k r)) := rfl
    by_cases h8 : k < 8
    · generalize stps k r = q at *
      have ha := and1 q hlt
      by_cases hq : q % 2 = 1
      · rw [hq] at ha
        go_wp2
        go_round
        case rel => exact ⟨k + 1, by omega, by go_num, ival (by rw [unhide ES, stp_odd q hq, xorP q hlt])⟩
        case measure => simp [intOf]; omega
      · have h0 : q % 2 = 0 := by omega
        rw [h0] at ha
        have HQ := hide hq
        clear hq h0
        go_wp2
        go_round
        case rel => exact ⟨k + 1, by omega, by go_num, ival (by rw [unhide ES, stp_ev q (unhide HQ)]; omega)⟩
        case measure => simp [intOf]; omega
    · obtain rfl : k = 8 := by omega
      go_wp2
      go_ret
      exact ⟨rfl, rfl⟩

/-- The other cells of a wal's block: its disk, its name, its size, its count. -/
structure Outer where
  d : Value
  n : Value
  s : Value
  c : Value
/-- A table within a wal's block: done, the lock's word, and 256 steps; and the other cells. -/
structure TabAt (Xo : Outer) (w : World) (b : Nat) (d s : Int) (T : Nat → Nat) : Prop where
  ex : ∃ cs : Array Value, w.heap[b]? = some (.cells cs 57) ∧ cs.size = 263 ∧ cs[2]? = some (.int .u32 d) ∧ cs[3]? = some (.int .i32 s) ∧ (∀ i, i < 256 → cs[5 + i]? = some (.int .u32 (T i))) ∧ (cs[0]? = some Xo.d ∧ cs[1]? = some Xo.n ∧ cs[261]? = some Xo.s ∧ cs[262]? = some Xo.c)

def upn (T : Nat → Nat) (i x : Nat) : Nat → Nat := fun j => if j = i then x else T j

section
variable {Xo : Outer} {w w' : World} {b : Nat} {d s : Int} {T : Nat → Nat}
theorem TabAt.lt (m : TabAt Xo w b d s T) : b < w.heap.size := by obtain ⟨cs, h1, _⟩ := m.ex; exact lt_of_heap h1
theorem TabAt.keep {S : Nat → Prop} (m : TabAt Xo w b d s T) (tc : Touch S w w') (hs : ¬ S b) : TabAt Xo w' b d s T := by
  obtain ⟨cs, h1, h2⟩ := m.ex; exact ⟨cs, tc.keep h1 hs, h2⟩
theorem TabAt.drew (m : TabAt Xo w b d s T) : TabAt Xo w.drew b d s T := by obtain ⟨cs, h1, h2⟩ := m.ex; exact ⟨cs, h1, h2⟩
theorem TabAt.done (m : TabAt Xo w b d s T) : w.cell? ⟨b, 2, none⟩ = some (.int .u32 d) := by
  obtain ⟨cs, h1, h2, h3, h4, h5, h6⟩ := m.ex; rw [cell_of h1]; exact h3
theorem TabAt.lock (m : TabAt Xo w b d s T) : w.cell? ⟨b, 3, none⟩ = some (.int .i32 s) := by
  obtain ⟨cs, h1, h2, h3, h4, h5, h6⟩ := m.ex; rw [cell_of h1]; exact h4
theorem TabAt.cell (m : TabAt Xo w b d s T) {i : Nat} (hi : i < 256) : w.cell? ⟨b, 5 + i, none⟩ = some (.int .u32 (T i)) := by
  obtain ⟨cs, h1, h2, h3, h4, h5, h6⟩ := m.ex; rw [cell_of h1]; exact h5 i hi
theorem TabAt.outer (m : TabAt Xo w b d s T) : w.cell? ⟨b, 0, none⟩ = some Xo.d ∧ w.cell? ⟨b, 1, none⟩ = some Xo.n ∧ w.cell? ⟨b, 261, none⟩ = some Xo.s ∧ w.cell? ⟨b, 262, none⟩ = some Xo.c := by
  obtain ⟨cs, h1, h2, h3, h4, h5, h6, h7, h8, h9⟩ := m.ex
  exact ⟨by rw [cell_of h1]; exact h6, by rw [cell_of h1]; exact h7, by rw [cell_of h1]; exact h8, by rw [cell_of h1]; exact h9⟩
theorem TabAt.frozen (m : TabAt Xo w b d s T) (i : Nat) : w.frozen? ⟨b, i, none⟩ = false := by
  obtain ⟨cs, h1, _⟩ := m.ex; exact frozen_of h1 i
theorem set_ne {cs : Array Value} {i j : Nat} (v : Value) (h : i ≠ j) : (cs.setIfInBounds i v)[j]? = cs[j]? := by rw [Array.getElem?_setIfInBounds, if_neg h]
theorem set_eq {cs : Array Value} {i : Nat} (v : Value) (h : i < cs.size) : (cs.setIfInBounds i v)[i]? = some v := by rw [Array.getElem?_setIfInBounds, if_pos rfl, if_pos h]
theorem TabAt.setDone (m : TabAt Xo w b d s T) (y : Int) : TabAt Xo (w.setCell ⟨b, 2, none⟩ (.int .u32 y)) b y s T := by
  obtain ⟨cs, h1, h2, h3, h4, h5, h6, h7, h8, h9⟩ := m.ex
  refine ⟨_, heap_set h1 2 _, by simpa using h2, set_eq _ (by omega), ?_, fun i hi => ?_, ?_, ?_, ?_, ?_⟩ <;> rw [set_ne _ (by omega)]
  · exact h4
  · exact h5 i hi
  · exact h6
  · exact h7
  · exact h8
  · exact h9
theorem TabAt.setLock (m : TabAt Xo w b d s T) (y : Int) : TabAt Xo (w.setCell ⟨b, 3, none⟩ (.int .i32 y)) b d y T := by
  obtain ⟨cs, h1, h2, h3, h4, h5, h6, h7, h8, h9⟩ := m.ex
  refine ⟨_, heap_set h1 3 _, by simpa using h2, ?_, set_eq _ (by omega), fun i hi => ?_, ?_, ?_, ?_, ?_⟩ <;> rw [set_ne _ (by omega)]
  · exact h3
  · exact h5 i hi
  · exact h6
  · exact h7
  · exact h8
  · exact h9
theorem TabAt.setStep (m : TabAt Xo w b d s T) {i : Nat} (hi : i < 256) (x : Nat) : TabAt Xo (w.setCell ⟨b, 5 + i, none⟩ (.int .u32 x)) b d s (upn T i x) := by
  obtain ⟨cs, h1, h2, h3, h4, h5, h6, h7, h8, h9⟩ := m.ex
  refine ⟨_, heap_set h1 (5 + i) _, by simpa using h2, ?_, ?_, fun j hj => ?_, ?_, ?_, ?_, ?_⟩
  · rw [set_ne _ (by omega)]; exact h3
  · rw [set_ne _ (by omega)]; exact h4
  · unfold upn
    by_cases e : j = i
    · subst e; rw [if_pos rfl]; exact set_eq _ (by omega)
    · rw [if_neg e, set_ne _ (by omega)]; exact h5 j hj
  · rw [set_ne _ (by omega)]; exact h6
  · rw [set_ne _ (by omega)]; exact h7
  · rw [set_ne _ (by omega)]; exact h8
  · rw [set_ne _ (by omega)]; exact h9
theorem TabAt.setSize (m : TabAt Xo w b d s T) (y : Value) : TabAt { Xo with s := y } (w.setCell ⟨b, 261, none⟩ y) b d s T := by
  obtain ⟨cs, h1, h2, h3, h4, h5, h6, h7, h8, h9⟩ := m.ex
  refine ⟨_, heap_set h1 261 _, by simpa using h2, ?_, ?_, fun i hi => ?_, ?_, ?_, set_eq _ (by omega), ?_⟩ <;> rw [set_ne _ (by omega)]
  · exact h3
  · exact h4
  · exact h5 i hi
  · exact h6
  · exact h7
  · exact h9
theorem TabAt.setCount (m : TabAt Xo w b d s T) (y : Value) : TabAt { Xo with c := y } (w.setCell ⟨b, 262, none⟩ y) b d s T := by
  obtain ⟨cs, h1, h2, h3, h4, h5, h6, h7, h8, h9⟩ := m.ex
  refine ⟨_, heap_set h1 262 _, by simpa using h2, ?_, ?_, fun i hi => ?_, ?_, ?_, ?_, set_eq _ (by omega)⟩ <;> rw [set_ne _ (by omega)]
  · exact h3
  · exact h4
  · exact h5 i hi
  · exact h6
  · exact h7
  · exact h8
theorem TabAt.congr {U : Nat → Nat} (m : TabAt Xo w b d s T) (e : ∀ i, i < 256 → T i = U i) : TabAt Xo w b d s U := by
  obtain ⟨cs, h1, h2, h3, h4, h5, h6⟩ := m.ex
  exact ⟨cs, h1, h2, h3, h4, fun i hi => by rw [h5 i hi, e i hi], h6⟩
end
variable {Xo : Outer}

/-- The first k steps are laid. -/
def part (T : Nat → Nat) (k : Nat) : Nat → Nat := fun i => if i < k then stps 8 i else T i

set_option maxRecDepth 100000 in
set_option maxHeartbeats 800000 in
theorem fill_any (b : Nat) (d s : Int) (T : Nat → Nat) (w : World) (m : TabAt Xo w b d s T) :
    Calls Try.prog 50 #[.pointer (some ⟨b, 2, none⟩)] w fun e w' => e = .returned (.tuple #[]) ∧ TabAt Xo w' b d s (stps 8) ∧ Touch (· = b) w w' := by
  have M := hide m
  clear m
  go_enter Try.func50, Try.ntmps50
  go_wp2_with fail
  go_loopw [3] (fun i wr => ∃ k : Nat, k ≤ 256 ∧ i = .int .i64 k ∧ TabAt Xo wr b d s (part T k) ∧ Touch (· = b) w wr) (fun i _ => 256 - (intOf i).toNat)
  case atStart => exact ⟨0, Nat.zero_le _, rfl, (unhide M).congr (fun i _ => rfl), Touch.refl _ _⟩
  case round =>
    obtain ⟨k, hk, rfl, hm, ht⟩ := hrel
    have HM := hide hm
    have HT := hide ht
    clear hm ht M
    by_cases h8 : k < 256
    · have hk' : (k : Int) < 256 := by omega
      have c := (unhide HM).drew.cell h8
      have z := (unhide HM).drew.frozen (5 + k)
      have hwr : IntKind.u32.wrap (k : Int) = k := by rw [IntKind.wrap_u32']; omega
      go_wp2_with fail
      go_region_with (go_at_call 55; refine (eight_any k _ (by omega)).mono ?_; rintro e w' ⟨rfl, rfl⟩)
      all_goals
        go_wp2
        go_roundw
        case rel => exact ⟨k + 1, by omega, by go_num, ((unhide HM).drew.setStep h8 (stps 8 k)).congr (fun i _ => by unfold upn part; by_cases e : i = k; (subst e; rw [if_pos rfl, if_pos (by omega)]); (rw [if_neg e]; by_cases e2 : i < k; (rw [if_pos e2, if_pos (by omega)]); (rw [if_neg e2, if_neg (by omega)]))), (unhide HT).drew.trans (touch_set _ _ _ _)⟩
        case measure => simp [intOf]; omega
    · obtain rfl : k = 256 := by omega
      go_wp2
      go_end0
      exact ⟨rfl, (unhide HM).congr (fun i hi => by unfold part; rw [if_pos hi]), unhide HT⟩
end Go.Proofs.Ytfdpnfeaagijhaa
