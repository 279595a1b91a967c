/-
  GateApart returns true, whatever its bounds and sizes, and writes nothing that was there: by the counter's contracts. Conditions: none beyond the arguments' kinds.
-/
import Derived.Test.YtbojiafnapcgnaaCtr
import Derived.OpenShut
namespace Go.Proofs.Ytbojiafnapcgnaa
open Go.RowKit

set_option maxHeartbeats 1600000 in
theorem gateApart_walk (f l : Int) (a : Option Addr) (len cap : Nat) (g : Nat → Int) (w : World) (hf : 0 ≤ f) (hl : 0 ≤ l) (hlm : l ≤ 18446744073709551615) (hg : RowOf .u8 w a len g) (hlen : len ≤ 9223372036854775807) :
    Calls Try.prog 4 #[.int .u64 f, .int .u64 l, .slice a len cap] w fun e w' => e = .returned (.bool true) ∧ Below w.heap.size w w' := by
  have G := hide hg
  clear hg
  go_enter Try.func4, Try.ntmps4
  go_wp2_with fail
  refine (new_any f l w hf hl hlm).mono ?_
  rintro e w1 ⟨rfl, h1, b1⟩
  have H1 := hide h1
  have B1 := hide b1
  clear h1 b1
  go_wp2_with fail
  refine (awake_any w1).mono ?_
  rintro e w2 ⟨rfl, b2⟩
  have H2 := hide ((unhide H1).keep (Touch.of_below (S := fun _ => False) b2) (fun h => h))
  have B2 := hide ((unhide B1).trans (b2.mono (unhide B1).size))
  clear b2 H1 B1
  have hx : ∃ x, min f l = x ∧ 0 ≤ x ∧ x ≤ l := ⟨_, rfl, by omega, by omega⟩
  obtain ⟨x0, ex, hx0, hxl⟩ := hx
  rw [ex] at H2
  clear ex
  go_wp2_with fail
  refine (left_any w.heap.size x0 l w2 (unhide H2)).mono ?_
  rintro e w3 ⟨rfl, rfl⟩
  have H3 := hide (unhide H2).drew
  have B3 := hide (unhide B2).drew
  clear H2 B2
  go_wp2_with fail
  go_loopw [10, 34] (fun t i wr => ∃ (k : Nat) (x : Int), k ≤ len ∧ i = .int .i64 k ∧ t = .int .u64 x ∧ x0 ≤ x ∧ x ≤ l ∧ CtrAt wr w.heap.size x l ∧ Below w.heap.size w wr) (fun _ i _ => len - (intOf i).toNat)
  case atStart => exact ⟨0, x0, Nat.zero_le _, rfl, rfl, Int.le_refl _, hxl, unhide H3, unhide B3⟩
  case round =>
    obtain ⟨k, x, hk, rfl, rfl, hxx, hxl', hc, hb⟩ := hrel
    have HC := hide hc
    have HB := hide hb
    clear hc hb H3 B3
    by_cases hlt : k < len
    · obtain ⟨b, off, rfl, hbz, hcell, hwf⟩ := (unhide G).later hlt (unhide HB)
      have hs := bounds_u8 hwf
      obtain ⟨hs0, hs1⟩ := hs
      clear hwf hbz
      generalize g k = s at *
      go_wp2_with fail
      refine (block_any w.heap.size x l s wr (unhide HC) hs0).mono ?_
      rintro e w5 ⟨rfl, h5, t5⟩
      have B5 := hide (below_touch (unhide HB) t5 (unhide HB).size (fun k hk => by omega))
      clear hcell
      by_cases hc : 0 < s ∧ s ≤ l - x
      · have e5 : blk x l s = (x + s, x, true) := by unfold blk; rw [if_pos hc]
        rw [e5] at h5
        rw [e5]
        obtain ⟨hc1, hc2⟩ := hc
        have H5 := hide h5
        have hne : (s == 0) = false := by simp; omega
        have hxs : x + s ≤ l := by omega
        clear h5 t5 e5 HC HB
        go_wp2
        go_roundw
        case rel => exact ⟨k + 1, x + s, by omega, by go_num, rfl, by omega, by omega, unhide H5, unhide B5⟩
        case measure => simp [intOf]; omega
      · have e5 : blk x l s = (x, 0, false) := by unfold blk; rw [if_neg hc]
        rw [e5] at h5
        rw [e5]
        have H5 := hide h5
        clear h5 t5 e5 HC HB
        by_cases hc1 : 0 < s
        all_goals
          go_wp2
          go_roundw
          case rel => exact ⟨k + 1, x, by omega, by go_num, rfl, by omega, by omega, unhide H5, unhide B5⟩
          case measure => simp [intOf]; omega
    · go_wp2_with fail
      refine (left_any w.heap.size x l wr (unhide HC)).mono ?_
      rintro e w6 ⟨rfl, rfl⟩
      have B6 := hide (unhide HB).drew
      clear HC HB
      go_wp2
      go_ret
      exact ⟨by simp; omega, unhide B6⟩
end Go.Proofs.Ytbojiafnapcgnaa
