/-
  GateRaised returns true, whatever its four numbers, and writes nothing that was there: by the counter's contracts. Conditions: none beyond the numbers' kinds.
-/
import Derived.Test.YtbojiafnapcgnaaCtr
namespace Go.Proofs.Ytbojiafnapcgnaa
open Go.RowKit

set_option maxHeartbeats 800000 in
theorem gateRaised_walk (f l t n : Int) (w : World) (hf : 0 ≤ f) (hl : 0 ≤ l) (hlm : l ≤ 18446744073709551615) (ht : 0 ≤ t) (hn : 0 ≤ n) (hnm : n ≤ 255) :
    Calls Try.prog 5 #[.int .u64 f, .int .u64 l, .int .u64 t, .int .u8 n] w fun e w' => e = .returned (.bool true) ∧ Below w.heap.size w w' := by
  go_enter Try.func5, Try.ntmps5
  go_wp2_with fail
  refine (new_any f l w hf hl hlm).mono ?_
  rintro e w1 ⟨rfl, h1, b1⟩
  have H1 := hide h1
  have B1 := hide b1
  clear h1 b1
  go_wp2_with fail
  refine (awake_any w1).mono ?_
  rintro e w2 ⟨rfl, b2⟩
  have H2 := hide ((unhide H1).keep (Touch.of_below (S := fun _ => False) b2) (fun h => h))
  have B2 := hide ((unhide B1).trans (b2.mono (unhide B1).size))
  clear b2 H1 B1
  go_wp2_with fail
  refine (raise_any w.heap.size (min f l) l t w2 (unhide H2)).mono ?_
  rintro e w3 ⟨rfl, h3, t3⟩
  have B3 := hide (below_touch (unhide B2) t3 (unhide B2).size (fun k hk => by omega))
  have hx : ∃ x, max (min f l) (min t l) = x ∧ 0 ≤ x ∧ x ≤ l ∧ (t ≤ x ∨ l ≤ x) := ⟨_, rfl, by omega, by omega, by omega⟩
  obtain ⟨x, ex, hx0, hxl, hxt⟩ := hx
  rw [ex] at h3
  have H3 := hide h3
  have HT := hide hxt
  clear h3 t3 H2 B2 ex hxt
  go_wp2_with fail
  refine (left_any w.heap.size x l w3 (unhide H3)).mono ?_
  rintro e w4 ⟨rfl, rfl⟩
  have H4 := hide (unhide H3).drew
  have B4 := hide (unhide B3).drew
  clear H3 B3
  go_wp2_with fail
  refine (block_any w.heap.size x l n w3.drew (unhide H4) (by omega)).mono ?_
  rintro e w5 ⟨rfl, h5, t5⟩
  have B5 := hide (below_touch (unhide B4) t5 (unhide B4).size (fun k hk => by omega))
  by_cases hc : 0 < n ∧ n ≤ l - x
  · have e5 : blk x l n = (x + n, x, true) := by unfold blk; rw [if_pos hc]
    rw [e5] at h5
    rw [e5]
    have H5 := hide h5
    obtain ⟨hc1, hc2⟩ := hc
    have hxt : t ≤ x := by have := unhide HT; omega
    clear h5 t5 e5 H4 B4 HT
    go_wp2_with fail
    refine (left_any w.heap.size (x + n) l w5 (unhide H5)).mono ?_
    rintro e w6 ⟨rfl, rfl⟩
    have H6 := hide (unhide H5).drew
    have B6 := hide (unhide B5).drew
    clear H5 B5
    go_wp2_with fail
    refine (raise_any w.heap.size (x + n) l x w5.drew (unhide H6)).mono ?_
    rintro e w7 ⟨rfl, h7, t7⟩
    have e7 : max (x + n) (min x l) = x + n := by omega
    rw [e7] at h7
    have H7 := hide h7
    have B7 := hide (below_touch (unhide B6) t7 (unhide B6).size (fun k hk => by omega))
    clear h7 t7 e7 H6 B6
    go_wp2_with fail
    refine (left_any w.heap.size (x + n) l w7 (unhide H7)).mono ?_
    rintro e w8 ⟨rfl, rfl⟩
    have B8 := hide (unhide B7).drew
    clear H7 B7
    go_wp2
    go_ret
    exact ⟨by simp, unhide B8⟩
  · have e5 : blk x l n = (x, 0, false) := by unfold blk; rw [if_neg hc]
    rw [e5] at h5
    rw [e5]
    have H5 := hide h5
    clear h5 t5 e5 H4 B4 HT
    by_cases hc1 : 0 < n
    · have hc2 : l - x < n := by omega
      clear hc
      go_wp2_with fail
      refine (left_any w.heap.size x l w5 (unhide H5)).mono ?_
      rintro e w6 ⟨rfl, rfl⟩
      have H6 := hide (unhide H5).drew
      have B6 := hide (unhide B5).drew
      clear H5 B5
      go_wp2_with fail
      refine (raise_any w.heap.size x l x w5.drew (unhide H6)).mono ?_
      rintro e w7 ⟨rfl, h7, t7⟩
      have e7 : max x (min x l) = x := by omega
      rw [e7] at h7
      have H7 := hide h7
      have B7 := hide (below_touch (unhide B6) t7 (unhide B6).size (fun k hk => by omega))
      clear h7 t7 e7 H6 B6
      go_wp2_with fail
      refine (left_any w.heap.size x l w7 (unhide H7)).mono ?_
      rintro e w8 ⟨rfl, rfl⟩
      have B8 := hide (unhide B7).drew
      clear H7 B7
      go_wp2
      go_ret
      exact ⟨by simp, unhide B8⟩
    · clear hc
      go_wp2_with fail
      refine (left_any w.heap.size x l w5 (unhide H5)).mono ?_
      rintro e w6 ⟨rfl, rfl⟩
      have H6 := hide (unhide H5).drew
      have B6 := hide (unhide B5).drew
      clear H5 B5
      go_wp2_with fail
      refine (raise_any w.heap.size x l x w5.drew (unhide H6)).mono ?_
      rintro e w7 ⟨rfl, h7, t7⟩
      have e7 : max x (min x l) = x := by omega
      rw [e7] at h7
      have H7 := hide h7
      have B7 := hide (below_touch (unhide B6) t7 (unhide B6).size (fun k hk => by omega))
      clear h7 t7 e7 H6 B6
      go_wp2_with fail
      refine (left_any w.heap.size x l w7 (unhide H7)).mono ?_
      rintro e w8 ⟨rfl, rfl⟩
      have B8 := hide (unhide B7).drew
      clear H7 B7
      go_wp2
      go_ret
      exact ⟨by simp, unhide B8⟩
end Go.Proofs.Ytbojiafnapcgnaa
