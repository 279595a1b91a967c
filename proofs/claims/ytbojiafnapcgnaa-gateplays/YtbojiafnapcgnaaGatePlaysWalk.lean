/-
  GatePlays returns true, whatever its bounds and its script, and writes nothing that was there: by both counters' contracts. Conditions: none beyond the arguments' kinds.
-/
import Derived.Test.YtbojiafnapcgnaaRefCtr
import Derived.OpenShut
namespace Go.Proofs.Ytbojiafnapcgnaa
open Go.RowKit

set_option maxRecDepth 100000 in
set_option maxHeartbeats 1600000 in
theorem gatePlays_walk (f l : Int) (a : Option Addr) (len cap : Nat) (K M : Nat → Int) (w : World) (hf : 0 ≤ f) (hl : 0 ≤ l) (hlm : l ≤ 18446744073709551615) (hM : ∀ i, i < len → 0 ≤ M i)
    (hg : PairsOf w a len (fun i => .int .i64 (K i)) (fun i => .int .u64 (M i))) (hlen : len ≤ 9223372036854775807) :
    Calls Try.prog 3 #[.int .u64 f, .int .u64 l, .slice a len cap] w fun e w' => e = .returned (.bool true) ∧ Below w.heap.size w w' := by
  have G := hide hg
  have GM := hide hM
  clear hg hM
  go_enter Try.func3, Try.ntmps3
  go_wp2_with fail
  refine (new_any f l w hf hl hlm).mono ?_
  rintro e w1 ⟨rfl, h1, b1⟩
  have H1 := hide h1
  have B1 := hide b1
  clear h1 b1
  go_wp2_with fail
  refine (refnew_any f l w1 hf hl hlm).mono ?_
  rintro e w2 ⟨rfl, r2, b2⟩
  have H2 := hide ((unhide H1).keep (Touch.of_below (S := fun _ => False) b2) (fun h => h))
  have R2 := hide r2
  have B2 := hide ((unhide B1).trans (b2.mono (unhide B1).size))
  have hne : ∃ d, w1.heap.size = d ∧ w.heap.size < d := ⟨_, rfl, lt_of_heap (unhide H1).at_⟩
  obtain ⟨d, ed, hd⟩ := hne
  rw [ed] at R2
  rw [ed]
  clear r2 b2 H1 B1 ed
  go_wp2_with fail
  refine (awake_any w2).mono ?_
  rintro e w3 ⟨rfl, b3⟩
  have H3 := hide ((unhide H2).keep (Touch.of_below (S := fun _ => False) b3) (fun h => h))
  have R3 := hide ((unhide R2).keep (Touch.of_below (S := fun _ => False) b3) (fun h => h))
  have B3 := hide ((unhide B2).trans (b3.mono (unhide B2).size))
  clear b3 H2 R2 B2
  go_wp2_with fail
  go_loopw [35] (fun i wr => ∃ (k : Nat) (x : Int), k ≤ len ∧ i = .int .i64 k ∧ 0 ≤ x ∧ x ≤ l ∧ CtrAt wr w.heap.size x l ∧ RefAt wr d x l ∧ Below w.heap.size w wr) (fun i _ => len - (intOf i).toNat)
  case atStart => exact ⟨0, min f l, Nat.zero_le _, rfl, by omega, by omega, unhide H3, unhide R3, unhide B3⟩
  case round =>
    obtain ⟨k, x, hk, rfl, hx0, hxl, hc, hr, hb⟩ := hrel
    have HC := hide hc
    have HR := hide hr
    have HB := hide hb
    clear hc hb hr H3 R3 B3
    by_cases hlt : k < len
    · obtain ⟨b, off, rfl, hbz, hc0, hc1⟩ := (unhide G).later hlt (unhide HB)
      have hs0 := (unhide GM) k hlt
      generalize M k = s at *
      generalize K k = q at *
      have hbw : b < wr.heap.size := by have := (unhide HB).size; omega
      obtain ⟨hwr, HA0⟩ : w.heap.size < wr.heap.size ∧ True := ⟨lt_of_heap (unhide HC).at_, trivial⟩
      have CA := (unhide HC).keep ((Touch.refl (fun _ => False) wr).alloc (.cells #[.int .i64 q, .int .u64 s] 30)) (fun h => h)
      have RA := (unhide HR).keep ((Touch.refl (fun _ => False) wr).alloc (.cells #[.int .i64 q, .int .u64 s] 30)) (fun h => h)
      have BA := (unhide HB).alloc (unhide HB).size (.cells #[.int .i64 q, .int .u64 s] 30)
      have hne' : ¬ d = w.heap.size := by omega
      have hne2 : ¬ w.heap.size = d := by omega
      replace CA := hide CA
      replace RA := hide RA
      replace BA := hide BA
      clear HC HR HB HA0
      by_cases hq0 : q = 0
      · have q0 : (q == 0) = true := by simp [hq0]
        clear hq0
        go_wp2_with fail
        refine (block_any w.heap.size x l s _ (unhide CA) hs0).mono ?_
        rintro e w5 ⟨rfl, h5, t5⟩
        have H5 := hide h5
        have R5 := hide ((unhide RA).keep t5 hne')
        have B5 := hide (below_touch (unhide BA) t5 (unhide BA).size (fun k hk => by omega))
        have hN : w5.cell? ⟨wr.heap.size, 1, none⟩ = some (.int .u64 s) := by rw [cell_of (t5.keep (heap_new _ _) (by omega))]; rfl
        clear h5 t5
        go_wp2_with fail
        refine (refblock_any d x l s w5 (unhide R5)).mono ?_
        rintro e w6 ⟨rfl, r6, t6⟩
        have H6 := hide ((unhide H5).keep t6 hne2)
        have R6 := hide r6
        have B6 := hide (below_touch (unhide B5) t6 (unhide B5).size (fun k hk => by omega))
        clear r6 t6 H5 R5 B5 hN
        go_wp2_with fail
        refine (left_any w.heap.size _ l _ (unhide H6)).mono ?_
        rintro e w7 ⟨rfl, rfl⟩
        have g0 := (unhide R6).drew.c0
        have g1 := (unhide R6).drew.c1
        have H7 := hide (unhide H6).drew
        have R7 := hide (unhide R6).drew
        have B7 := hide (unhide B6).drew
        have y0 := (unhide R6).hx
        have yl := (unhide R6).hl
        clear H6 R6 B6
        generalize (blk x l s).1 = y at *
        go_wp2_with fail
        go_region
        all_goals
          go_wp2
          go_roundw
          case rel => exact ⟨k + 1, y, by omega, by go_num, y0, yl, (unhide H7).drew, (unhide R7).drew, (unhide B7).drew⟩
          case measure => simp [intOf]; omega
      by_cases hq1 : q = 1
      · have q0 : (q == 0) = false := by simp [hq0]
        have q1 : (q == 1) = true := by simp [hq1]
        clear hq0 hq1
        go_wp2_with fail
        refine (next_any w.heap.size x l _ (unhide CA)).mono ?_
        rintro e w5 ⟨rfl, h5, t5⟩
        have H5 := hide h5
        have R5 := hide ((unhide RA).keep t5 hne')
        have B5 := hide (below_touch (unhide BA) t5 (unhide BA).size (fun k hk => by omega))
        have hN : w5.cell? ⟨wr.heap.size, 1, none⟩ = some (.int .u64 s) := by rw [cell_of (t5.keep (heap_new _ _) (by omega))]; rfl
        clear h5 t5
        go_wp2_with fail
        refine (refblock_any d x l 1 w5 (unhide R5)).mono ?_
        rintro e w6 ⟨rfl, r6, t6⟩
        have H6 := hide ((unhide H5).keep t6 hne2)
        have R6 := hide r6
        have B6 := hide (below_touch (unhide B5) t6 (unhide B5).size (fun k hk => by omega))
        clear r6 t6 H5 R5 B5 hN
        go_wp2_with fail
        refine (left_any w.heap.size _ l _ (unhide H6)).mono ?_
        rintro e w7 ⟨rfl, rfl⟩
        have g0 := (unhide R6).drew.c0
        have g1 := (unhide R6).drew.c1
        have H7 := hide (unhide H6).drew
        have R7 := hide (unhide R6).drew
        have B7 := hide (unhide B6).drew
        have y0 := (unhide R6).hx
        have yl := (unhide R6).hl
        clear H6 R6 B6
        generalize (blk x l 1).1 = y at *
        go_wp2_with fail
        go_region
        all_goals
          go_wp2
          go_roundw
          case rel => exact ⟨k + 1, y, by omega, by go_num, y0, yl, (unhide H7).drew, (unhide R7).drew, (unhide B7).drew⟩
          case measure => simp [intOf]; omega
      · have q0 : (q == 0) = false := by simp [hq0]
        have q1 : (q == 1) = false := by simp [hq1]
        clear hq0 hq1
        go_wp2_with fail
        refine (raise_any w.heap.size x l s _ (unhide CA)).mono ?_
        rintro e w5 ⟨rfl, h5, t5⟩
        have H5 := hide h5
        have R5 := hide ((unhide RA).keep t5 hne')
        have B5 := hide (below_touch (unhide BA) t5 (unhide BA).size (fun k hk => by omega))
        have hN : w5.cell? ⟨wr.heap.size, 1, none⟩ = some (.int .u64 s) := by rw [cell_of (t5.keep (heap_new _ _) (by omega))]; rfl
        clear h5 t5
        go_wp2_with fail
        refine (refraise_any d x l s w5 (unhide R5)).mono ?_
        rintro e w6 ⟨rfl, r6, t6⟩
        have H6 := hide ((unhide H5).keep t6 hne2)
        have R6 := hide r6
        have B6 := hide (below_touch (unhide B5) t6 (unhide B5).size (fun k hk => by omega))
        clear r6 t6 H5 R5 B5 hN
        go_wp2_with fail
        refine (left_any w.heap.size _ l _ (unhide H6)).mono ?_
        rintro e w7 ⟨rfl, rfl⟩
        have g0 := (unhide R6).drew.c0
        have g1 := (unhide R6).drew.c1
        have H7 := hide (unhide H6).drew
        have R7 := hide (unhide R6).drew
        have B7 := hide (unhide B6).drew
        have y0 := (unhide R6).hx
        have yl := (unhide R6).hl
        clear H6 R6 B6
        generalize max x (min s l) = y at *
        go_wp2_with fail
        go_region
        all_goals
          go_wp2
          go_roundw
          case rel => exact ⟨k + 1, y, by omega, by go_num, y0, yl, (unhide H7).drew, (unhide R7).drew, (unhide B7).drew⟩
          case measure => simp [intOf]; omega
    · go_wp2
      go_ret
      exact ⟨rfl, unhide HB⟩
end Go.Proofs.Ytbojiafnapcgnaa
