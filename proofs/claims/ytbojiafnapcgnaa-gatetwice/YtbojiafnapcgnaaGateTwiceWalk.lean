/-
  GateTwice returns true, whatever its list, and writes nothing that was there: by the marks' contracts. Conditions: none beyond the list's kind.
-/
import Derived.Test.YtbojiafnapcgnaaTwiceMath
import Derived.Test.YtbojiafnapcgnaaZero
import Derived.Test.YtbojiafnapcgnaaCtr
import Derived.OpenShut
namespace Go.Proofs.Ytbojiafnapcgnaa
open Go.RowKit

theorem ival {k : IntKind} {a b : Int} (h : a = b) : Value.int k a = Value.int k b := by rw [h]

set_option maxRecDepth 100000 in
set_option maxHeartbeats 1600000 in
theorem gateTwice_walk (a : Option Addr) (len cap : Nat) (g : Nat → Int) (w : World) (hg : RowOf .u8 w a len g) (hlen : len ≤ 9223372036854775807) :
    Calls Try.prog 8 #[.slice a len cap] w fun e w' => e = .returned (.bool true) ∧ Below w.heap.size w w' := by
  have hb : ∀ i, i < len → 0 ≤ g i ∧ g i ≤ 255 := fun i hi => by
    obtain ⟨_, _, _, _, _, hw⟩ := hg i hi
    exact bounds_u8 hw
  have GB := hide hb
  have G := hide hg
  clear hg hb
  have hz1 := zero_marks
  have Q0 := hide (zeroMarks_at (heap_new w (.cells zeroMarks 65)))
  have QB := hide ((Below.refl w.heap.size w).alloc (Nat.le_refl _) (.cells zeroMarks 65))
  go_enter Try.func8, Try.ntmps8
  go_wp2_with fail
  refine (awake_any _).mono ?_
  rintro e w2 ⟨rfl, b2⟩
  have M2 := hide ((unhide Q0).keep (Touch.of_below (S := fun _ => False) b2) (fun h => h))
  have B2 := hide ((unhide QB).trans (b2.mono (unhide QB).size))
  clear b2 Q0 QB hz1
  go_wp2_with fail
  go_loopw [4, 17] (fun n i wr => ∃ k : Nat, k ≤ len ∧ i = .int .i64 k ∧ n = .int .i64 (cnt (seen g k) 256) ∧ MarksAt wr w.heap.size 2 65 (some 0) (seen g k) ∧ Below w.heap.size w wr) (fun _ i _ => len - (intOf i).toNat)
  case atStart => exact ⟨0, Nat.zero_le _, rfl, by rw [cnt_none (seen g 0) 256 (fun j _ => rfl)]; rfl, unhide M2, unhide B2⟩
  case round =>
    obtain ⟨k, hk, rfl, rfl, hm, hb⟩ := hrel
    have HM := hide hm
    have HB := hide hb
    have hc256 := cnt_le (seen g k) 256
    clear hm hb M2 B2
    by_cases hlt : k < len
    · obtain ⟨b, off, rfl, hbz, hc0, _⟩ := (unhide G).later hlt (unhide HB)
      obtain ⟨x0, x1⟩ := (unhide GB) k hlt
      have hxs := cnt_upd (seen g k) (g k).toNat true 256 (by omega)
      have EF := hide (seen_frst g k (fun i hi => ((unhide GB) i (by omega)).1) (g k) x0)
      have ES := hide (show cnt (seen g (k + 1)) 256 + (if seen g k (g k).toNat then 1 else 0) = cnt (seen g k) 256 + 1 by simpa [seen] using hxs)
      clear hxs
      generalize hx : g k = x at *
      have HX := hide hx
      clear hx
      go_wp2_with fail
      go_loop [7, 8] (fun q j => ∃ i : Nat, i ≤ k ∧ j = .int .i64 i ∧ q = .bool (frst g x i)) (fun _ j => k - (intOf j).toNat)
      case atStart => exact ⟨0, Nat.zero_le _, rfl, rfl⟩
      case round =>
        obtain ⟨i, hi, rfl, rfl⟩ := hrel
        by_cases hik : i < k
        · obtain ⟨b', off', ea, _, hci, _⟩ := (unhide G).later (i := i) (by omega) (unhide HB)
          simp at ea
          obtain ⟨rfl, rfl⟩ := ea
          have hil : i < len := by omega
          have EN := hide (show frst g x (i + 1) = (frst g x i && (g i != x)) from rfl)
          generalize frst g x i = fb at *
          generalize g i = y at *
          clear hc0
          cases fb
          all_goals
            go_wp2
            go_round
            case rel => exact ⟨i + 1, by omega, by go_num, by rw [unhide EN]; simp⟩
            case measure => simp [intOf]; omega
        · obtain rfl : i = k := by omega
          clear hc0 hik
          have hst := set_any w.heap.size x (seen g i) wr (unhide HM)
          rw [set_in _ _ x0 x1, turns_in _ _ x0 x1, unhide EF] at hst
          have ESx : Hid (seen g (i + 1) = upd (seen g i) x.toNat true) := by show seen g (i + 1) = _; rw [← unhide HX]; rfl
          rw [← unhide ESx] at hst
          have HST := hide hst
          clear hst
          have hq := unhide ES
          rw [unhide EF] at hq
          have HQ := hide hq
          clear hq ES EF
          generalize frst g x i = fb at *
          generalize hc1 : cnt (seen g (i + 1)) 256 = c1 at *
          generalize cnt (seen g i) 256 = c at *
          have HC1 := hide hc1
          clear hc1
          cases fb
          all_goals
            go_wp2_with fail
            refine (unhide HST).mono ?_
            rintro e w6 ⟨rfl, m6, t6⟩
            have HM6 := hide m6
            have HB6 := hide (below_touch (unhide HB) t6 (unhide HB).size (fun k hk => by omega))
            clear m6 t6 HST
            go_wp2
            go_roundw
            case rel => exact ⟨i + 1, by omega, by go_num, ival (by rw [unhide HC1]; have := unhide HQ; simp at this; omega), unhide HM6, unhide HB6⟩
            case measure => simp [intOf]; omega
    · obtain rfl : k = len := by omega
      go_wp2_with fail
      refine (count_any w.heap.size _ _ (unhide HM)).mono ?_
      rintro e w3 ⟨rfl, m3, t3⟩
      have HM3 := hide m3
      have HB3 := hide (below_touch (unhide HB) t3 (unhide HB).size (fun k hk => by omega))
      clear m3 t3 HM HB
      go_wp2_with fail
      go_loopw [4, 52] (fun n i wx => ∃ j : Nat, j ≤ k ∧ i = .int .i64 j ∧ n = .int .i64 (cnt (cleared g (seen g k) j) 256) ∧ MarksAt wx w.heap.size 2 65 (some 0) (cleared g (seen g k) j) ∧ Below w.heap.size w wx) (fun _ i _ => k - (intOf i).toNat)
      case atStart => exact ⟨0, Nat.zero_le _, rfl, rfl, unhide HM3, unhide HB3⟩
      case round =>
        obtain ⟨j, hj, rfl, rfl, hm, hb⟩ := hrel
        have HMx := hide hm
        have HBx := hide hb
        clear hm hb HM3 HB3
        by_cases hjk : j < k
        · obtain ⟨b, off, rfl, hbz, hc0, _⟩ := (unhide G).later hjk (unhide HBx)
          obtain ⟨x0, x1⟩ := (unhide GB) j hjk
          have hle := cnt_le (cleared g (seen g k) j) 256
          have hxs := cnt_upd (cleared g (seen g k) j) (g j).toNat false 256 (by omega)
          have hcl := clear_any w.heap.size (g j) (cleared g (seen g k) j) _ (unhide HMx)
          rw [set_in _ _ x0 x1, turns_in _ _ x0 x1] at hcl
          have e1 : upd (cleared g (seen g k) j) (g j).toNat false = cleared g (seen g k) (j + 1) := rfl
          rw [e1] at hcl hxs
          have HCL := hide hcl
          clear hcl e1
          generalize cleared g (seen g k) j (g j).toNat = fb at *
          generalize hc1 : cnt (cleared g (seen g k) (j + 1)) 256 = c1 at *
          generalize cnt (cleared g (seen g k) j) 256 = c at *
          generalize g j = x at *
          have HC1 := hide hc1
          have HXS := hide hxs
          clear hc1 hxs
          cases fb
          all_goals
            go_wp2_with fail
            refine (unhide HCL).mono ?_
            rintro e w6 ⟨rfl, m6, t6⟩
            have HM6 := hide m6
            have HB6 := hide (below_touch (unhide HBx) t6 (unhide HBx).size (fun k hk => by omega))
            clear m6 t6 HCL
            go_wp2
            go_roundw
            case rel => exact ⟨j + 1, by omega, by go_num, ival (by rw [unhide HC1]; have := unhide HXS; simp at this; omega), unhide HM6, unhide HB6⟩
            case measure => simp [intOf]; omega
        · obtain rfl : j = k := by omega
          have hce := cnt_end g j
          rw [hce]
          have hct := count_any w.heap.size _ _ (unhide HMx)
          rw [hce] at hct
          have HCT := hide hct
          clear hct hce
          go_wp2_with fail
          refine (unhide HCT).mono ?_
          rintro e w6 ⟨rfl, m6, t6⟩
          have HB6 := hide (below_touch (unhide HBx) t6 (unhide HBx).size (fun k hk => by omega))
          clear m6 t6 HCT
          go_wp2
          go_ret
          exact ⟨rfl, unhide HB6⟩
end Go.Proofs.Ytbojiafnapcgnaa
