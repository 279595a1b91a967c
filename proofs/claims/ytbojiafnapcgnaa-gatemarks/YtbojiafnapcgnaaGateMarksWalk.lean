/-
  GateMarks returns true, whatever its script, and writes nothing that was there: by both marks' contracts. Conditions: none beyond the script's kind.
-/
import Derived.Test.YtbojiafnapcgnaaRefMarks
import Derived.Test.YtbojiafnapcgnaaCtr
import Derived.Test.YtbojiafnapcgnaaZero
import Derived.Deep.RegionHeld3
namespace Go.Proofs.Ytbojiafnapcgnaa
open Go.RowKit

/-- A zero Marks of the statements' own. -/
def zeroRef : Array Value := Array.replicate 256 (.bool false)
theorem zero_ref (w : World) : Sem.run Try.prog (zeroValue 68) w = .ok (.agg zeroRef) w := by kernel_rfl
theorem zeroRef_at {w : World} {b : Nat} (h : w.heap[b]? = some (.cells zeroRef 68)) : MarksAt w b 0 68 none (fun _ => false) := by
  refine ⟨zeroRef, h, by simp [zeroRef], ?_, fun i hi => ?_⟩
  · intro x hx
    simp at hx
  · unfold zeroRef
    simp [hi]

set_option maxRecDepth 100000 in
set_option maxHeartbeats 1600000 in
theorem gateMarks_walk (a : Option Addr) (len cap : Nat) (K : Nat → Int) (M : Nat → Bool) (w : World)
    (hg : PairsOf w a len (fun i => .int .i64 (K i)) (fun i => .bool (M i))) (hlen : len ≤ 9223372036854775807) :
    Calls Try.prog 7 #[.slice a len cap] w fun e w' => e = .returned (.bool true) ∧ Below w.heap.size w w' := by
  have G := hide hg
  clear hg
  have hz1 := zero_marks
  have hz2 := zero_ref
  have q0 : ((w.alloc (.cells zeroMarks 65)).alloc (.cells zeroRef 68)).heap[w.heap.size]? = some (.cells zeroMarks 65) := heap_old _ (heap_new _ _)
  have q1 : ((w.alloc (.cells zeroMarks 65)).alloc (.cells zeroRef 68)).heap[w.heap.size + 1]? = some (.cells zeroRef 68) := by
    have := heap_new (w.alloc (.cells zeroMarks 65)) (.cells zeroRef 68)
    simpa using this
  have qb : Below w.heap.size w ((w.alloc (.cells zeroMarks 65)).alloc (.cells zeroRef 68)) := ((Below.refl _ _).alloc (Nat.le_refl _) _).alloc (by simp) _
  have Q0 := hide (zeroMarks_at q0)
  have Q1 := hide (zeroRef_at q1)
  have QB := hide qb
  clear q0 q1 qb
  go_enter Try.func7, Try.ntmps7
  go_wp2_with fail
  refine (awake_any _).mono ?_
  rintro e w2 ⟨rfl, b2⟩
  have M2 := hide ((unhide Q0).keep (Touch.of_below (S := fun _ => False) b2) (fun h => h))
  have R2 := hide ((unhide Q1).keep (Touch.of_below (S := fun _ => False) b2) (fun h => h))
  have B2 := hide ((unhide QB).trans (b2.mono (unhide QB).size))
  clear b2 Q0 Q1 QB hz1 hz2
  obtain ⟨d, ed, hd⟩ : ∃ d, w.heap.size + 1 = d ∧ w.heap.size < d := ⟨_, rfl, by omega⟩
  rw [ed] at R2
  rw [ed]
  clear ed
  go_wp2_with fail
  go_loopw [17] (fun i wr => ∃ (k : Nat) (f : Nat → Bool), k ≤ len ∧ i = .int .i64 k ∧ MarksAt wr w.heap.size 2 65 (some 0) f ∧ MarksAt wr d 0 68 none f ∧ Below w.heap.size w wr) (fun i _ => len - (intOf i).toNat)
  case atStart => exact ⟨0, _, Nat.zero_le _, rfl, unhide M2, unhide R2, unhide B2⟩
  case round =>
    obtain ⟨k, f, hk, rfl, hm, hr, hb⟩ := hrel
    have HM := hide hm
    have HR := hide hr
    have HB := hide hb
    clear hm hr hb M2 R2 B2
    by_cases hlt : k < len
    · obtain ⟨b, off, rfl, hbz, hc0, hc1⟩ := (unhide G).later hlt (unhide HB)
      generalize K k = q at *
      have hwr : w.heap.size < wr.heap.size := (unhide HM).lt
      have hdr : d < wr.heap.size := (unhide HR).lt
      have hbw : b < wr.heap.size := by omega
      cases hx : M k
      · rw [hx] at hc1
        clear hx
        have MA := hide ((unhide HM).keep ((Touch.refl (fun _ => False) wr).alloc (.cells #[.int .i64 q, .bool false] 70)) (fun h => h))
        have RA := hide ((unhide HR).keep ((Touch.refl (fun _ => False) wr).alloc (.cells #[.int .i64 q, .bool false] 70)) (fun h => h))
        have BA := hide ((unhide HB).alloc (unhide HB).size (.cells #[.int .i64 q, .bool false] 70))
        have HO := hide (heap_new wr (.cells #[.int .i64 q, .bool false] 70))
        clear HM HR HB
        go_wp2_with fail
        refine (clear_any w.heap.size q f _ (unhide MA)).mono ?_
        rintro e w4 ⟨rfl, m4, t4⟩
        have HO4 := hide (t4.keep (unhide HO) (by omega))
        have HR4 := hide ((unhide RA).keep t4 (by omega))
        have HB4 := hide (below_touch (unhide BA) t4 (unhide BA).size (fun k hk => by omega))
        have HM4 := hide m4
        have o0 : w4.cell? ⟨wr.heap.size, 0, none⟩ = some (.int .i64 q) := by rw [cell_of (unhide HO4)]; rfl
        have o1 : w4.cell? ⟨wr.heap.size, 1, none⟩ = some (.bool false) := by rw [cell_of (unhide HO4)]; rfl
        clear m4 t4
        go_wp2_with fail
        go_region_held3 (fun w' => w'.cell? ⟨wr.heap.size, 0, none⟩ = some (.int .i64 q) ∧ w'.cell? ⟨wr.heap.size, 1, none⟩ = some (.bool false)) (go_keep) (first
          | (go_at_call 22; refine (refturn_any d q false f _ (unhide HR4).drew).mono ?_; rintro e w5 ⟨rfl, r5, t5⟩; have HR5 := hide r5; have HM5 := hide ((unhide HM4).drew.keep t5 (by omega)); have HO5 := hide (t5.keep (unhide HO4) (by omega)); have HB5 := hide (below_touch (unhide HB4).drew t5 (unhide HB4).size (fun k hk => by omega)); have o05 : w5.cell? ⟨wr.heap.size, 0, none⟩ = some (.int .i64 q) := (by rw [cell_of (unhide HO5)]; rfl); have o15 : w5.cell? ⟨wr.heap.size, 1, none⟩ = some (.bool false) := (by rw [cell_of (unhide HO5)]; rfl); clear r5 t5)
          | (go_at_call 23; refine (has_any w.heap.size q _ _ (unhide HM5)).mono ?_; rintro e w6 ⟨rfl, m6, t6⟩; have HM6 := hide m6; have HR6 := hide ((unhide HR5).keep t6 (by omega)); have HO6 := hide (t6.keep (unhide HO5) (by omega)); have HB6 := hide (below_touch (unhide HB5) t6 (unhide HB5).size (fun k hk => by omega)); have o06 : w6.cell? ⟨wr.heap.size, 0, none⟩ = some (.int .i64 q) := (by rw [cell_of (unhide HO6)]; rfl); have o16 : w6.cell? ⟨wr.heap.size, 1, none⟩ = some (.bool false) := (by rw [cell_of (unhide HO6)]; rfl); clear m6 t6)
          | (go_at_call 24; refine (refhas_any d q _ _ (unhide HR6)).mono ?_; rintro e w7 ⟨rfl, rfl⟩)
          | (go_at_call 25; refine (count_any w.heap.size _ _ (unhide HM6)).mono ?_; rintro e w8 ⟨rfl, m8, t8⟩; have HM8 := hide m8; have HR8 := hide ((unhide HR6).keep t8 (by omega)); have HO8 := hide (t8.keep (unhide HO6) (by omega)); have HB8 := hide (below_touch (unhide HB6) t8 (unhide HB6).size (fun k hk => by omega)); have o08 : w8.cell? ⟨wr.heap.size, 0, none⟩ = some (.int .i64 q) := (by rw [cell_of (unhide HO8)]; rfl); have o18 : w8.cell? ⟨wr.heap.size, 1, none⟩ = some (.bool false) := (by rw [cell_of (unhide HO8)]; rfl); clear m8 t8)
          | (go_at_call 26; refine (refcount_any d _ _ (unhide HR8)).mono ?_; rintro e w9 ⟨rfl, rfl⟩))
        all_goals
          go_wp2
          go_roundw
          case rel => exact ⟨k + 1, _, by omega, by go_num, unhide HM8, unhide HR8, unhide HB8⟩
          case measure => simp [intOf]; omega
      · rw [hx] at hc1
        clear hx
        have MA := hide ((unhide HM).keep ((Touch.refl (fun _ => False) wr).alloc (.cells #[.int .i64 q, .bool true] 70)) (fun h => h))
        have RA := hide ((unhide HR).keep ((Touch.refl (fun _ => False) wr).alloc (.cells #[.int .i64 q, .bool true] 70)) (fun h => h))
        have BA := hide ((unhide HB).alloc (unhide HB).size (.cells #[.int .i64 q, .bool true] 70))
        have HO := hide (heap_new wr (.cells #[.int .i64 q, .bool true] 70))
        clear HM HR HB
        go_wp2_with fail
        refine (set_any w.heap.size q f _ (unhide MA)).mono ?_
        rintro e w4 ⟨rfl, m4, t4⟩
        have HO4 := hide (t4.keep (unhide HO) (by omega))
        have HR4 := hide ((unhide RA).keep t4 (by omega))
        have HB4 := hide (below_touch (unhide BA) t4 (unhide BA).size (fun k hk => by omega))
        have HM4 := hide m4
        have o0 : w4.cell? ⟨wr.heap.size, 0, none⟩ = some (.int .i64 q) := by rw [cell_of (unhide HO4)]; rfl
        have o1 : w4.cell? ⟨wr.heap.size, 1, none⟩ = some (.bool true) := by rw [cell_of (unhide HO4)]; rfl
        clear m4 t4
        go_wp2_with fail
        go_region_held3 (fun w' => w'.cell? ⟨wr.heap.size, 0, none⟩ = some (.int .i64 q) ∧ w'.cell? ⟨wr.heap.size, 1, none⟩ = some (.bool true)) (go_keep) (first
          | (go_at_call 22; refine (refturn_any d q true f _ (unhide HR4).drew).mono ?_; rintro e w5 ⟨rfl, r5, t5⟩; have HR5 := hide r5; have HM5 := hide ((unhide HM4).drew.keep t5 (by omega)); have HO5 := hide (t5.keep (unhide HO4) (by omega)); have HB5 := hide (below_touch (unhide HB4).drew t5 (unhide HB4).size (fun k hk => by omega)); have o05 : w5.cell? ⟨wr.heap.size, 0, none⟩ = some (.int .i64 q) := (by rw [cell_of (unhide HO5)]; rfl); have o15 : w5.cell? ⟨wr.heap.size, 1, none⟩ = some (.bool true) := (by rw [cell_of (unhide HO5)]; rfl); clear r5 t5)
          | (go_at_call 23; refine (has_any w.heap.size q _ _ (unhide HM5)).mono ?_; rintro e w6 ⟨rfl, m6, t6⟩; have HM6 := hide m6; have HR6 := hide ((unhide HR5).keep t6 (by omega)); have HO6 := hide (t6.keep (unhide HO5) (by omega)); have HB6 := hide (below_touch (unhide HB5) t6 (unhide HB5).size (fun k hk => by omega)); have o06 : w6.cell? ⟨wr.heap.size, 0, none⟩ = some (.int .i64 q) := (by rw [cell_of (unhide HO6)]; rfl); have o16 : w6.cell? ⟨wr.heap.size, 1, none⟩ = some (.bool true) := (by rw [cell_of (unhide HO6)]; rfl); clear m6 t6)
          | (go_at_call 24; refine (refhas_any d q _ _ (unhide HR6)).mono ?_; rintro e w7 ⟨rfl, rfl⟩)
          | (go_at_call 25; refine (count_any w.heap.size _ _ (unhide HM6)).mono ?_; rintro e w8 ⟨rfl, m8, t8⟩; have HM8 := hide m8; have HR8 := hide ((unhide HR6).keep t8 (by omega)); have HO8 := hide (t8.keep (unhide HO6) (by omega)); have HB8 := hide (below_touch (unhide HB6) t8 (unhide HB6).size (fun k hk => by omega)); have o08 : w8.cell? ⟨wr.heap.size, 0, none⟩ = some (.int .i64 q) := (by rw [cell_of (unhide HO8)]; rfl); have o18 : w8.cell? ⟨wr.heap.size, 1, none⟩ = some (.bool true) := (by rw [cell_of (unhide HO8)]; rfl); clear m8 t8)
          | (go_at_call 26; refine (refcount_any d _ _ (unhide HR8)).mono ?_; rintro e w9 ⟨rfl, rfl⟩))
        all_goals
          go_wp2
          go_roundw
          case rel => exact ⟨k + 1, _, by omega, by go_num, unhide HM8, unhide HR8, unhide HB8⟩
          case measure => simp [intOf]; omega
    · go_wp2_with fail
      go_loopw [8] (fun i wx => ∃ k : Nat, k ≤ 262 ∧ i = .int .i64 ((k : Int) - 2) ∧ MarksAt wx w.heap.size 2 65 (some 0) f ∧ MarksAt wx d 0 68 none f ∧ Below w.heap.size w wx) (fun i _ => (260 - intOf i).toNat)
      case atStart => exact ⟨0, Nat.zero_le _, rfl, unhide HM, unhide HR, unhide HB⟩
      case round =>
        rename_i wx _
        obtain ⟨j, hj, rfl, hm, hr, hb⟩ := hrel
        have HMx := hide hm
        have HRx := hide hr
        have HBx := hide hb
        clear hm hr hb HM HR HB
        by_cases hl2 : (j : Int) - 2 < 260
        · go_wp2_with fail
          refine (has_any w.heap.size _ f _ (unhide HMx)).mono ?_
          rintro e w6 ⟨rfl, m6, t6⟩
          have HM6 := hide m6
          have HR6 := hide ((unhide HRx).keep t6 (by omega))
          have HB6 := hide (below_touch (unhide HBx) t6 (unhide HBx).size (fun k hk => by omega))
          clear m6 t6
          go_wp2_with fail
          refine (refhas_any d _ f _ (unhide HR6)).mono ?_
          rintro e w7 ⟨rfl, rfl⟩
          go_wp2
          go_roundw
          case rel => exact ⟨j + 1, by omega, by go_num, unhide HM6, unhide HR6, unhide HB6⟩
          case measure => simp [intOf]; omega
        · go_wp2
          go_ret
          exact ⟨rfl, unhide HBx⟩
end Go.Proofs.Ytbojiafnapcgnaa
