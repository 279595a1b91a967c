/-
  CrcSums returns true, whatever its sum and its bytes, and writes nothing that was there: by the tables' and the helpers' contracts. Conditions: the bytes are at most 2^47 - 4096 (the row's own reach).
-/
import Derived.Test.YtbojiafnapcgnabCrcOwn
namespace Go.Proofs.Ytbojiafnapcgnab
open Go.RowKit

set_option maxRecDepth 100000 in
set_option maxHeartbeats 1600000 in
theorem crcSums_walk (s : Nat) (a : Option Addr) (len cap : Nat) (g : Nat → Nat) (w : World) (hs : s < 4294967296) (hg : BytesAt w a len g) (hlen : len ≤ 140737488351232) :
    Calls Try.prog 4 #[.int .u32 s, .slice a len cap] w fun e w' => e = .returned (.bool true) ∧ Below w.heap.size w w' := by
  have G := hide hg
  clear hg
  have hz := zero_table
  go_enter Try.func4, Try.ntmps4
  go_wp2_with fail
  refine (tnew_any w).mono ?_
  rintro e w1 ⟨rfl, h1, b1⟩
  have hlt1 : w.heap.size < w1.heap.size := h1.lt
  have R1 := hide (h1.keep ((Touch.refl (fun _ => False) w1).alloc (.cells zeroTable 54)) (fun h => h))
  have Z1 := hide (zeroTable_at (heap_new w1 (.cells zeroTable 54)))
  have B1 := hide (b1.alloc b1.size (.cells zeroTable 54))
  clear h1 b1
  generalize hzb : w1.heap.size = zb at *
  go_wp2_with fail
  refine (tawake_any _).mono ?_
  rintro e w2 ⟨rfl, b2⟩
  have R2 := hide ((unhide R1).keep (Touch.of_below (S := fun _ => False) b2) (fun h => h))
  have Z2 := hide ((unhide Z1).keep (Touch.of_below (S := fun _ => False) b2) (fun h => h))
  have B2 := hide ((unhide B1).trans (b2.mono (unhide B1).size))
  clear b2 R1 Z1 B1 hzb hz
  go_wp2_with fail
  refine (own_any a len cap g w2 (fun i hi => by obtain ⟨b, off, h1, h2, h3, h4⟩ := (unhide G) i hi; exact ⟨b, off, h1, Nat.lt_of_lt_of_le h2 (unhide B2).size, ((unhide B2).cell (p := ⟨b, off + i, none⟩) h2).trans h3, h4⟩) hlen).mono ?_
  rintro e w3 ⟨rfl, o3, b3⟩
  have R3 := hide ((unhide R2).keep (Touch.of_below (S := fun _ => False) b3) (fun h => h))
  have Z3 := hide ((unhide Z2).keep (Touch.of_below (S := fun _ => False) b3) (fun h => h))
  have hlt2 : zb < w2.heap.size := (unhide Z2).lt
  have B3 := hide ((unhide B2).trans (b3.mono (unhide B2).size))
  have O3 := hide o3
  clear b3 o3 R2 Z2 B2
  generalize w2.heap.size = cb at *
  have G3 : Hid (BytesAt w3 a len g) := fun i hi => by obtain ⟨b, off, h1, h2, h3, h4⟩ := (unhide G) i hi; exact ⟨b, off, h1, Nat.lt_of_lt_of_le h2 (unhide B3).size, ((unhide B3).cell (p := ⟨b, off + i, none⟩) h2).trans h3, h4⟩
  go_wp2_with fail
  refine (refmore_any 0 a len cap g w3 (by omega) (unhide G3) (by omega)).mono ?_
  rintro e w4 ⟨rfl, rfl⟩
  go_wp2_with fail
  refine (refmore_any s a len cap g _ hs (unhide G3) (by omega)).mono ?_
  rintro e w4 ⟨rfl, rfl⟩
  go_wp2_with fail
  go_loopw [10] (fun i wr => ∃ k : Nat, k ≤ 2 ∧ i = .int .i64 k ∧ Ready wr w.heap.size ∧ Ready wr zb ∧ OwnAt wr cb len g ∧ Below w.heap.size w wr) (fun i _ => 2 - (intOf i).toNat)
  case atStart => exact ⟨0, Nat.zero_le _, rfl, unhide R3, unhide Z3, unhide O3, unhide B3⟩
  case round =>
    obtain ⟨k, hk, rfl, hr, hzr, ho, hb⟩ := hrel
    have RR := hide hr
    have ZR := hide hzr
    have OR := hide ho
    have BR := hide hb
    clear hr hzr ho hb R3 Z3 O3 B3 G3
    by_cases hk2 : k < 2
    · go_wp2_with fail
      refine (sum_any w.heap.size (some ⟨cb, 0, none⟩) len (len + 9) g _ (unhide RR) (unhide OR).bytes (fun _ x hx => by simp at hx; subst hx; simp; omega) (by omega)).mono ?_
      rintro e x1 ⟨rfl, h1, t1⟩
      have RR1 : Hid (Ready x1 w.heap.size) := .inr h1
      have ZR1 := hide ((unhide ZR).keep t1 (by omega))
      have OR1 := hide ((unhide OR).keep t1 (by omega))
      have BR1 := hide (below_touch (unhide BR) t1 (unhide BR).size (fun k hk => by omega))
      clear h1 t1 RR ZR OR BR
      go_wp2_with fail
      refine (more_any w.heap.size s (some ⟨cb, 0, none⟩) len (len + 9) g _ (unhide RR1) hs (unhide OR1).bytes (fun _ x hx => by simp at hx; subst hx; simp; omega) (by omega)).mono ?_
      rintro e x2 ⟨rfl, h1, t1⟩
      have RR2 : Hid (Ready x2 w.heap.size) := .inr h1
      have ZR2 := hide ((unhide ZR1).keep t1 (by omega))
      have OR2 := hide ((unhide OR1).keep t1 (by omega))
      have BR2 := hide (below_touch (unhide BR1) t1 (unhide BR1).size (fun k hk => by omega))
      clear h1 t1 RR1 ZR1 OR1 BR1
      go_wp2_with fail
      refine (sum_any zb (some ⟨cb, 0, none⟩) len (len + 9) g _ (unhide ZR2) (unhide OR2).bytes (fun _ x hx => by simp at hx; subst hx; simp; omega) (by omega)).mono ?_
      rintro e x3 ⟨rfl, h1, t1⟩
      have ZR3 : Hid (Ready x3 zb) := .inr h1
      have RR3 := hide ((unhide RR2).keep t1 (by omega))
      have OR3 := hide ((unhide OR2).keep t1 (by omega))
      have BR3 := hide (below_touch (unhide BR2) t1 (unhide BR2).size (fun k hk => by omega))
      clear h1 t1 RR2 ZR2 OR2 BR2
      go_wp2_with fail
      refine (more_any zb s (some ⟨cb, 0, none⟩) len (len + 9) g _ (unhide ZR3) hs (unhide OR3).bytes (fun _ x hx => by simp at hx; subst hx; simp; omega) (by omega)).mono ?_
      rintro e x4 ⟨rfl, h1, t1⟩
      have ZR4 : Hid (Ready x4 zb) := .inr h1
      have RR4 := hide ((unhide RR3).keep t1 (by omega))
      have OR4 := hide ((unhide OR3).keep t1 (by omega))
      have BR4 := hide (below_touch (unhide BR3) t1 (unhide BR3).size (fun k hk => by omega))
      clear h1 t1 RR3 ZR3 OR3 BR3
      go_wp2
      go_roundw
      case rel => exact ⟨k + 1, by omega, by go_num, unhide RR4, unhide ZR4, unhide OR4, unhide BR4⟩
      case measure => simp [intOf]; omega
    · go_wp2_with fail
      go_loopw [11] (fun i wx => ∃ k : Nat, k ≤ len ∧ i = .int .i64 k ∧ OwnAt wx cb len g ∧ Below w.heap.size w wx) (fun i _ => len - (intOf i).toNat)
      case atStart => exact ⟨0, Nat.zero_le _, rfl, unhide OR, unhide BR⟩
      case round =>
        obtain ⟨j, hj, rfl, ho, hb⟩ := hrel
        have OX := hide ho
        have BX := hide hb
        clear ho hb RR ZR OR BR
        by_cases hj2 : j < len
        · obtain ⟨c, off, rfl, hcz, hc0, _⟩ := (unhide G) j hj2
          have q1 := (unhide OX).cell hj2
          have q2 := ((unhide BX).cell (p := ⟨c, off + j, none⟩) hcz).trans hc0
          have hjl : (j : Int) < (len : Int) := by omega
          clear hc0
          go_wp2_with fail
          go_region
          all_goals
            go_wp2
            go_roundw
            case rel => exact ⟨j + 1, by omega, by go_num, (unhide OX).keep ((Touch.refl (fun _ => False) _).drew) (fun h => h), (unhide BX).drew⟩
            case measure => simp [intOf]; omega
        · go_wp2
          go_ret
          exact ⟨rfl, unhide BX⟩
end Go.Proofs.Ytbojiafnapcgnab
