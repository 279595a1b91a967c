/-
  The road of GroupWaits. Conditions: lengths as memory allows them.
-/
import Derived.Test.YtfbnkeflgddcmaaGw9
namespace Go.Proofs.Ytfbnkeflgddcmaa
open Go.RowKit Go.Maps
set_option linter.unusedVariables false

/-- What stands between the rounds. -/
def GI (w : World) (kk : Nat) (mo : Int) (wr : World) : Prop := ∃ mv1 mv2 m1, GS w.heap.size wr w.heap.size mv1 mv2 m1 [] ∧ tOf m1 = tPut kk mo tm0 ∧ Below w.heap.size w wr
set_option maxRecDepth 100000 in
set_option maxHeartbeats 16000000 in
theorem groupWaits_walk {w : World} {a : Option Addr} {cap : Nat} {ls : List Int} (commit : Bool) (part : Int) (h : RowsP (fun (x : Int) => [Value.int .u16 x]) 1 w a ls) (hx : ∀ x ∈ ls, 0 ≤ x ∧ x ≤ 65535) (hl : ls.length ≤ 140737488355328) (hp0 : 0 ≤ part) (hp1 : part ≤ 255) :
    Calls Try.prog 3 #[.slice a ls.length cap, .bool commit, .int .u8 part] w fun e w' => e = .returned (.bool true) ∧ Below w.heap.size w w' := by
  have HR := hide h
  have HXS := hide hx
  generalize hn : ls.length = n at *
  have HN := hide hn
  have HNL := hide hl
  clear h hx hn hl
  have KN := hide (gnew_any w)
  have G0 := hide (gs_new w)
  have b0 := (Below.refl w.heap.size w).alloc (Nat.le_refl _) (.cells #[.map none, .map none] 52)
  have B0 := hide b0
  clear b0
  go_enter Try.func3, Try.ntmps3
  go_wp2_with fail
  refine (unhide KN).mono ?_
  rintro e w1 ⟨rfl, rfl⟩
  have HSB : Hid (w.heap.size < (w.alloc (.cells #[.map none, .map none] 52)).heap.size) := hide (lt_of_heap (heap_new _ _))
  generalize w.alloc (.cells #[.map none, .map none] 52) = w1 at *
  have KA := hide (gawake_any w1)
  clear KN
  go_wp2_with fail
  refine (unhide KA).mono ?_
  rintro e w2 ⟨rfl, b2⟩
  obtain ⟨kk, hkk, hk4⟩ : ∃ kk : Nat, part.tmod 4 = (kk : Int) ∧ kk < 4 := ⟨(part.tmod 4).toNat, by
    have := Int.tmod_nonneg 4 hp0
    omega, by
    have := Int.tmod_lt_of_pos part (b := 4) (by decide)
    have := Int.tmod_nonneg 4 hp0
    omega⟩
  have I2 : Hid (GI w kk 0 w2) := hide ⟨_, _, _, (unhide G0).later b2, (put_zero kk).symm, (unhide B0).trans (Below.mono b2 (unhide B0).size)⟩
  have HK4 := hide hk4
  clear b2 KA G0 B0 HSB
  have hkz : (kk : Int) < 4 := by omega
  go_upto_region 5 with fail
  clear hkk hkz hp0 hp1
  go_wp2_with fail
  go_loopw [9, 30] (fun mv iv wr => ∃ (i : Nat) (mo : Int), i ≤ n ∧ iv = .int .i64 (i : Int) ∧ mv = .int .i64 mo ∧ 0 ≤ mo ∧ mo ≤ 65535 ∧ Hid (GI w kk mo wr)) (fun _ iv _ => n - (intOf iv).toNat)
  case atStart => exact ⟨0, 0, Nat.zero_le _, rfl, rfl, by decide, by decide, I2⟩
  case round =>
    obtain ⟨i, mo, hi, rfl, rfl, hm0, hm1, hG⟩ := hrel
    clear I2
    have HM0 := hide hm0
    have HM1 := hide hm1
    clear hm0 hm1
    by_cases hin : i < n
    · have hin' : (i : Int) < (n : Int) := by omega
      have HIN := hide hin
      have hil : i < ls.length := by have := unhide HN; omega
      obtain ⟨x, hxe⟩ : ∃ x, x = ls[i] := ⟨_, rfl⟩
      obtain ⟨hx0, hx1⟩ : 0 ≤ x ∧ x ≤ 65535 := by rw [hxe]; exact unhide HXS _ (List.getElem_mem hil)
      obtain ⟨mv1, mv2, m1, g1, e1, bw⟩ := unhide hG
      obtain ⟨gb, off, ea, _, hcell⟩ := ((unhide HR).keep (Touch.of_below bw)).at_ hil hxe.symm
      have z0 := hcell 0 (by omega)
      rw [Nat.add_zero, Nat.mul_one] at z0
      simp only [List.getElem?_cons_zero] at z0
      subst ea
      have G1 := hide g1
      have E1 := hide e1
      have BW := hide bw
      have HX0 := hide hx0
      have HX1 := hide hx1
      have hnz : (n : Int) ≤ 140737488355328 := by have := unhide HNL; omega
      clear hcell hxe hil g1 e1 bw hG hin
      go_upto_region 9 with fail
      go_upto_region 10 with fail
      have b3 := (Below.refl wr.heap.size wr).alloc (Nat.le_refl _) (.cells #[.int .i64 2, .int .i64 1, .int .i64 0, .slice none 0 0, .int .i64 kk, .int .i64 x] 29)
      have HXB := hide (heap_new wr (.cells #[.int .i64 2, .int .i64 1, .int .i64 0, .slice none 0 0, .int .i64 kk, .int .i64 x] 29))
      have G3 := hide ((unhide G1).later b3)
      have B3 := hide ((unhide BW).trans (Below.mono b3 (unhide BW).size))
      clear z0 b3 G1 BW
      change Code.wp _ _ _ _ (wr.alloc (.cells #[.int .i64 2, .int .i64 1, .int .i64 0, .slice none 0 0, .int .i64 kk, .int .i64 x] 29))
      generalize wr.alloc (.cells #[.int .i64 2, .int .i64 1, .int .i64 0, .slice none 0 0, .int .i64 kk, .int .i64 x] 29) = w3 at *
      generalize wr.heap.size = rb at *
      generalize (commit == decide (0 < (i : Int) % 3)) = yes at *
      have hq0 : 0 ≤ (i : Int) % 2 := by omega
      have hq1 : (i : Int) % 2 ≤ 1 := by omega
      have HP : Hid (1 + (i : Int) % 2 = 1 ∨ 1 + (i : Int) % 2 = 2) := hide (by omega)
      have x0 := cell_of (unhide HXB) 0
      have x1 := cell_of (unhide HXB) 1
      have x2 := cell_of (unhide HXB) 2
      have x3 := cell_of (unhide HXB) 3
      have x4 := cell_of (unhide HXB) 4
      have x5 := cell_of (unhide HXB) 5
      simp at x0 x1 x2 x3 x4 x5
      have KB : Hid (∀ pid : Int, Calls Try.prog 8 #[.int .u64 pid, .slice (some ⟨w3.heap.size, 0, none⟩) 1 1] (w3.alloc (.cells #[.int .i64 2, .int .i64 1, .int .i64 0, .slice none 0 0, .int .i64 kk, .int .i64 x] 29)) fun e w' => BaP (w3.alloc (.cells #[.int .i64 2, .int .i64 1, .int .i64 0, .slice none 0 0, .int .i64 kk, .int .i64 x] 29)) pid (encR (gR kk x)) e w') := hide (fun pid => batch_one (r := gR kk x) (a := none) (k := 0) (heap_new w3 _) (fun i hi => by cases hi) (by show 0 ≤ maxLen; exact Nat.zero_le _) (gR_fit (unhide HK4) (unhide HX0) (unhide HX1)) (gR_is (unhide HK4) (unhide HX0)) (gR_len (unhide HK4) (unhide HX0) (unhide HX1)))
      have b4 := (Below.refl w3.heap.size w3).alloc (Nat.le_refl _) (.cells #[.int .i64 2, .int .i64 1, .int .i64 0, .slice none 0 0, .int .i64 kk, .int .i64 x] 29)
      have G4 := hide ((unhide G3).later b4)
      have B4 := hide ((unhide B3).trans (Below.mono b4 (unhide B3).size))
      have HXB4 := hide (below_keep b4 (unhide HXB))
      clear b4 G3 B3 HXB
      go_wp2_with fail
      generalize w3.alloc (.cells #[.int .i64 2, .int .i64 1, .int .i64 0, .slice none 0 0, .int .i64 kk, .int .i64 x] 29) = w4 at *
      generalize w3.heap.size = lb at *
      generalize hpe : 1 + (i : Int) % 2 = pid at *
      have HPE := hide hpe
      clear hpe
      clear x0 x1 x2 x3 x4 x5 hq0 hq1
      refine (unhide KB pid).mono ?_
      rintro e w5 ⟨v, rfl, o5, b5⟩
      have hdp : decide (0 < pid) = true := decide_eq_true (by have := unhide HP; omega)
      have eb : (baC pid v).toArray = #[.int .i64 0, .int .i64 0, .int .u64 pid, .int .i64 0, .int .i64 0, .bool true, .bool false, .bool false, v] := by simp [baC, hdp]
      rw [eb]
      have G5 := hide ((unhide G4).later b5)
      have B5 := hide ((unhide B4).trans (Below.mono b5 (unhide B4).size))
      have O5 := hide o5
      clear hdp eb o5 b5 KB G4 B4 HXB4
      have K5 := hide (apply_txn (unhide G5) (unhide O5) (gR_fit (unhide HK4) (unhide HX0) (unhide HX1)) (gR_is (unhide HK4) (unhide HX0)) (gR_len (unhide HK4) (unhide HX0) (unhide HX1)) rfl (unhide HP) (unhide B5).size)
      go_wp2_with fail
      refine (unhide K5).mono ?_
      rintro e w6 ⟨rfl, mb, p, g6, o6, t6⟩
      have G6 := hide g6
      have O6 : Hid (OneR w.heap.size w6 (slV p) ⟨2, 1, 0, [], (kk : Int), x⟩) := hide o6
      have B6 := hide (below_touch (unhide B5) t6 (unhide B5).size (fun k hk => hk))
      clear g6 o6 t6 K5 G5 B5 O5
      have K6 := hide (off_busy (kk : Int) (unhide G6) (fun W hb => (waits_one (kk := (kk : Int)) (kk : Int) ((unhide G6).later hb) ((unhide O6).keep rfl (Touch.of_below (S := fun _ => False) hb) (fun _ _ h => h))).mono (fun e w' ⟨he, hb'⟩ => ⟨by rw [he]; simp, hb'⟩)))
      go_wp2_with fail
      refine (unhide K6).mono ?_
      rintro e w7 ⟨rfl, b7⟩
      have G7 := hide ((unhide G6).later b7)
      have O7 : Hid (OneR w.heap.size w7 (slV p) ⟨2, 1, 0, [], (kk : Int), x⟩) := hide ((unhide O6).keep rfl (Touch.of_below (S := fun _ => False) b7) (fun _ _ h => h))
      have B7 := hide ((unhide B6).trans (Below.mono b7 (unhide B6).size))
      clear b7 K6 G6 O6 B6
      have K7 := hide (off_free ((kk : Int) + 1) (by have := unhide HK4; omega) (unhide G7) (fun W hb => (waits_one (kk := (kk : Int)) ((kk : Int) + 1) ((unhide G7).later hb) ((unhide O7).keep rfl (Touch.of_below (S := fun _ => False) hb) (fun _ _ h => h))).mono (fun e w' ⟨he, hb'⟩ => ⟨by rw [he, decide_eq_false (by omega)], hb'⟩)))
      have hk5 : (kk : Int) ≤ 3 := by have := unhide HK4; omega
      go_wp2_with fail
      refine (unhide K7).mono ?_
      rintro e wa ⟨rfl, ba⟩
      have G8 := hide ((unhide G7).later ba)
      have O8 : Hid (OneR w.heap.size wa (slV p) ⟨2, 1, 0, [], (kk : Int), x⟩) := hide ((unhide O7).keep rfl (Touch.of_below (S := fun _ => False) ba) (fun _ _ h => h))
      have B8 := hide ((unhide B7).trans (Below.mono ba (unhide B7).size))
      clear ba K7 G7 O7 B7
      generalize oAt (tOf m1) ((kk : Int) + 1) = oz at *
      have hq0 : 0 ≤ (i : Int) % 2 := by omega
      have hq1 : (i : Int) % 2 ≤ 1 := by omega
      have KE := hide (apply_end yes (unhide G8) (unhide O8) (unhide HK4) (unhide HP) (unhide B8).size)
      go_wp2_with fail
      rw [unhide HPE]
      clear hq0 hq1
      refine (unhide KE).mono ?_
      rintro e w8 ⟨rfl, n1, n2, m8, g8, e8, t8⟩
      have G9 := hide g8
      have B9 := hide (below_touch (unhide B8) t8 (unhide B8).size (fun k hk => hk))
      clear g8 t8 KE G8 O8 B8
      have G8 := G9
      have B8 := B9
      clear G9 B9
      have hQ := hk5
      clear hk5
      cases yes
      · have e8' : tOf m8 = tPut kk mo tm0 := by
          rw [e8, unhide E1]
          rfl
        have hmx0 : 0 ≤ mo := by have := unhide HM0; have := unhide HX0; omega
        have hmx1 : mo ≤ 65535 := by have := unhide HM1; have := unhide HX1; omega
        have K9 : Hid (Calls Try.prog 9 #[.pointer (some ⟨w.heap.size, 0, none⟩), .int .i64 1, .int .i64 (kk : Int)] w8 fun e w' => e = .returned (.tuple #[.int .i64 mo, .int .i64 0]) ∧ Below w8.heap.size w8 w') := by
          have := off_free (kk : Int) (by have := unhide HK4; omega) (unhide G8) (fun W hb => waits_no (kk : Int) ((unhide G8).later hb))
          rw [e8', at_put (unhide HK4) hmx0] at this
          exact hide this
        have HE8 := hide e8'
        have HMX0 := hide hmx0
        have HMX1 := hide hmx1
        clear e8' e8 hmx0 hmx1 hQ
        go_wp2_with fail
        refine (unhide K9).mono ?_
        rintro e w9 ⟨rfl, b9⟩
        have GO : Hid (GI w kk mo w9) := hide ⟨_, _, m8, (unhide G8).later b9, unhide HE8, (unhide B8).trans (Below.mono b9 (unhide B8).size)⟩
        clear b9 K9 G8 B8 HE8
        have hbz : (i : Int) ≤ 140737488355328 := by have := unhide HNL; have := unhide HIN; omega
        go_wp2
        go_roundw
        case rel => exact ⟨i + 1, mo, (by have := unhide HIN; omega), by go_num, rfl, unhide HMX0, unhide HMX1, unhide GO⟩
        case measure => have := unhide HIN; simp [intOf]; omega
      · have e8' : tOf m8 = tPut kk (max mo x) tm0 := by
          rw [e8, unhide E1]
          exact put_put (unhide HM0)
        have hmx0 : 0 ≤ (max mo x) := by have := unhide HM0; have := unhide HX0; omega
        have hmx1 : (max mo x) ≤ 65535 := by have := unhide HM1; have := unhide HX1; omega
        have K9 : Hid (Calls Try.prog 9 #[.pointer (some ⟨w.heap.size, 0, none⟩), .int .i64 1, .int .i64 (kk : Int)] w8 fun e w' => e = .returned (.tuple #[.int .i64 (max mo x), .int .i64 0]) ∧ Below w8.heap.size w8 w') := by
          have := off_free (kk : Int) (by have := unhide HK4; omega) (unhide G8) (fun W hb => waits_no (kk : Int) ((unhide G8).later hb))
          rw [e8', at_put (unhide HK4) hmx0] at this
          exact hide this
        have HE8 := hide e8'
        have HMX0 := hide hmx0
        have HMX1 := hide hmx1
        clear e8' e8 hmx0 hmx1 hQ
        go_wp2_with fail
        refine (unhide K9).mono ?_
        rintro e w9 ⟨rfl, b9⟩
        have GO : Hid (GI w kk (max mo x) w9) := hide ⟨_, _, m8, (unhide G8).later b9, unhide HE8, (unhide B8).trans (Below.mono b9 (unhide B8).size)⟩
        clear b9 K9 G8 B8 HE8
        have hbz : (i : Int) ≤ 140737488355328 := by have := unhide HNL; have := unhide HIN; omega
        go_wp2
        go_roundw
        case rel => exact ⟨i + 1, (max mo x), (by have := unhide HIN; omega), by go_num, rfl, unhide HMX0, unhide HMX1, unhide GO⟩
        case measure => have := unhide HIN; simp [intOf]; omega
    · obtain rfl : i = n := by omega
      have FF : Hid (Below w.heap.size w wr) := by
        obtain ⟨_, _, _, _, _, bw⟩ := unhide hG
        exact hide bw
      clear hG hin hi
      go_wp2
      go_ret
      exact ⟨rfl, unhide FF⟩
end Go.Proofs.Ytfbnkeflgddcmaa
