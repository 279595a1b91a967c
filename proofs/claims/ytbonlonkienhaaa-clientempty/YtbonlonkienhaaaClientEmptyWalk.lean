/-
  The road of ClientEmpty. Conditions: lengths as memory allows them.
-/
import Derived.Test.YtbonlonkienhaaaCe19
import Derived.Deep.CutBlock
namespace Go.Proofs.Ytbonlonkienhaaa
open Go.RowKit
set_option linter.unusedVariables false

set_option maxRecDepth 100000 in
set_option maxHeartbeats 16000000 in
theorem clientEmpty_walk {w : World} {a : Option Addr} {cap : Nat} {ends : List Bool} (h : RowsP (fun (q : Bool) => [Value.bool q]) 1 w a ends) (hl : ends.length ≤ 140737488355328) : Calls Try.prog 4 #[.slice a ends.length cap] w fun e w' => e = .returned (.bool true) ∧ Below w.heap.size w w' := by
  have HR := hide h
  obtain ⟨io, hio, hzo, hso, hbo⟩ := ops_info
  have HIO := hide hio
  have HZO := hide hzo
  have HSO := hide hso
  have HBO := hide hbo
  clear h hio hzo hso hbo
  generalize hn : ends.length = n at *
  have HN := hide hn
  have HNL := hide hl
  clear hn hl
  go_enter Try.func4, Try.ntmps4
  go_wp2_with fail
  go_loopw [3, 19] (fun ov iv wr => ∃ (k : Nat) (v : Value), v = ov ∧ k ≤ n ∧ iv = .int .i64 (k : Int) ∧ Hid (Wide wr 36 5 v (oE ends k).length ((oE ends k).flatMap cellsPo)) ∧ Hid (New w v) ∧ Hid (Below w.heap.size w wr)) (fun _ iv _ => n - (intOf iv).toNat)
  case atStart => exact ⟨0, _, rfl, Nat.zero_le _, rfl, hide (Wide.nil _ _ _), hide (New.nil _), hide (Below.refl _ _)⟩
  case round =>
    obtain ⟨k, v, rfl, hk, rfl, hw, hv, hb⟩ := hrel
    by_cases hkn : k < n
    · have hkn' : (k : Int) < (n : Int) := by omega
      have HK := hide hkn
      have hkl : k < ends.length := by have := unhide HN; omega
      have HKL := hide hkl
      obtain ⟨q, hq⟩ : ∃ q, q = ends[k] := ⟨_, rfl⟩
      have HQ := hide hq.symm
      obtain ⟨gb, off, ea, _, hcell⟩ := ((unhide HR).keep (Touch.of_below (unhide hb))).at_ hkl hq.symm
      have z0 := hcell 0 (by omega)
      rw [Nat.add_zero, Nat.mul_one] at z0
      simp only [List.getElem?_cons_zero] at z0
      subst ea
      clear hcell hq hkl hkn
      have hbz : (k : Int) ≤ 140737488355328 := by have := unhide HNL; have := unhide HK; omega
      by_cases h64 : k < 64
      · have h64' : (k : Int) < 64 := by omega
        have HWK := hw
        have HVK := hv
        have HBK := hb
        have H64 := hide h64
        clear hw hv hb
        cases q
        · go_wp2_with (at_builtin; refine wpList_wide _ rfl (.tmp 27) (.tmp 30) 34 rfl 36 io _ 5 48 Try.underlying34 (unhide HIO) (unhide HZO) (unhide HSO) (unhide HBO) rfl (by decide) v (oE ends k).length ((oE ends k).flatMap cellsPo) rfl ((unhide HWK).later ((Below.refl _ _).alloc (Nat.le_refl _) _)) wr.heap.size 0 1 (cellsPo (pE false)) rfl rfl (fun j u hj => by rw [cell_of (heap_new _ _), Nat.zero_add, ← Array.getElem?_toList]; exact hj) (by intro u hu; simp only [cellsPo, pE, List.mem_cons, List.not_mem_nil, or_false] at hu; rcases hu with rfl | rfl | rfl | rfl | rfl <;> rfl) (by rw [oE_len (by have := unhide HKL; omega)]; unfold maxLen; omega) (by rw [oE_len (by have := unhide HKL; omega)]; omega) ?_; intro v2 w2 o2 t2 m2; have GO : Hid (Hid (Wide w2 36 5 v2 (oE ends (k + 1)).length ((oE ends (k + 1)).flatMap cellsPo)) ∧ Hid (New w v2) ∧ Hid (Below w.heap.size w w2)) := hide (ends_grow (unhide HBK) (unhide HVK) o2 t2 m2 (unhide HKL) (unhide H64) (unhide HQ)); clear o2 t2 m2)
          go_roundw
          case rel => exact ⟨k + 1, v2, rfl, (by have := unhide HK; omega), by go_num, (unhide GO).1, (unhide GO).2.1, (unhide GO).2.2⟩
          case measure => have := unhide HK; simp [intOf]; omega
        · go_wp2_with (at_builtin; refine wpList_wide _ rfl (.tmp 27) (.tmp 30) 34 rfl 36 io _ 5 48 Try.underlying34 (unhide HIO) (unhide HZO) (unhide HSO) (unhide HBO) rfl (by decide) v (oE ends k).length ((oE ends k).flatMap cellsPo) rfl ((unhide HWK).later ((Below.refl _ _).alloc (Nat.le_refl _) _)) wr.heap.size 0 1 (cellsPo (pE true)) rfl rfl (fun j u hj => by rw [cell_of (heap_new _ _), Nat.zero_add, ← Array.getElem?_toList]; exact hj) (by intro u hu; simp only [cellsPo, pE, List.mem_cons, List.not_mem_nil, or_false] at hu; rcases hu with rfl | rfl | rfl | rfl | rfl <;> rfl) (by rw [oE_len (by have := unhide HKL; omega)]; unfold maxLen; omega) (by rw [oE_len (by have := unhide HKL; omega)]; omega) ?_; intro v2 w2 o2 t2 m2; have GO : Hid (Hid (Wide w2 36 5 v2 (oE ends (k + 1)).length ((oE ends (k + 1)).flatMap cellsPo)) ∧ Hid (New w v2) ∧ Hid (Below w.heap.size w w2)) := hide (ends_grow (unhide HBK) (unhide HVK) o2 t2 m2 (unhide HKL) (unhide H64) (unhide HQ)); clear o2 t2 m2)
          go_roundw
          case rel => exact ⟨k + 1, v2, rfl, (by have := unhide HK; omega), by go_num, (unhide GO).1, (unhide GO).2.1, (unhide GO).2.2⟩
          case measure => have := unhide HK; simp [intOf]; omega
      · have h64' : ¬ (k : Int) < 64 := by omega
        have HH := hide h64
        have GO : Hid (Hid (Wide wr 36 5 v (oE ends (k + 1)).length ((oE ends (k + 1)).flatMap cellsPo))) := hide (hide (by rw [oE_over (by omega)]; exact unhide hw))
        clear hw h64
        go_wp2
        go_roundw
        case rel => exact ⟨k + 1, v, rfl, (by have := unhide HK; omega), by go_num, unhide GO, hv, hb⟩
        case measure => have := unhide HK; simp [intOf]; omega
    · obtain rfl : k = n := by omega
      obtain ⟨qs, hqs⟩ : ∃ qs, qs = (ends.take k).take 64 := ⟨_, rfl⟩
      obtain ⟨os, hos⟩ : ∃ os, os = qs.map pE := ⟨_, rfl⟩
      have hw2 : Wide wr 36 5 v os.length (os.flatMap cellsPo) := by rw [hos, hqs]; exact unhide hw
      have HOS := hide hos
      have HOL : Hid (os.length = qs.length) := hide (by rw [hos, List.length_map])
      have hq64 : qs.length ≤ 64 := by rw [hqs]; simp; omega
      obtain ⟨va, vc, rfl⟩ := hw2.shape
      have W1 := hide hw2
      have HQ64 := hide hq64
      have B1 := hb
      clear hos hw hv hqs HR HN HIO HZO HSO HBO hw2 hb hk hkn
      have KO := hide (one_any wr va os.length vc)
      go_wp2_with fail
      refine (unhide KO).mono ?_
      rintro e w2 ⟨g1, rfl, h2, b2, _⟩
      have K2 := hide (new_ok (one_in (os := os) h2 (RowsP.of_wide (f := cellsPo) (m := 5) (fun _ => rfl) ((unhide W1).later b2) (by decide)) (by rw [unhide HOL]; exact unhide HQ64)) (by rw [unhide HOS]; exact st_ends (unhide HQ64)) (by show 0 < 1; decide) rfl (by show os.length ≤ 64; rw [unhide HOL]; exact unhide HQ64) (wide_none (unhide W1)))
      have B2 := hide ((unhide B1).trans (Below.mono b2 (unhide B1).size))
      have W2 := hide ((unhide W1).later b2)
      clear h2 b2 KO W1 B1
      go_wp2_with fail
      refine (unhide K2).mono ?_
      rintro e w3 ⟨bA, aA, kA, rfl, hbA, h3, _, t3⟩
      have HBA : Hid (w.heap.size ≤ bA) := hide (Nat.le_trans (unhide B2).size hbA)
      have B3 := hide (below_touch (unhide B2) t3 (unhide B2).size (fun k hk => hk.elim))
      have W3 := hide ((unhide W2).keep t3 (fun _ _ h => h))
      have C3 := hide h3
      clear h3 t3 hbA K2 B2 W2
      have KA := hide (awake19 w3)
      go_wp2_with fail
      refine (unhide KA).mono ?_
      rintro e w4 ⟨rfl, b4⟩
      have E4 : Hid (EI w bA (.slice va os.length vc) qs 0 w4 (newC (oneC g1 va vc os) 0 ⟨0, va, vc, os⟩ aA kA)) := hide ⟨.inl ⟨Nat.zero_le _, by rw [unhide HOS]; exact st_zero⟩, (unhide C3).keep (Touch.of_below b4), New.nil _, (unhide B3).trans (Below.mono b4 (unhide B3).size), unhide HBA, by
        have := (unhide W3).later b4
        rw [← unhide HOS, ← unhide HOL]
        exact this⟩
      clear b4 KA C3 W3 B3 HBA
      generalize newC (oneC g1 va vc os) 0 ⟨0, va, vc, os⟩ aA kA = c0 at *
      go_wp2_with fail
      go_loopw [9] (fun iv wr => ∃ (j : Nat) (c : Cl), iv = .int .i64 (j : Int) ∧ j ≤ 70 ∧ Hid (EI w bA (.slice va os.length vc) qs j wr c)) (fun iv _ => 70 - (intOf iv).toNat)
      case atStart => exact ⟨0, c0, rfl, by omega, E4⟩
      case round =>
        obtain ⟨j, c, rfl, hj, hE⟩ := hrel
        by_cases hj70 : j < 70
        · have hj70' : (j : Int) < 70 := by omega
          have KT := hide (tick_EI (unhide hE) (unhide HQ64))
          clear hE E4
          go_wp2_with fail
          refine (unhide KT).mono ?_
          rintro e w5 ⟨rfl, c5, h5⟩
          have E5 := hide h5
          clear h5 KT
          go_wp2
          go_roundw
          case rel => exact ⟨j + 1, c5, by go_num, by omega, E5⟩
          case measure => simp [intOf]; omega
        · obtain rfl : j = 70 := by omega
          have hst : StB qs c := by
            rcases (unhide hE).st with ⟨h1, _⟩ | ⟨_, h2⟩
            · have := unhide HQ64
              omega
            · exact h2
          have HTR := hide hst.tr
          have HPL := hide hst.pl
          have HIC := hide hst.ic
          have HEN := hide hst.en
          have HTL : Hid (c.tr.length = qs.length + 1) := hide (by rw [hst.tr, List.length_append, evs_len]; rfl)
          have KT := hide (trace_any (unhide hE).cl (by have := unhide HTL; have := unhide HQ64; omega))
          have C6 := hide (unhide hE).cl
          have B6 := hide (unhide hE).bl
          have W6 := hide (unhide hE).row
          clear hE E4 hst
          go_wp2_with fail
          refine (unhide KT).mono ?_
          rintro e w7 ⟨a7, k7, rfl, r7, _, b7⟩
          have C7 := hide ((unhide C6).keep (Touch.of_below b7))
          have B7 := hide ((unhide B6).trans (Below.mono b7 (unhide B6).size))
          have HPO : Hid (RowsP cellsPo 5 w7 va os) := hide (RowsP.of_wide (f := cellsPo) (m := 5) (c := vc) (fun _ => rfl) (by have := (unhide W6).later b7; rw [← unhide HOS, ← unhide HOL] at this; exact this) (by decide))
          have HPS := hide (RowsP.of_wide (f := cellsSn) (m := 7) (fun _ => rfl) r7 (by decide))
          clear r7 b7 KT C6 B6 W6
          have TL := unhide HTL
          have OL := unhide HOL
          have QL := unhide HQ64
          have hne : (qs.length : Int) + 1 ≤ 65 := by omega
          rw [TL]
          rw [OL]
          generalize hm : qs.length = m at *
          have HM := hide hm
          clear hm
          go_wp2_with fail
          have HM64 := hide QL
          clear TL OL QL hne
          go_loopw [67] (fun iv wr => ∃ i : Nat, i ≤ m ∧ iv = .int .i64 (i : Int) ∧ Touch (fun _ => False) w7 wr) (fun iv _ => m - (intOf iv).toNat)
          case atStart => exact ⟨0, Nat.zero_le _, rfl, Touch.refl _ _⟩
          case round =>
            obtain ⟨i, hi, rfl, tk⟩ := hrel
            have TK := hide tk
            by_cases him : i < m
            · have hi' : (i : Int) < (m : Int) := by omega
              have HI := hide him
              have hiq : i < qs.length := by have := unhide HM; omega
              have hol : i < os.length := by have := unhide HOL; omega
              have hsl : i < c.tr.length := by have := unhide HTL; omega
              obtain ⟨q, hq⟩ : ∃ q, q = qs.getD i false := ⟨_, rfl⟩
              have hoi : os[i] = pE q := by
                have e : os[i]? = some (pE q) := by rw [unhide HOS, hq]; simp [hiq]
                exact (List.getElem?_eq_some_iff.1 e).2
              have hsi : c.tr[i] = sE i q := by
                have e : c.tr[i]? = some (sE i q) := by rw [unhide HTR, List.getElem?_append_left (by rw [evs_len]; exact him), evs_at him, hq]
                exact (List.getElem?_eq_some_iff.1 e).2
              have HSI : Hid (∃ hs : i < c.tr.length, c.tr[i] = sE i q) := hide ⟨hsl, hsi⟩
              obtain ⟨gd, od, ed, _, hcd⟩ := ((unhide HPO).keep tk).at_ hol hoi
              have z0 := hcd 0 (by omega)
              have z1 := hcd 1 (by omega)
              have z2 := hcd 2 (by omega)
              have z3 := hcd 3 (by omega)
              have z4 := hcd 4 (by omega)
              rw [Nat.add_zero] at z0
              subst ed
              clear hcd hq hoi hsi hsl hol hiq tk him hi
              cases q
              · simp only [pE, cellsPo, Bool.false_eq_true, if_false, List.getElem?_cons_zero, List.getElem?_cons_succ] at z0 z1 z2 z3 z4
                go_upto_region 25 with fail
                change Code.wp _ _ _ _ (wr.alloc (.cells #[.int .i64 3, .int .i64 0, .int .i64 0, .int .i64 0, .string ByteArray.empty] 36))
                have t8 := (Touch.refl (fun _ => False) wr).alloc (.cells #[.int .i64 3, .int .i64 0, .int .i64 0, .int .i64 0, .string ByteArray.empty] 36)
                have x0 : (wr.alloc (.cells #[.int .i64 3, .int .i64 0, .int .i64 0, .int .i64 0, .string ByteArray.empty] 36)).cell? ⟨wr.heap.size, 0, none⟩ = some (.int .i64 3) := cell_of (heap_new _ _) 0
                obtain ⟨hs', he'⟩ := unhide HSI
                obtain ⟨gs, sf, es, _, hsc⟩ := ((unhide HPS).keep ((unhide TK).trans t8)).at_ hs' he'
                clear hs' he'
                have v0 := hsc 0 (by omega)
                have v1 := hsc 1 (by omega)
                have v2 := hsc 2 (by omega)
                have v3 := hsc 3 (by omega)
                have v4 := hsc 4 (by omega)
                have v5 := hsc 5 (by omega)
                have v6 := hsc 6 (by omega)
                rw [Nat.add_zero] at v0
                simp only [sE, cellsSn, Bool.false_eq_true, if_false, List.getElem?_cons_zero, List.getElem?_cons_succ] at v0 v1 v2 v3 v4 v5 v6
                subst es
                have T8 := hide ((unhide TK).trans t8)
                have heq := sn_eq3 i (by have := unhide HI; have := unhide HM64; omega)
                have hi1 : (i : Int) < (m : Int) + 1 := by have := unhide HI; omega
                have him : (i : Int) ≤ 64 := by have := unhide HI; have := unhide HM64; omega
                clear hsc t8 z0 z1 z2 z3 z4 TK
                generalize wr.alloc (.cells #[.int .i64 3, .int .i64 0, .int .i64 0, .int .i64 0, .string ByteArray.empty] 36) = w8 at *
                go_wp2
                go_roundw
                case rel => exact ⟨i + 1, (by have := unhide HI; omega), by go_num, unhide T8⟩
                case measure => have := unhide HI; simp [intOf]; omega
              · simp only [pE, cellsPo, if_true, List.getElem?_cons_zero, List.getElem?_cons_succ] at z0 z1 z2 z3 z4
                go_upto_region 25 with fail
                change Code.wp _ _ _ _ (wr.alloc (.cells #[.int .i64 2, .int .i64 0, .int .i64 0, .int .i64 0, .string ByteArray.empty] 36))
                have t8 := (Touch.refl (fun _ => False) wr).alloc (.cells #[.int .i64 2, .int .i64 0, .int .i64 0, .int .i64 0, .string ByteArray.empty] 36)
                have x0 : (wr.alloc (.cells #[.int .i64 2, .int .i64 0, .int .i64 0, .int .i64 0, .string ByteArray.empty] 36)).cell? ⟨wr.heap.size, 0, none⟩ = some (.int .i64 2) := cell_of (heap_new _ _) 0
                obtain ⟨hs', he'⟩ := unhide HSI
                obtain ⟨gs, sf, es, _, hsc⟩ := ((unhide HPS).keep ((unhide TK).trans t8)).at_ hs' he'
                clear hs' he'
                have v0 := hsc 0 (by omega)
                have v1 := hsc 1 (by omega)
                have v2 := hsc 2 (by omega)
                have v3 := hsc 3 (by omega)
                have v4 := hsc 4 (by omega)
                have v5 := hsc 5 (by omega)
                have v6 := hsc 6 (by omega)
                rw [Nat.add_zero] at v0
                simp only [sE, cellsSn, if_true, List.getElem?_cons_zero, List.getElem?_cons_succ] at v0 v1 v2 v3 v4 v5 v6
                subst es
                have T8 := hide ((unhide TK).trans t8)
                have heq := sn_eq2 i (by have := unhide HI; have := unhide HM64; omega)
                have hi1 : (i : Int) < (m : Int) + 1 := by have := unhide HI; omega
                have him : (i : Int) ≤ 64 := by have := unhide HI; have := unhide HM64; omega
                clear hsc t8 z0 z1 z2 z3 z4 TK
                generalize wr.alloc (.cells #[.int .i64 2, .int .i64 0, .int .i64 0, .int .i64 0, .string ByteArray.empty] 36) = w8 at *
                go_wp2
                go_roundw
                case rel => exact ⟨i + 1, (by have := unhide HI; omega), by go_num, unhide T8⟩
                case measure => have := unhide HI; simp [intOf]; omega
            · obtain rfl : i = m := by omega
              have KS := hide (state_any (tk.keep (unhide C7).cl (fun h => h)))
              have PL := unhide HPL
              have IC := unhide HIC
              have EN := unhide HEN
              rw [PL, IC, EN] at KS
              have hsl : i < c.tr.length := by have := unhide HTL; omega
              have hsi : c.tr[i] = ⟨7, 0, (i : Int), 0, 0, ByteArray.empty, 0⟩ := by
                have e : c.tr[i]? = some (⟨7, 0, (i : Int), 0, 0, ByteArray.empty, 0⟩ : Sn) := by rw [unhide HTR, List.getElem?_append_right (by rw [evs_len]; exact Nat.le_refl _), evs_len]; simp
                exact (List.getElem?_eq_some_iff.1 e).2
              have HSI : Hid (∃ hs : i < c.tr.length, c.tr[i] = ⟨7, 0, (i : Int), 0, 0, ByteArray.empty, 0⟩) := hide ⟨hsl, hsi⟩
              have hwb : w.heap.size ≤ w7.heap.size := (unhide B7).size
              have B8 := hide (below_touch (unhide B7) tk hwb (fun k hk => hk.elim))
              clear hsi hsl PL IC EN tk hwb him hi
              go_wp2_with fail
              refine (unhide KS).mono ?_
              rintro e w9 ⟨rfl, b9⟩
              obtain ⟨hs', he'⟩ := unhide HSI
              obtain ⟨gs, sf, es, _, hsc⟩ := ((unhide HPS).keep ((unhide TK).trans (Touch.of_below b9))).at_ hs' he'
              clear hs' he'
              have v0 := hsc 0 (by omega)
              have v2 := hsc 2 (by omega)
              rw [Nat.add_zero] at v0
              simp only [cellsSn, List.getElem?_cons_zero, List.getElem?_cons_succ] at v0 v2
              subst es
              have hi1 : (i : Int) < (i : Int) + 1 := by omega
              have him : (i : Int) ≤ 64 := by have := unhide HM64; omega
              have FF := hide ((unhide B8).trans (Below.mono b9 (unhide B8).size))
              clear hsc b9 KS B8 HSI HPS TK C7
              go_wp2
              go_returns
              exact ⟨by first | rfl | (simp; done), unhide FF⟩
end Go.Proofs.Ytbonlonkienhaaa
