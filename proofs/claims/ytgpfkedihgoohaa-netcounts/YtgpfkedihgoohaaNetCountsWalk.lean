/-
  NetCounts' walk: a number names the same packet when as many as there are are added to it. Conditions: the packets are packets.
-/
import Derived.Test.YtgpfkedihgoohaaLd11
namespace Go.Proofs.Ytgpfkedihgoohaa
open Go.RowKit
set_option linter.unusedVariables false

set_option maxRecDepth 100000 in
set_option maxHeartbeats 4000000 in
theorem netCounts_walk (a : Option Addr) (cap : Nat) (ps : List Pk) (i : Int) (w : World) (hi : InR i) (hr : RowsAt pkC 3 w a ps) (hp : ∀ p ∈ ps, PIn w p) (hl : ps.length ≤ 4000000000000) :
    Calls Try.prog 6 #[.slice a ps.length cap, .int .i64 i] w fun e w' => e = .returned (.bool true) ∧ Below w.heap.size w w' := by
  have HR := hide hr
  have HP := hide hp
  clear hr hp
  go_enter Try.func6, Try.ntmps6
  go_wp2_with fail
  refine (new11_any w).mono ?_
  rintro e w1 ⟨rfl, rfl⟩
  have N1 := hide (ND.new w)
  generalize w.alloc (.cells #[.slice none 0 0, .map none] 56) = w1 at *
  have AW := hide (awake11_any w1)
  go_wp2_with fail
  refine (unhide AW).mono ?_
  rintro e w2 ⟨rfl, b2⟩
  have N2 := hide ((unhide N1).later b2)
  clear N1 AW b2
  have AW2 := hide (awake11_any w2)
  have END : Hid (∀ w', Below w2.heap.size w2 w' → Below w.heap.size w w') := fun w' h => (unhide N2).below.trans (h.mono (unhide N2).below.size)
  by_cases c1 : 256 < ps.length
  · have c1' : (256 : Int) < (ps.length : Int) := by omega
    clear HR HP N2
    go_wp2_with fail
    refine (unhide AW2).mono ?_
    rintro e w3 ⟨rfl, b3⟩
    go_wp2
    go_returns
    exact ⟨rfl, unhide END _ b3⟩
  have c1' : ¬ (256 : Int) < (ps.length : Int) := by omega
  by_cases c2 : ps.length = 0
  · have c2' : (ps.length : Int) = 0 := by omega
    clear HR HP N2
    go_wp2_with fail
    refine (unhide AW2).mono ?_
    rintro e w3 ⟨rfl, b3⟩
    go_wp2
    go_returns
    exact ⟨rfl, unhide END _ b3⟩
  have c2' : ¬ (ps.length : Int) = 0 := by omega
  by_cases c3 : 1152921504606846976 < i
  · clear HR HP N2
    go_wp2_with fail
    refine (unhide AW2).mono ?_
    rintro e w3 ⟨rfl, b3⟩
    go_wp2
    go_returns
    exact ⟨rfl, unhide END _ b3⟩
  by_cases c4 : i < -1152921504606846976
  · clear HR HP N2
    go_wp2_with fail
    refine (unhide AW2).mono ?_
    rintro e w3 ⟨rfl, b3⟩
    go_wp2
    go_returns
    exact ⟨rfl, unhide END _ b3⟩
  clear AW2 END
  have hn0 : 0 < ps.length := by omega
  have hn2 : ps.length ≤ 256 := by omega
  have hwp : IntKind.i64.wrap (i + (ps.length : Int)) = i + (ps.length : Int) := by simp [IntKind.wrap, IntKind.bits, IntKind.signed]; omega
  have hw3 : IntKind.i64.wrap (3 * (ps.length : Int)) = 3 * (ps.length : Int) := wrap_low (by omega) (by omega)
  have hwm : IntKind.i64.wrap (i - 3 * (ps.length : Int)) = i - 3 * (ps.length : Int) := by simp [IntKind.wrap, IntKind.bits, IntKind.signed]; omega
  have hwl : IntKind.i64.wrap ((ps.length : Int) - 1) = (ps.length : Int) - 1 := wrap_low (by omega) (by omega)
  have g0 : (decide ((256 : Int) < (ps.length : Int)) || (ps.length : Int) == 0 || decide ((1152921504606846976 : Int) < i) || decide (i < -1152921504606846976)) = false := by
    rw [decide_eq_false c1', decide_eq_false c3, decide_eq_false c4]; simp [c2]
  go_wp2_with fail
  clear g0
  go_loopw [44] (fun pl wr => ∃ (k : Nat) (R : Nat → Prop), k ≤ ps.length ∧ pl = .int .i64 (k : Int) ∧ ND w wr w.heap.size R (Fst ps k) []) (fun pl _ => ps.length - (intOf pl).toNat)
  case atStart => exact ⟨0, _, Nat.zero_le _, rfl, unhide N2⟩
  case round =>
    obtain ⟨k, R, hk, rfl, nd⟩ := hrel
    clear N2
    by_cases hkl : k < ps.length
    · have hkl' : (k : Int) < (ps.length : Int) := by omega
      have hz : (0 : Int) ≤ (k : Int) := by omega
      have hw1 : IntKind.i64.wrap ((k : Int) + 1) = (k : Int) + 1 := wrap_low (by omega) (by omega)
      obtain ⟨b, off, rfl, y0, y1, y2⟩ := (unhide HR).pk nd.below hkl
      have PI := ((unhide HP) _ (List.getElem_mem hkl)).later nd.below
      have FS := hide (Fst_send hkl hn2)
      have hA : Below wr.heap.size wr (wr.alloc (.cells #[.int .i64 ps[k].fr, .int .i64 ps[k].to, .slice ps[k].a ps[k].l.length ps[k].c] 33)) := (Below.refl _ _).alloc (Nat.le_refl _) _
      have ND2 := hide (nd.later hA)
      have LO := hide (lown_any (PI.later hA))
      obtain ⟨x0, x1, x2⟩ := (BoxP.new wr ps[k]).cells
      clear nd hA PI
      generalize ps[k] = p at *
      obtain ⟨fr, to, a', c', l⟩ := p
      simp only [pkV, pkS] at *
      generalize l.length = ln at *
      go_wp2_with fail
      generalize wr.alloc (.cells #[.int .i64 fr, .int .i64 to, .slice a' ln c'] 33) = wr2 at *
      refine (unhide LO).mono ?_
      rintro e w3 ⟨p', rfl, ha, pr, nw, b3⟩
      have ND3 := hide ((unhide ND2).later b3)
      have SD := hide (send_any (unhide ND3).net pr.pin)
      rw [ha] at SD
      unfold SendPost at SD
      rw [unhide FS, Fst_len hk] at SD
      clear b3 nw pr ha LO ND2 x0 x1 x2 y0 y1 y2 FS
      go_wp2_with fail
      refine (unhide SD).mono ?_
      rintro e w4 ⟨rfl, np⟩
      obtain ⟨R4, ND4, _, _⟩ := (unhide ND3).post np
      have N4 := hide ND4
      clear np ND4 SD ND3
      go_wp2
      go_roundw
      case rel => exact ⟨k + 1, R4, by omega, by go_num, unhide N4⟩
      case measure => simp [intOf]; omega
    · obtain rfl : k = ps.length := by omega
      have hkl' : ¬ (ps.length : Int) < (ps.length : Int) := by omega
      rw [Fst_all] at nd
      obtain ⟨qs, hqs⟩ : ∃ qs, qs = ps.map Pk.abs := ⟨_, rfl⟩
      have hql : qs.length = ps.length := by rw [hqs, List.length_map]
      rw [← hqs] at nd
      clear HR HP hqs
      generalize ps.length = n at *
      have P1 := hide (peek_any nd.net i hi)
      have P2 : Hid (∀ X, Below wr.heap.size wr X → Calls Try.prog 25 #[.pointer (some ⟨w.heap.size, 0, none⟩), .int .i64 (i + (n : Int))] X fun e w' => PeekPost X qs (i + (n : Int)) e w') := fun X hX => peek_any (nd.net.later hX) _ (by unfold InR; omega)
      have P3 : Hid (∀ X, Below wr.heap.size wr X → Calls Try.prog 25 #[.pointer (some ⟨w.heap.size, 0, none⟩), .int .i64 (i - 3 * (n : Int))] X fun e w' => PeekPost X qs (i - 3 * (n : Int)) e w') := fun X hX => peek_any (nd.net.later hX) _ (by unfold InR; omega)
      have P4 : Hid (∀ X, Below wr.heap.size wr X → Calls Try.prog 15 #[.pointer (some ⟨w.heap.size, 0, none⟩), .int .i64 i] X fun e w' => TakePost X w.heap.size R qs [] i e w') := fun X hX => take_any (nd.net.later hX) i hi
      have hlt := hide nd.net.lt
      have NDH := hide nd
      clear nd
      have hr1 : rnd i n < n := rnd_lt i hn0
      obtain ⟨q, hq⟩ : ∃ q, qs[rnd i n]? = some q := ⟨_, List.getElem?_eq_getElem (by omega)⟩
      have E1 : pkE qs i = q := by unfold pkE; rw [hql, hq]; rfl
      have E2 : pkE qs (i + (n : Int)) = q := by unfold pkE; rw [hql, show i + (n : Int) = i + 1 * (n : Int) by omega, rnd_plus i hn0, hq]; rfl
      have E3 : pkE qs (i - 3 * (n : Int)) = q := by unfold pkE; rw [hql, show i - 3 * (n : Int) = i + (-3) * (n : Int) by omega, rnd_plus i hn0, hq]; rfl
      have E4 : tkP qs [] i = q := by unfold tkP; rw [hql, hq]; rfl
      have E5 : tkB qs [] i = true := by unfold tkB; rw [hql, hq]; rfl
      have E6 : (qs.eraseIdx (rnd i qs.length)).length = n - 1 := by rw [List.length_eraseIdx, hql, if_pos hr1]
      have E7 : decide (0 < qs.length) = true := by simp; omega
      unfold PeekPost at P1 P2 P3
      unfold TakePost at P4
      rw [E1, E7] at P1
      simp only [E2, E7] at P2
      simp only [E3, E7] at P3
      simp only [E4, E5] at P4
      have HE6 := hide E6
      clear E1 E2 E3 E4 E5 E6 E7 hq hr1 hql
      generalize qs.eraseIdx (rnd i qs.length) = qe at *
      go_wp2_with fail
      refine (unhide P1).mono ?_
      rintro e w3 ⟨p1, rfl, a1, r1, n1, b1⟩
      have K1 := hide (Kept.new (Nat.le_refl _) r1 n1 b1)
      have hA : Below w3.heap.size w3 (w3.alloc (.cells #[.int .i64 p1.fr, .int .i64 p1.to, .slice p1.a p1.l.length p1.c] 33)) := (Below.refl _ _).alloc (Nat.le_refl _) _
      have B1 := hide (b1.trans (hA.mono b1.size))
      clear r1 n1 b1 hA P1
      simp only [pkV, pkS]
      go_wp2_with fail
      generalize w3.alloc (.cells #[.int .i64 p1.fr, .int .i64 p1.to, .slice p1.a p1.l.length p1.c] 33) = W3 at *
      refine (unhide P2 _ (unhide B1)).mono ?_
      rintro e w4 ⟨p2, rfl, a2, r2, n2, b2⟩
      have K2 := hide (Kept.new (unhide B1).size r2 n2 b2)
      have hA : Below w4.heap.size w4 (w4.alloc (.cells #[.int .i64 p2.fr, .int .i64 p2.to, .slice p2.a p2.l.length p2.c] 33)) := (Below.refl _ _).alloc (Nat.le_refl _) _
      have hB := b2.trans (hA.mono b2.size)
      have B2 := hide ((unhide B1).trans (hB.mono (unhide B1).size))
      have K12 := hide ((unhide K1).later hB)
      clear r2 n2 b2 hA hB P2 K1 B1
      simp only [pkV, pkS]
      go_wp2_with fail
      generalize w4.alloc (.cells #[.int .i64 p2.fr, .int .i64 p2.to, .slice p2.a p2.l.length p2.c] 33) = W4 at *
      refine (unhide P3 _ (unhide B2)).mono ?_
      rintro e w5 ⟨p3, rfl, a3, r3, n3, b3⟩
      have K3 := hide (Kept.new (unhide B2).size r3 n3 b3)
      have hA : Below w5.heap.size w5 (w5.alloc (.cells #[.int .i64 p3.fr, .int .i64 p3.to, .slice p3.a p3.l.length p3.c] 33)) := (Below.refl _ _).alloc (Nat.le_refl _) _
      have hB := b3.trans (hA.mono b3.size)
      have B3 := hide ((unhide B2).trans (hB.mono (unhide B2).size))
      have K13 := hide ((unhide K12).later hB)
      have K23 := hide ((unhide K2).later hB)
      clear r3 n3 b3 hA hB P3 K12 K2 B2
      simp only [pkV, pkS]
      go_wp2_with fail
      generalize w5.alloc (.cells #[.int .i64 p3.fr, .int .i64 p3.to, .slice p3.a p3.l.length p3.c] 33) = W5 at *
      refine (unhide P4 _ (unhide B3)).mono ?_
      rintro e w6 ⟨p4, rfl, a4, r4, np⟩
      obtain ⟨R6, ND6, _, t6⟩ := ((unhide NDH).later (unhide B3)).post np
      have hA : Below w6.heap.size w6 (w6.alloc (.cells #[.int .i64 p4.fr, .int .i64 p4.to, .slice p4.a p4.l.length p4.c] 33)) := (Below.refl _ _).alloc (Nat.le_refl _) _
      have ND7 := hide (ND6.later hA)
      have K14 := hide (((unhide K13).keep t6 (unhide hlt)).later hA)
      have K24 := hide (((unhide K23).keep t6 (unhide hlt)).later hA)
      have K34 := hide (((unhide K3).keep t6 (unhide hlt)).later hA)
      have X4 : Hid (BoxP (w6.alloc (.cells #[.int .i64 p4.fr, .int .i64 p4.to, .slice p4.a p4.l.length p4.c] 33)) w6.heap.size p4) := BoxP.new w6 p4
      have PR4 := hide (r4.later hA)
      clear hA ND6 t6 np r4 K13 K23 K3 B3 NDH P4 hlt
      simp only [pkV, pkS]
      have S12 := hide (same11_any (unhide K14).row.pin (unhide K24).row.pin (a1.trans a2.symm))
      obtain ⟨x0, x1, x2⟩ := (unhide K14).box.cells
      obtain ⟨y0, y1, y2⟩ := (unhide K24).box.cells
      go_wp2_with fail
      generalize w6.alloc (.cells #[.int .i64 p4.fr, .int .i64 p4.to, .slice p4.a p4.l.length p4.c] 33) = W6 at *
      refine (unhide S12).mono ?_
      rintro e w7 ⟨rfl, b7⟩
      have K17 := hide ((unhide K14).later b7)
      have K37 := hide ((unhide K34).later b7)
      have X7 := hide ((unhide X4).later b7)
      have PR7 := hide ((unhide PR4).later b7)
      have ND8 := hide ((unhide ND7).later b7)
      clear b7 K14 K24 K34 X4 PR4 ND7 S12 x0 x1 x2 y0 y1 y2
      have S13 := hide (same11_any (unhide K17).row.pin (unhide K37).row.pin (a1.trans a3.symm))
      obtain ⟨x0, x1, x2⟩ := (unhide K17).box.cells
      obtain ⟨y0, y1, y2⟩ := (unhide K37).box.cells
      go_wp2_with fail
      refine (unhide S13).mono ?_
      rintro e w8 ⟨rfl, b8⟩
      have K18 := hide ((unhide K17).later b8)
      have X8 := hide ((unhide X7).later b8)
      have PR8 := hide ((unhide PR7).later b8)
      have ND9 := hide ((unhide ND8).later b8)
      clear b8 K17 K37 X7 PR7 ND8 S13 x0 x1 x2 y0 y1 y2
      have S14 := hide (same11_any (unhide K18).row.pin (unhide PR8).pin (a1.trans a4.symm))
      obtain ⟨x0, x1, x2⟩ := (unhide K18).box.cells
      obtain ⟨y0, y1, y2⟩ := (unhide X8).cells
      go_wp2_with fail
      refine (unhide S14).mono ?_
      rintro e w9 ⟨rfl, b9⟩
      have ND10 := (unhide ND9).later b9
      have CT := hide (Count_any ND10.net)
      rw [unhide HE6] at CT
      have BB := hide ND10.below
      have hcn : ((n - 1 : Nat) : Int) = (n : Int) - 1 := by omega
      rw [hcn] at CT
      clear b9 ND10 ND9 K18 X8 PR8 S14 HE6 x0 x1 x2 y0 y1 y2 hcn
      go_wp2_with fail
      refine (unhide CT).mono ?_
      rintro e w10 ⟨rfl, rfl⟩
      go_wp2
      go_returns
      exact ⟨rfl, unhide BB⟩
end Go.Proofs.Ytgpfkedihgoohaa
