/-
  The road of GroupApart. Conditions: lengths as memory allows them.
-/
import Derived.Test.YtfbnkeflgddcmaaGa6
namespace Go.Proofs.Ytfbnkeflgddcmaa
open Go.RowKit Go.Maps
set_option linter.unusedVariables false

set_option maxRecDepth 100000 in
set_option maxHeartbeats 16000000 in
theorem groupApart_walk {w : World} {ra : Option Addr} {cap : Nat} {ls : List Gq} (n : Int) (h : RowsP gqL 6 w ra ls) (hg : ∀ g ∈ ls, GGot w g) (hl : ls.length ≤ 140737488355327) (hp0 : 0 ≤ n) (hp1 : n ≤ 255) :
    Calls Try.prog 4 #[.slice ra ls.length cap, .int .u8 n] w fun e w' => e = .returned (.bool true) ∧ Below w.heap.size w w' := by
  have HR := hide h
  have HGG := hide hg
  generalize hn : ls.length = n0 at *
  have HN := hide hn
  have HNL := hide hl
  clear h hg hn hl
  obtain ⟨k, hkk, hk0, hk8⟩ : ∃ k : Int, n.tmod 8 = k ∧ 0 ≤ k ∧ k < 8 := ⟨n.tmod 8, rfl, Int.tmod_nonneg 8 hp0, Int.tmod_lt_of_pos n (by decide)⟩
  have HK : Hid (0 ≤ k ∧ k < 8) := hide ⟨hk0, hk8⟩
  have KN := hide (gnew_any w)
  have I0 := hide (ai_new w k)
  go_enter Try.func4, Try.ntmps4
  go_wp2_with fail
  refine (unhide KN).mono ?_
  rintro e w1 ⟨rfl, rfl⟩
  have KN2 := hide (gnew_any (w.alloc (.cells #[.map none, .map none] 52)))
  clear KN
  go_wp2_with fail
  refine (unhide KN2).mono ?_
  rintro e w1 ⟨rfl, rfl⟩
  have hz : (w.alloc (.cells #[.map none, .map none] 52)).heap.size = w.heap.size + 1 := by simp
  rw [hz]
  clear KN2 hz
  generalize (w.alloc (.cells #[.map none, .map none] 52)).alloc (.cells #[.map none, .map none] 52) = w1 at *
  have KA := hide (gawake_any w1)
  go_wp2_with fail
  refine (unhide KA).mono ?_
  rintro e w2 ⟨rfl, b2⟩
  have I2 := hide ((unhide I0).later b2)
  clear b2 KA I0
  go_upto_region 5 with fail
  clear hkk hk0 hk8 hp0 hp1
  go_wp2_with fail
  go_loopw [38] (fun iv wr => ∃ (i : Nat), i ≤ n0 ∧ iv = .int .i64 (i : Int) ∧ Hid (AI w k i wr)) (fun iv _ => n0 - (intOf iv).toNat)
  case atStart => exact ⟨0, Nat.zero_le _, rfl, I2⟩
  case round =>
    obtain ⟨i, hi, rfl, hG⟩ := hrel
    clear I2
    by_cases hin : i < n0
    · have hin' : (i : Int) < (n0 : Int) := by omega
      have HIN := hide hin
      have hil : i < ls.length := by have := unhide HN; omega
      have hML : Hid (i < maxLen) := hide (by have := unhide HNL; unfold maxLen; omega)
      obtain ⟨x, hxe⟩ : ∃ x, x = ls[i] := ⟨_, rfl⟩
      have hgx : GGot w x := by rw [hxe]; exact unhide HGG _ (List.getElem_mem hil)
      have bw := (unhide hG).below
      obtain ⟨gb, roff, ea, _, hcell⟩ := ((unhide HR).keep (Touch.of_below bw)).at_ hil hxe.symm
      obtain ⟨kd, gr, gen, l, pt, off, a, ck⟩ := x
      have z0 := hcell 0 (by omega)
      have z1 := hcell 1 (by omega)
      have z2 := hcell 2 (by omega)
      have z3 := hcell 3 (by omega)
      have z4 := hcell 4 (by omega)
      have z5 := hcell 5 (by omega)
      rw [Nat.add_zero] at z0
      simp only [gqL, List.getElem?_cons_zero, List.getElem?_cons_succ] at z0 z1 z2 z3 z4 z5
      subst ea
      have HF : Hid (RFit (⟨kd, gr, gen, l, pt, off⟩ : Rx)) := hide (gq_fit hgx)
      have HI : Hid (IAt wr a l) := hide (hgx.at_.later bw)
      have HCP : Hid (a = none → ck = 0) := hide hgx.cap
      have HI0 : Hid (IAt w a l) := hide hgx.at_
      have HLN : Hid (l.length * 8 ≤ 140737488351232) := hide hgx.len
      have HAI := hG
      have hnz : (n0 : Int) ≤ 140737488355327 := by have := unhide HNL; omega
      clear hcell hxe hil bw hG hgx hin
      go_upto_region 8 with fail
      have b3 := (Below.refl wr.heap.size wr).alloc (Nat.le_refl _) (.cells #[.int .i64 kd, .int .i64 gr, .int .i64 gen, .slice a l.length ck, .int .i64 pt, .int .i64 off] 29)
      have HXB3 := hide (heap_new wr (.cells #[.int .i64 kd, .int .i64 gr, .int .i64 gen, .slice a l.length ck, .int .i64 pt, .int .i64 off] 29))
      have HAI3 := hide ((unhide HAI).later b3)
      have HI3 := hide ((unhide HI).later b3)
      clear z0 z1 z2 z3 z4 z5 b3 HAI HI
      change Code.wp _ _ _ _ (wr.alloc (.cells #[.int .i64 kd, .int .i64 gr, .int .i64 gen, .slice a l.length ck, .int .i64 pt, .int .i64 off] 29))
      generalize wr.alloc (.cells #[.int .i64 kd, .int .i64 gr, .int .i64 gen, .slice a l.length ck, .int .i64 pt, .int .i64 off] 29) = w3 at *
      generalize wr.heap.size = rb at *
      have HXB := HXB3
      have HAI := HAI3
      have HI := HI3
      clear HXB3 HAI3 HI3
      have x0 := cell_of (unhide HXB) 0
      have x1 := cell_of (unhide HXB) 1
      have x2 := cell_of (unhide HXB) 2
      have x3 := cell_of (unhide HXB) 3
      have x4 := cell_of (unhide HXB) 4
      have x5 := cell_of (unhide HXB) 5
      simp at x0 x1 x2 x3 x4 x5
      cases hC : isR (⟨kd, gr, gen, l, pt, off⟩ : Rx) with
      | false =>
        have KD := hide (docencode_bad (k := ck) (unhide HI) (by have := unhide HLN; unfold maxLen; simp only; omega) hC)
        unfold rxA at KD
        simp only at KD
        clear hC
        go_wp2_with fail
        refine (unhide KD).mono ?_
        rintro e w4 ⟨vo, rfl, q1, _, q3⟩
        obtain ⟨va, vn, vc, rfl⟩ := q1.shape
        have GO := hide ((unhide HAI).more.later q3)
        clear q1 q3 KD HAI HXB HI x0 x1 x2 x3 x4 x5
        go_wp2
        go_roundw
        case rel => exact ⟨i + 1, (by have := unhide HIN; omega), by go_num, GO⟩
        case measure => have := unhide HIN; simp [intOf]; omega
      | true =>
        have HC := hide hC
        have KD := hide (docencode_ok (k := ck) (unhide HI) (by have := unhide HLN; unfold maxLen; simp only; omega) (unhide HF) hC)
        unfold rxA at KD
        simp only at KD
        clear hC
        go_wp2_with fail
        refine (unhide KD).mono ?_
        rintro e w4 ⟨vo, rfl, q1, _, q3⟩
        obtain ⟨va, vn, vc, rfl⟩ := q1.shape
        have HAI4 := hide ((unhide HAI).later q3)
        have HXB4 := hide (below_keep q3 (unhide HXB))
        have HI4 := hide ((unhide HI).later q3)
        clear q1 q3 KD HAI HXB HI x0 x1 x2 x3 x4 x5
        have HAI := HAI4
        have HXB := HXB4
        have HI := HI4
        clear HAI4 HXB4 HI4
        have x0 := cell_of (unhide HXB) 0
        have x1 := cell_of (unhide HXB) 1
        have x2 := cell_of (unhide HXB) 2
        have x3 := cell_of (unhide HXB) 3
        have x4 := cell_of (unhide HXB) 4
        have x5 := cell_of (unhide HXB) 5
        simp at x0 x1 x2 x3 x4 x5
        have KO := hide (own_any (kd := kd) (gr := gr) (gen := gen) (pt := pt) (off := off) (k := ck) (unhide HI) (unhide HCP) (by have := isR_few (unhide HC); simp only at this; omega))
        go_wp2_with fail
        refine (unhide KO).mono ?_
        rintro e wo ⟨oa, ok, rfl, io, _, bo⟩
        obtain ⟨a', c', ev, iat, _⟩ := io.iat
        injection ev with ev1 ev2 ev3
        rw [← ev1] at iat
        clear ev1 ev2 ev3 io
        have b6 := bo.trans (((Below.refl wo.heap.size wo).alloc (Nat.le_refl _) (.cells #[.int .i64 kd, .int .i64 gr, .int .i64 gen, .slice oa l.length ok, .int .i64 pt, .int .i64 off] 29)).mono bo.size)
        have HAI6 := hide ((unhide HAI).later b6)
        have HXB6 := hide (below_keep b6 (unhide HXB))
        have HI6 := hide ((unhide HI).later b6)
        have KB := hide (batch_one (pid := 0) (r := (⟨kd, gr, gen, l, pt, off⟩ : Rx)) (k := ok) (heap_new wo (.cells #[.int .i64 kd, .int .i64 gr, .int .i64 gen, .slice oa l.length ok, .int .i64 pt, .int .i64 off] 29)) (iat.later ((Below.refl wo.heap.size wo).alloc (Nat.le_refl _) _)) (by have := isR_few (unhide HC); simp only at this; unfold maxLen; simp only; omega) (unhide HF) (unhide HC) (rec_few (unhide HF) (unhide HC)))
        (try unfold rxA at KB)
        (try simp only at KB)
        clear iat bo b6 KO HAI HXB HI x0 x1 x2 x3 x4 x5
        go_wp2_with fail
        generalize wo.alloc (.cells #[.int .i64 kd, .int .i64 gr, .int .i64 gen, .slice oa l.length ok, .int .i64 pt, .int .i64 off] 29) = wa at *
        generalize wo.heap.size = lb at *
        refine (unhide KB).mono ?_
        rintro e wb ⟨v, rfl, o7, b7⟩
        have eb : (baC 0 v).toArray = #[.int .i64 0, .int .i64 0, .int .u64 0, .int .i64 0, .int .i64 0, .bool false, .bool false, .bool false, v] := by simp [baC]
        rw [eb]
        clear eb
        have HAI := hide ((unhide HAI6).later b7)
        have HXB := hide (below_keep b7 (unhide HXB6))
        have HI := hide ((unhide HI6).later b7)
        have O7 := hide o7
        clear o7 b7 KB HAI6 HXB6 HI6
        have KA := hide (apply_s (unhide HAI) (unhide O7) (unhide HF) (unhide HC) (unhide hML))
        clear O7
        go_wp2_with fail
        refine (unhide KA).mono ?_
        rintro e w8 ⟨rfl, j8, hkeep⟩
        have HXB8 := hide (hkeep _ _ _ (by decide) (unhide HXB))
        have HAI8 := hide j8
        have HB8 : Hid (IAt w8 a l) := hide ((unhide HI0).later j8.below)
        clear hkeep j8 KA HAI HXB HI
        have HXB := HXB8
        have HAI := HAI8
        have HI := HB8
        clear HXB8 HAI8 HB8
        have x1 := cell_of (unhide HXB) 1
        simp at x1
        by_cases hek : gr = k
        · have hb : (gr == k) = true := beq_iff_eq.2 hek
          have HEK := hide hek
          go_upto_region 12 with fail
          clear hb hek x1
          have x0 := cell_of (unhide HXB) 0
          have x1 := cell_of (unhide HXB) 1
          have x2 := cell_of (unhide HXB) 2
          have x3 := cell_of (unhide HXB) 3
          have x4 := cell_of (unhide HXB) 4
          have x5 := cell_of (unhide HXB) 5
          simp at x0 x1 x2 x3 x4 x5
          have KO := hide (own_any (kd := kd) (gr := gr) (gen := gen) (pt := pt) (off := off) (k := ck) (unhide HI) (unhide HCP) (by have := isR_few (unhide HC); simp only at this; omega))
          go_wp2_with fail
          refine (unhide KO).mono ?_
          rintro e wo ⟨oa, ok, rfl, io, _, bo⟩
          obtain ⟨a', c', ev, iat, _⟩ := io.iat
          injection ev with ev1 ev2 ev3
          rw [← ev1] at iat
          clear ev1 ev2 ev3 io
          have b6 := bo.trans (((Below.refl wo.heap.size wo).alloc (Nat.le_refl _) (.cells #[.int .i64 kd, .int .i64 gr, .int .i64 gen, .slice oa l.length ok, .int .i64 pt, .int .i64 off] 29)).mono bo.size)
          have HAI6 := hide ((unhide HAI).later b6)
          have HXB6 := hide (below_keep b6 (unhide HXB))
          have HI6 := hide ((unhide HI).later b6)
          have KB := hide (batch_one (pid := 0) (r := (⟨kd, gr, gen, l, pt, off⟩ : Rx)) (k := ok) (heap_new wo (.cells #[.int .i64 kd, .int .i64 gr, .int .i64 gen, .slice oa l.length ok, .int .i64 pt, .int .i64 off] 29)) (iat.later ((Below.refl wo.heap.size wo).alloc (Nat.le_refl _) _)) (by have := isR_few (unhide HC); simp only at this; unfold maxLen; simp only; omega) (unhide HF) (unhide HC) (rec_few (unhide HF) (unhide HC)))
          (try unfold rxA at KB)
          (try simp only at KB)
          clear iat bo b6 KO HAI HXB HI x0 x1 x2 x3 x4 x5
          go_wp2_with fail
          generalize wo.alloc (.cells #[.int .i64 kd, .int .i64 gr, .int .i64 gen, .slice oa l.length ok, .int .i64 pt, .int .i64 off] 29) = wa at *
          generalize wo.heap.size = lb at *
          refine (unhide KB).mono ?_
          rintro e wb ⟨v, rfl, o7, b7⟩
          have eb : (baC 0 v).toArray = #[.int .i64 0, .int .i64 0, .int .u64 0, .int .i64 0, .int .i64 0, .bool false, .bool false, .bool false, v] := by simp [baC]
          rw [eb]
          clear eb
          have HAI := hide ((unhide HAI6).later b7)
          have HXB := hide (below_keep b7 (unhide HXB6))
          have HI := hide ((unhide HI6).later b7)
          have O7 := hide o7
          clear o7 b7 KB HAI6 HXB6 HI6
          have KA := hide (apply_x (unhide HAI) (unhide O7) (unhide HF) (unhide HC) (unhide hML) (unhide HEK))
          clear O7
          go_wp2_with fail
          refine (unhide KA).mono ?_
          rintro e w9 ⟨rfl, j9⟩
          have GO := hide j9
          clear j9 KA HAI HXB HI
          go_wp2
          go_roundw
          case rel => exact ⟨i + 1, (by have := unhide HIN; omega), by go_num, GO⟩
          case measure => have := unhide HIN; simp [intOf]; omega
        · have hb : (gr == k) = false := beq_eq_false_iff_ne.2 hek
          have GO := hide ((unhide HAI).out hek)
          clear hek HAI HXB HI
          go_wp2
          go_roundw
          case rel => exact ⟨i + 1, (by have := unhide HIN; omega), by go_num, GO⟩
          case measure => have := unhide HIN; simp [intOf]; omega
    · obtain rfl : i = n0 := by omega
      obtain ⟨mos, ms, As, mox, mx, Ax, h1, h2, h3, h4, h5⟩ := unhide hG
      have H1 := hide h1
      have H2 := hide h2
      have H3 := hide h3
      have H5 := hide h5
      have K1 := hide (team_gen h1 (unhide HK))
      clear h1 h2 h3 h4 h5 hG hin hi
      go_wp2_with fail
      refine (unhide K1).mono ?_
      rintro e w2 ⟨v1, rfl, i1, _, b2⟩
      obtain ⟨a1, c1, rfl, iat1, _⟩ := i1.iat
      have K2 : Hid (Calls Try.prog 12 #[.pointer (some ⟨w.heap.size + 1, 0, none⟩), .int .i64 k] w2 fun e w' => TeP w2 (As k) e w') := hide (by
        rw [unhide H3]
        exact team_gen ((unhide H2).later b2) (unhide HK))
      have I1 := hide iat1
      have B2 := hide b2
      clear K1 i1 iat1 b2
      go_wp2_with fail
      refine (unhide K2).mono ?_
      rintro e w3 ⟨v2, rfl, i2, _, b3⟩
      obtain ⟨a2, c2, rfl, iat2, _⟩ := i2.iat
      have I2 := hide iat2
      have J1 := hide ((unhide I1).later b3)
      have B3 := hide ((unhide B2).trans (Below.mono b3 (unhide B2).size))
      have G1 := hide ((unhide H1).later (unhide B3))
      have G2 := hide ((unhide H2).later (unhide B3))
      have BW := hide ((unhide H5).trans (Below.mono (unhide B3) (unhide H5).size))
      clear K2 i2 iat2 b3 H1 H2 I1 B2 B3 H5
      have HLF : Hid ((As k).l.length ≤ 8) := hide ((unhide G1).team k).few
      go_wp2_with fail
      go_loopw [16] (fun iv wi => ∃ (p : Int), 0 ≤ p ∧ p ≤ 4 ∧ iv = .int .i64 p ∧ Hid (Below w3.heap.size w3 wi)) (fun iv _ => 4 - (intOf iv).toNat)
      case atStart => exact ⟨0, by decide, by decide, rfl, hide (Below.refl _ _)⟩
      case round =>
        obtain ⟨p, hp0, hp4, rfl, hb⟩ := hrel
        by_cases hp : p < 4
        · have HP := hide hp
          have HP0 := hide hp0
          have K1 := hide (off_gen p ⟨hp0, hp⟩ ((unhide G1).later (unhide hb)) (unhide HK))
          go_wp2_with fail
          refine (unhide K1).mono ?_
          rintro e w5 ⟨rfl, b5⟩
          have hb5 := (unhide hb).trans (Below.mono b5 (unhide hb).size)
          have K2 : Hid (Calls Try.prog 9 #[.pointer (some ⟨w.heap.size + 1, 0, none⟩), .int .i64 k, .int .i64 p] w5 fun e w' => e = .returned (.tuple #[.int .i64 (gaAt (As k) p), .int .i64 0]) ∧ Below w5.heap.size w5 w') := hide (by
            rw [unhide H3]
            exact off_gen p ⟨hp0, hp⟩ ((unhide G2).later hb5) (unhide HK))
          have HB5 := hide hb5
          clear b5 hb5 K1 hb
          go_wp2_with fail
          refine (unhide K2).mono ?_
          rintro e w6 ⟨rfl, b6⟩
          have HB6 := hide ((unhide HB5).trans (Below.mono b6 (unhide HB5).size))
          clear b6 K2 HB5
          generalize gaAt (As k) p = oz at *
          go_wp2
          go_roundw
          case rel => exact ⟨p + 1, (by have := unhide HP0; omega), (by have := unhide HP; omega), rfl, HB6⟩
          case measure => have := unhide HP; have := unhide HP0; simp [intOf]; omega
        · obtain rfl : p = 4 := by omega
          have KS := hide (samei_any wr a1 a2 c1 c2 _ _ ((unhide J1).later (unhide hb)) ((unhide I2).later (unhide hb)) (by have := unhide HLF; unfold maxLen; omega) (by have := unhide HLF; unfold maxLen; omega))
          have FF : Hid (∀ m, Below w.heap.size w (wr.drewN m)) := hide (fun m => below_drewN' ((unhide BW).trans (Below.mono (unhide hb) (unhide BW).size)) m)
          clear hp hp0 hp4 hb G1 G2 J1 I2 BW H3
          generalize (As k).gen = ag at *
          go_wp2_with fail
          refine (unhide KS).mono ?_
          rintro e w7 ⟨rfl, m7, rfl⟩
          have F7 := hide (unhide FF m7)
          clear KS FF
          generalize wr.drewN m7 = w7 at *
          go_wp2
          go_returns
          exact ⟨by first | rfl | (simp; done), unhide F7⟩
end Go.Proofs.Ytfbnkeflgddcmaa
