/-
  The road of GroupRecords. No conditions beyond the reading of its arguments.
-/
import Derived.Test.YtbbcbmlkbdmdfaaCrg2
import Derived.Test.YtbbcbmlkbdmdfaaGr1
import Derived.Deep.CutBlock
namespace Go.Proofs.Ytbbcbmlkbdmdfaa
open Go.RowKit
set_option linter.unusedVariables false

set_option maxHeartbeats 8000000 in
theorem groupRecords_walk {w : World} {r : Rx} {a : Option Addr} {k : Nat} (hli : IAt w a r.l) (hcr : a = none → k = 0) (hlr : r.l.length ≤ 17592186044416) (hf : RFit r) {at_ : Option Addr} {cap : Nat} {t : List Nat} (ht : LAt w at_ t) (hcap : at_ = none → cap = 0) (htc : t.length ≤ cap) (htl : t.length ≤ 140737488355328) :
    Calls Try.prog 3 #[.agg (rxA r a k), .slice at_ t.length cap] w fun e w' => e = .returned (.bool true) ∧ Below w.heap.size w w' := by
  obtain ⟨E, L, hL, hE, KD, KE⟩ := enc_both hf
  obtain ⟨ykd, ygr, ygen, yl, ypt, yoff, G, hly, KP, KR⟩ := dec_both htl
  have hlm : r.l.length ≤ maxLen := by unfold maxLen; omega
  have KB := fun (W : World) (a : Option Addr) (k : Nat) (h0 : isR r = true) => dec_enc (w := W) (a := a) (cap := k) hf h0
  obtain ⟨kd, gr, gen, l, pt, off⟩ := r
  unfold rxA at *
  simp only at KD KE hE hli hlm KB hlr ⊢
  have KO := fun W (hb : Below w.heap.size w W) => own_any (w := W) (kd := kd) (gr := gr) (gen := gen) (l := l) (pt := pt) (off := off) (hli.later hb) hcr hlr
  have B0 := hide ((Below.refl w.heap.size w).alloc (Nat.le_refl _) (.cells #[.int .i64 kd, .int .i64 gr, .int .i64 gen, .slice a l.length k, .int .i64 pt, .int .i64 off] 24))
  have X0 := hide (heap_new w (.cells #[.int .i64 kd, .int .i64 gr, .int .i64 gen, .slice a l.length k, .int .i64 pt, .int .i64 off] 24))
  have LI := hide (hli.later (unhide B0))
  have LT := hide (ht.later (unhide B0))
  have HKD := hide KD
  have HKE := hide KE
  have HKP := hide KP
  have HKR := hide KR
  have HKO := hide KO
  have HKB := hide KB
  have HE := hide hE
  have HL := hide hL
  have HLY := hide hly
  have HTC := hide htc
  have HTL := hide htl
  have HLM := hide hlm
  clear hf hcr hlr KD KE KP KR KO KB hE hL hly hli ht htc htl hlm
  go_enter Try.func3, Try.ntmps3
  go_wp2_with fail
  generalize w.alloc (.cells #[.int .i64 kd, .int .i64 gr, .int .i64 gen, .slice a l.length k, .int .i64 pt, .int .i64 off] 24) = V0 at *
  generalize hcb : w.heap.size = cb at *
  refine (unhide HKD V0 a k (unhide LI) (unhide HLM)).mono ?_
  rintro e w1 ⟨vo, rfl, r1, n1, b1⟩
  obtain ⟨wa, wc, rfl, wl, _, _, _, _⟩ := r1.parts
  have WL := hide wl
  have B1 := hide b1
  clear r1 n1 wl b1
  go_wp2_with fail
  refine (unhide HKR w1 at_ cap ((unhide LT).later (unhide B1)) hcap (unhide HTC)).mono ?_
  rintro e w2 ⟨ya, yk, rfl, i2, b2⟩
  have B2 := hide ((unhide B1).trans (b2.mono (unhide B1).size))
  have WL2 := hide ((unhide WL).later b2)
  have X7 := hide (heap_new w2 (.cells #[.int .i64 ykd, .int .i64 ygr, .int .i64 ygen, .slice ya yl.length yk, .int .i64 ypt, .int .i64 yoff] 24))
  have I7 := hide (i2.later ((Below.refl w2.heap.size w2).alloc (Nat.le_refl _) (.cells #[.int .i64 ykd, .int .i64 ygr, .int .i64 ygen, .slice ya yl.length yk, .int .i64 ypt, .int .i64 yoff] 24)))
  have B3 := hide ((unhide B2).alloc (unhide B2).size (.cells #[.int .i64 ykd, .int .i64 ygr, .int .i64 ygen, .slice ya yl.length yk, .int .i64 ypt, .int .i64 yoff] 24))
  have WL3 := hide ((unhide WL2).later ((Below.refl w2.heap.size w2).alloc (Nat.le_refl _) (.cells #[.int .i64 ykd, .int .i64 ygr, .int .i64 ygen, .slice ya yl.length yk, .int .i64 ypt, .int .i64 yoff] 24)))
  clear i2 b2 B1 WL B2 WL2
  go_wp2_with fail
  generalize w2.alloc (.cells #[.int .i64 ykd, .int .i64 ygr, .int .i64 ygen, .slice ya yl.length yk, .int .i64 ypt, .int .i64 yoff] 24) = V3 at *
  generalize w2.heap.size = c7 at *
  refine (gawake_any V3).mono ?_
  rintro e w3 ⟨rfl, b3⟩
  have B4 := hide ((unhide B3).trans (b3.mono (unhide B3).size))
  have X4 := hide (below_keep (unhide B4) (unhide X0))
  have p0 := cell_of (unhide X4) 0
  have p1 := cell_of (unhide X4) 1
  have p2 := cell_of (unhide X4) 2
  have p3 := cell_of (unhide X4) 3
  have p4 := cell_of (unhide X4) 4
  have p5 := cell_of (unhide X4) 5
  simp at p0 p1 p2 p3 p4 p5
  have WL4 := hide ((unhide WL3).later b3)
  have X74 := hide (below_keep b3 (unhide X7))
  have I74 := hide ((unhide I7).later b3)
  clear b3 B3 WL3 X7 I7
  go_wp2_with fail
  refine (unhide HKO w3 ((unhide B0).trans ((unhide B4).mono (by have := (unhide B0).size; omega)))).mono ?_
  rintro e w4 ⟨oa, ok, rfl, o1, o2, o3⟩
  obtain ⟨oa2, ok2, eo, io, _⟩ := o1.iat
  injection eo with eo1 eo2 eo3
  subst eo1 eo3
  have D5 := hide (o3.alloc o3.size (.cells #[.int .i64 kd, .int .i64 gr, .int .i64 gen, .slice oa l.length ok, .int .i64 pt, .int .i64 off] 24))
  have X9 := hide (heap_new w4 (.cells #[.int .i64 kd, .int .i64 gr, .int .i64 gen, .slice oa l.length ok, .int .i64 pt, .int .i64 off] 24))
  have IO := hide (io.later ((Below.refl w4.heap.size w4).alloc (Nat.le_refl _) (.cells #[.int .i64 kd, .int .i64 gr, .int .i64 gen, .slice oa l.length ok, .int .i64 pt, .int .i64 off] 24)))
  clear o1 o2 o3 io eo2
  clear p0 p1 p2 p3 p4 p5
  go_wp2_with fail
  generalize w4.alloc (.cells #[.int .i64 kd, .int .i64 gr, .int .i64 gen, .slice oa l.length ok, .int .i64 pt, .int .i64 off] 24) = V5 at *
  generalize w4.heap.size = c9 at *
  have g0 := cell_of (unhide X9) 0
  have g1 := cell_of (unhide X9) 1
  have g2 := cell_of (unhide X9) 2
  have g3 := cell_of (unhide X9) 3
  have g4 := cell_of (unhide X9) 4
  have g5 := cell_of (unhide X9) 5
  simp at g0 g1 g2 g3 g4 g5
  go_wp2_with fail
  refine (unhide HKE V5 oa ok (unhide IO) (unhide HLM)).mono ?_
  rintro e w6 ⟨vb, rfl, r6, n6, b6⟩
  obtain ⟨ba, bc, rfl, bl, bcc, _, bn, _⟩ := r6.parts
  have D6 := hide ((unhide D5).trans (b6.mono (unhide D5).size))
  have BL := hide bl
  have X96 := hide (below_keep b6 (unhide X9))
  have IO6 := hide ((unhide IO).later b6)
  have X46 := hide (below_keep (unhide D6) (unhide X4))
  have hlm := unhide HL
  have KS1 := hide (same_any w6 ba wa bc wc L bl ((unhide WL4).later (unhide D6)) (by omega))
  have BCC := hide bcc
  have KQ : Hid (∀ n, Calls Try.prog 10 #[.agg #[.int .i64 kd, .int .i64 gr, .int .i64 gen, .slice oa l.length ok, .int .i64 pt, .int .i64 off], .agg #[.int .i64 kd, .int .i64 gr, .int .i64 gen, .slice a l.length k, .int .i64 pt, .int .i64 off]] (w6.drewN n) fun e w' => e = .returned (.bool true) ∧ Below (w6.drewN n).heap.size (w6.drewN n) w') := hide (fun n => sameRec_any ((unhide IO6).later (below_drewN' (Below.refl _ _) n)) (((unhide LI).later ((unhide B4).trans ((unhide D6).mono (unhide B4).size))).later (below_drewN' (Below.refl _ _) n)) (unhide HLM))
  clear r6 n6 b6 bl bcc
  clear g0 g1 g2 g3 g4 g5
  have m0 := cell_of (unhide X96) 0
  have m1 := cell_of (unhide X96) 1
  have m2 := cell_of (unhide X96) 2
  have m3 := cell_of (unhide X96) 3
  have m4 := cell_of (unhide X96) 4
  have m5 := cell_of (unhide X96) 5
  simp at m0 m1 m2 m3 m4 m5
  have r0 := cell_of (unhide X46) 0
  have r1 := cell_of (unhide X46) 1
  have r2 := cell_of (unhide X46) 2
  have r3 := cell_of (unhide X46) 3
  have r4 := cell_of (unhide X46) 4
  have r5 := cell_of (unhide X46) 5
  simp at r0 r1 r2 r3 r4 r5
  go_upto_region 9 with (first
    | (go_at_call 9; refine (unhide KS1).mono ?_; rintro e wx ⟨rfl, nx, rfl⟩)
    | (go_at_call 10; refine (unhide KQ _).mono ?_; rintro e w7 ⟨rfl, b7⟩; have b67 : Below w6.heap.size w6 w7 := (below_drewN' (Below.refl w6.heap.size w6) nx).trans b7; have D7 := hide ((unhide D6).trans (b67.mono (unhide D6).size)); have BL7 := hide ((unhide BL).later b67); clear b7 b67))
  clear m0 m1 m2 m3 m4 m5 r0 r1 r2 r3 r4 r5
  by_cases hE0 : E = 0
  · subst hE0
    obtain ⟨hC, hLe⟩ := unhide HE rfl
    have KB2 := hide (fun (W : World) (a' : Option Addr) (k' : Nat) (q1 : LAt W a' L) (q2 : a' = none → k' = 0) (q3 : L.length ≤ k') => by
      have q1' := q1
      have q3' := q3
      rw [hLe] at q1' q3'
      have := unhide HKB W a' k' hC q1' q2 q3' (by rw [← hLe]; omega)
      rw [← hLe] at this
      exact this)
    clear hC hLe HKB
    go_wp2_with fail
    refine (unhide KB2 w7 ba bc (unhide BL7) bn (unhide BCC)).mono ?_
    rintro e w8 ⟨da, dk, rfl, i8, b8⟩
    have D8a := hide ((unhide D7).trans (b8.mono (unhide D7).size))
    have D8b := hide ((unhide D8a).alloc (unhide D8a).size (.cells #[.int .i64 kd, .int .i64 gr, .int .i64 gen, .slice da l.length dk, .int .i64 pt, .int .i64 off] 24))
    have XC := hide (heap_new w8 (.cells #[.int .i64 kd, .int .i64 gr, .int .i64 gen, .slice da l.length dk, .int .i64 pt, .int .i64 off] 24))
    have IC := hide (i8.later ((Below.refl w8.heap.size w8).alloc (Nat.le_refl _) (.cells #[.int .i64 kd, .int .i64 gr, .int .i64 gen, .slice da l.length dk, .int .i64 pt, .int .i64 off] 24)))
    have XB := hide (below_keep (unhide D8b) (unhide X4))
    have LIB := hide ((unhide LI).later ((unhide B4).trans ((unhide D8b).mono (unhide B4).size)))
    clear i8 b8
    go_upto_region 11 with fail
    generalize w8.alloc (.cells #[.int .i64 kd, .int .i64 gr, .int .i64 gen, .slice da l.length dk, .int .i64 pt, .int .i64 off] 24) = V8 at *
    generalize w8.heap.size = c12 at *
    have u_0 := cell_of (unhide XC) 0
    have u_1 := cell_of (unhide XC) 1
    have u_2 := cell_of (unhide XC) 2
    have u_3 := cell_of (unhide XC) 3
    have u_4 := cell_of (unhide XC) 4
    have u_5 := cell_of (unhide XC) 5
    simp at u_0 u_1 u_2 u_3 u_4 u_5
    have s_0 := cell_of (unhide XB) 0
    have s_1 := cell_of (unhide XB) 1
    have s_2 := cell_of (unhide XB) 2
    have s_3 := cell_of (unhide XB) 3
    have s_4 := cell_of (unhide XB) 4
    have s_5 := cell_of (unhide XB) 5
    simp at s_0 s_1 s_2 s_3 s_4 s_5
    have KQ8 := hide (sameRec_any (w := V8) (kd := kd) (gr := gr) (gen := gen) (pt := pt) (off := off) (k := dk) (j := k) (unhide IC) (unhide LIB) (unhide HLM))
    go_upto_region 13 with (go_at_call 10; refine (unhide KQ8).mono ?_; rintro e W8 ⟨rfl, bW8⟩; have D8 := hide ((unhide D8b).trans (bW8.mono (unhide D8b).size)); clear bW8)
    clear u_0 u_1 u_2 u_3 u_4 u_5 s_0 s_1 s_2 s_3 s_4 s_5
    have RB := hide (Row.lit W8 [] (fun x hx => by cases hx) #[] rfl (by simp))
    have DA := hide ((unhide D8).alloc (unhide D8).size (.cells #[] 5))
    have LTA := hide ((unhide LT).later ((unhide B4).trans ((unhide DA).mono (unhide B4).size)))
    have htl := unhide HTL
    go_wp2_with (at_builtin; refine wpList_row _ rfl (.tmp 66) (.tmp 67) rfl _ [] rfl (unhide RB) at_ cap t rfl (unhide LTA) hcap (by simp; omega) ?_; intro v9 w9 r9 t9 m9; simp only [List.nil_append] at r9; obtain ⟨ta, tc, et, tl, tcc, _, tn, _⟩ := r9.parts; subst et; have R9 := hide tl; have T9 := hide t9; have HCC := hide tcc; clear r9 t9 m9 tl tcc)
    have D9 : Hid (Below w3.heap.size w3 w9) := hide (below_touch (unhide DA) (unhide T9) (unhide DA).size (fun k hk => by have e1 : W8.heap.size = k := Option.some.inj hk; have := (unhide D8).size; omega))
    refine (unhide HKP w9 ta tc (unhide R9) tn (unhide HCC)).mono ?_
    rintro e wa10 ⟨za, zk, rfl, i10, b10⟩
    have D10 := hide ((unhide D9).trans (b10.mono (unhide D9).size))
    have DB := hide ((unhide D10).alloc (unhide D10).size (.cells #[.int .i64 ykd, .int .i64 ygr, .int .i64 ygen, .slice za yl.length zk, .int .i64 ypt, .int .i64 yoff] 24))
    have XF := hide (heap_new wa10 (.cells #[.int .i64 ykd, .int .i64 ygr, .int .i64 ygen, .slice za yl.length zk, .int .i64 ypt, .int .i64 yoff] 24))
    have bL := (Below.refl wa10.heap.size wa10).alloc (Nat.le_refl _) (.cells #[.int .i64 ykd, .int .i64 ygr, .int .i64 ygen, .slice za yl.length zk, .int .i64 ypt, .int .i64 yoff] 24)
    have IF := hide (i10.later bL)
    have RF := hide (((unhide R9).later b10).later bL)
    have X7F := hide (below_keep (unhide DB) (unhide X74))
    have I7F := hide ((unhide I74).later (unhide DB))
    have LTF := hide ((unhide LT).later ((unhide B4).trans ((unhide DB).mono (unhide B4).size)))
    clear i10 b10 bL
    go_upto_region 15 with fail
    generalize wa10.alloc (.cells #[.int .i64 ykd, .int .i64 ygr, .int .i64 ygen, .slice za yl.length zk, .int .i64 ypt, .int .i64 yoff] 24) = VF at *
    generalize wa10.heap.size = c15 at *
    have f0 := cell_of (unhide XF) 0
    have f1 := cell_of (unhide XF) 1
    have f2 := cell_of (unhide XF) 2
    have f3 := cell_of (unhide XF) 3
    have f4 := cell_of (unhide XF) 4
    have f5 := cell_of (unhide XF) 5
    simp at f0 f1 f2 f3 f4 f5
    have h0 := cell_of (unhide X7F) 0
    have h1 := cell_of (unhide X7F) 1
    have h2 := cell_of (unhide X7F) 2
    have h3 := cell_of (unhide X7F) 3
    have h4 := cell_of (unhide X7F) 4
    have h5 := cell_of (unhide X7F) 5
    simp at h0 h1 h2 h3 h4 h5
    have KS := hide (sameRec_any (w := VF) (kd := ykd) (gr := ygr) (gen := ygen) (pt := ypt) (off := yoff) (k := zk) (j := yk) (unhide IF) (unhide I7F) (by have := unhide HLY; unfold maxLen; omega))
    go_wp2_with (first
      | (go_at_call 10; refine (unhide KS).mono ?_; rintro e wb1 ⟨rfl, b11⟩; have KT := hide (same_any wb1 ta at_ tc cap t ((unhide RF).later b11) ((unhide LTF).later b11) (by omega)); have DF := hide ((unhide DB).trans (b11.mono (unhide DB).size)); clear b11)
      | (go_at_call 9; refine (unhide KT).mono ?_; rintro e wb2 ⟨rfl, nz, rfl⟩))
    go_returns
    have bq := (unhide B4).trans ((unhide DF).mono (unhide B4).size)
    exact ⟨rfl, by rw [hcb]; exact below_drewN' ((unhide B0).trans (bq.mono (by have := (unhide B0).size; omega))) _⟩
  · have hEb : (E == 0) = false := by simp [hE0]
    go_upto_region 13 with fail
    have RB := hide (Row.lit w7 [] (fun x hx => by cases hx) #[] rfl (by simp))
    have DA := hide ((unhide D7).alloc (unhide D7).size (.cells #[] 5))
    have LTA := hide ((unhide LT).later ((unhide B4).trans ((unhide DA).mono (unhide B4).size)))
    have htl := unhide HTL
    go_wp2_with (at_builtin; refine wpList_row _ rfl (.tmp 66) (.tmp 67) rfl _ [] rfl (unhide RB) at_ cap t rfl (unhide LTA) hcap (by simp; omega) ?_; intro v9 w9 r9 t9 m9; simp only [List.nil_append] at r9; obtain ⟨ta, tc, et, tl, tcc, _, tn, _⟩ := r9.parts; subst et; have R9 := hide tl; have T9 := hide t9; have HCC := hide tcc; clear r9 t9 m9 tl tcc)
    have D9 : Hid (Below w3.heap.size w3 w9) := hide (below_touch (unhide DA) (unhide T9) (unhide DA).size (fun k hk => by have e1 : w7.heap.size = k := Option.some.inj hk; have := (unhide D7).size; omega))
    refine (unhide HKP w9 ta tc (unhide R9) tn (unhide HCC)).mono ?_
    rintro e wa10 ⟨za, zk, rfl, i10, b10⟩
    have D10 := hide ((unhide D9).trans (b10.mono (unhide D9).size))
    have DB := hide ((unhide D10).alloc (unhide D10).size (.cells #[.int .i64 ykd, .int .i64 ygr, .int .i64 ygen, .slice za yl.length zk, .int .i64 ypt, .int .i64 yoff] 24))
    have XF := hide (heap_new wa10 (.cells #[.int .i64 ykd, .int .i64 ygr, .int .i64 ygen, .slice za yl.length zk, .int .i64 ypt, .int .i64 yoff] 24))
    have bL := (Below.refl wa10.heap.size wa10).alloc (Nat.le_refl _) (.cells #[.int .i64 ykd, .int .i64 ygr, .int .i64 ygen, .slice za yl.length zk, .int .i64 ypt, .int .i64 yoff] 24)
    have IF := hide (i10.later bL)
    have RF := hide (((unhide R9).later b10).later bL)
    have X7F := hide (below_keep (unhide DB) (unhide X74))
    have I7F := hide ((unhide I74).later (unhide DB))
    have LTF := hide ((unhide LT).later ((unhide B4).trans ((unhide DB).mono (unhide B4).size)))
    clear i10 b10 bL
    go_upto_region 15 with fail
    generalize wa10.alloc (.cells #[.int .i64 ykd, .int .i64 ygr, .int .i64 ygen, .slice za yl.length zk, .int .i64 ypt, .int .i64 yoff] 24) = VF at *
    generalize wa10.heap.size = c15 at *
    have f0 := cell_of (unhide XF) 0
    have f1 := cell_of (unhide XF) 1
    have f2 := cell_of (unhide XF) 2
    have f3 := cell_of (unhide XF) 3
    have f4 := cell_of (unhide XF) 4
    have f5 := cell_of (unhide XF) 5
    simp at f0 f1 f2 f3 f4 f5
    have h0 := cell_of (unhide X7F) 0
    have h1 := cell_of (unhide X7F) 1
    have h2 := cell_of (unhide X7F) 2
    have h3 := cell_of (unhide X7F) 3
    have h4 := cell_of (unhide X7F) 4
    have h5 := cell_of (unhide X7F) 5
    simp at h0 h1 h2 h3 h4 h5
    have KS := hide (sameRec_any (w := VF) (kd := ykd) (gr := ygr) (gen := ygen) (pt := ypt) (off := yoff) (k := zk) (j := yk) (unhide IF) (unhide I7F) (by have := unhide HLY; unfold maxLen; omega))
    go_wp2_with (first
      | (go_at_call 10; refine (unhide KS).mono ?_; rintro e wb1 ⟨rfl, b11⟩; have KT := hide (same_any wb1 ta at_ tc cap t ((unhide RF).later b11) ((unhide LTF).later b11) (by omega)); have DF := hide ((unhide DB).trans (b11.mono (unhide DB).size)); clear b11)
      | (go_at_call 9; refine (unhide KT).mono ?_; rintro e wb2 ⟨rfl, nz, rfl⟩))
    go_returns
    have bq := (unhide B4).trans ((unhide DF).mono (unhide B4).size)
    exact ⟨rfl, by rw [hcb]; exact below_drewN' ((unhide B0).trans (bq.mono (by have := (unhide B0).size; omega))) _⟩
end Go.Proofs.Ytbbcbmlkbdmdfaa
