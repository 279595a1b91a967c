/-
  penstockref17.DocEncode of a message of kind 1 (raft). Conditions: the message as it lies, its lists and pieces at most 2^20 long.
-/
import Derived.Test.YtblmondkdcpkaaaZ35
import Derived.Deep.CutBlock
import Derived.Deep.RegionHeld3

namespace Go.Proofs.Ytblmondkdcpkaaa
open Go.RowKit
set_option linter.unusedVariables false

set_option maxRecDepth 100000 in
set_option maxHeartbeats 32000000 in
theorem dk_raft {w : World} {m : Mg} {s0 s1 s2 s3 s4 s5 : Dv} (hm : MgIn w m) (hs : MgS m) (hk : m.kd = 1) (e0 : dX (⟨[], 0, 0⟩ : Dv) (encL [m.kd, m.fr, m.tt, m.co, m.er]) = s0) (e1 : dX s0 (encL [m.r1, m.r2, m.r3, m.r4, m.r5, m.r6, m.r7]) = s1) (e2 : dX s1 ([m.rj.toNat]) = s2) (e3 : dC s2 m.en.length = s3) (e4 : m.en.foldl stepDE s3 = s4) (e5 : dB s4 m.sn = s5) :
    Calls Try.prog 9 #[.agg (mgL m).toArray] w fun e w' => DEP w s5 e w' := by
  have HB1 := hide ((Below.refl w.heap.size w).alloc (Nat.le_refl _) (.cells (mgL m).toArray 41))
  have HH1 := hide (heap_new w (.cells (mgL m).toArray 41))
  have HZ1 : Hid ((w.alloc (.cells (mgL m).toArray 41)).heap.size = w.heap.size + 1) := hide (by simp)
  have HMI := hide hm
  have HS := hide hs
  have HKD := hide hk
  have E0 := hide e0
  have E1 := hide e1
  have E2 := hide e2
  have E3 := hide e3
  have E4 := hide e4
  have E5 := hide e5
  have g1 : ¬ m.kd < 1 := by have := hk; omega
  have g2 : ¬ 15 < m.kd := by have := hk; omega
  have k1 : (m.kd == 1) = true := by have := hk; exact beq_iff_eq.2 (by omega)
  clear hm hs hk e0 e1 e2 e3 e4 e5
  go_enter Try.func9, Try.ntmps9
  go_upto_region 1 with fail
  change Code.wp _ _ _ _ (w.alloc (.cells (mgL m).toArray 41))
  generalize w.alloc (.cells (mgL m).toArray 41) = W1 at *
  have ym0 : W1.cell? ⟨w.heap.size, 0, none⟩ = some (.int .i64 m.kd) := cell_of (unhide HH1) 0
  go_upto_region 4 with fail
  have F := hide (dk_start (unhide HB1) (unhide HZ1) (unhide HH1))
  clear ym0 HB1 HH1 HZ1
  change Code.wp _ _ _ _ (W1.alloc (.cells #[.slice none 0 0, .int .i64 0, .int .i64 0] 60))
  generalize W1.alloc (.cells #[.slice none 0 0, .int .i64 0, .int .i64 0] 60) = w2 at *
  generalize (fun k => k < W1.heap.size) = N at F
  generalize W1.heap.size = b at *
  have HFF := hide ((unhide HMI).hd)
  have ym0 : w2.cell? ⟨w.heap.size, 0, none⟩ = some (.int .i64 m.kd) := cell_of (unhide F).at0 0
  have ym1 : w2.cell? ⟨w.heap.size, 1, none⟩ = some (.int .i64 m.fr) := cell_of (unhide F).at0 1
  have ym2 : w2.cell? ⟨w.heap.size, 2, none⟩ = some (.int .i64 m.tt) := cell_of (unhide F).at0 2
  have ym3 : w2.cell? ⟨w.heap.size, 3, none⟩ = some (.int .i64 m.co) := cell_of (unhide F).at0 3
  have ym4 : w2.cell? ⟨w.heap.size, 4, none⟩ = some (.int .i64 m.er) := cell_of (unhide F).at0 4
  have KK := dints_lit [m.kd, m.fr, m.tt, m.co, m.er] (vs := #[.int .i64 m.kd, .int .i64 m.fr, .int .i64 m.tt, .int .i64 m.co, .int .i64 m.er]) rfl (unhide F).q (unhide HFF) (by simp only [List.length_cons, List.length_nil]; omega)
  rw [unhide E0] at KK
  have HK := hide KK
  clear KK
  have l0 := encI_len (unhide E0) (unhide HFF)
  simp only [List.length_cons, List.length_nil] at l0
  go_wp2_with fail
  refine (unhide HK).mono ?_
  rintro e v1 ⟨rfl, q, t⟩
  have F' := hide ((unhide F).step q t)
  clear q t HK F ym0 ym1 ym2 ym3 ym4 HFF
  have F := F'
  clear F'
  have ym0 : v1.cell? ⟨w.heap.size, 0, none⟩ = some (.int .i64 m.kd) := cell_of (unhide F).at0 0
  obtain ⟨CB, hCB⟩ : ∃ CB : List Value, CB = [.int .i64 m.r1, .int .i64 m.r2, .int .i64 m.r3, .int .i64 m.r4, .int .i64 m.r5, .int .i64 m.r6, .int .i64 m.r7, .bool m.rj, .slice m.ea m.en.length m.ec, .slice m.sa m.sn.length m.sc] := ⟨_, rfl⟩
  have HCB := hide hCB
  have HPA := hide (part_at (m := m) (o := 5) (n := 10) (L := CB) (by rw [hCB]; rfl))
  have HSZ : Hid (CB.length = 10) := hide (by rw [hCB]; rfl)
  have HI1 : Hid ((Try.prog.info? 26).map (·.size) = some CB.length) := hide (by rw [hCB]; kernel_rfl)
  have HCL : Hid (CB.toArray.all (·.oneCell') = true) := hide (by rw [hCB]; kernel_rfl)
  have HRG := hide (range_of (o := 5) (ds := CB) (unhide F).at0 (unhide HPA))
  clear hCB HPA
  go_upto_region 22 with (first
    | (with_reducible (show wpList _ _ _ (Oper.mk _ (Op.load _ _) _ _ _ _ :: _) _ _); refine wpList_load_mid rfl 26 (.tmp 148) rfl w.heap.size 5 rfl CB _ (unhide HRG) Try.underlying26 rfl (unhide HI1) ?_)
    | (with_reducible (show wpList _ _ _ (Oper.mk _ (Op.store _ _ _) _ _ _ _ :: _) _ _); refine store_box 26 rfl (.tmp 5) (.tmp 149) rfl v1.heap.size CB rfl rfl (heap_new v1 _) (by rw [unhide HSZ]; decide) (unhide HI1) (unhide HCL) ?_; intro wx hx tx; have BX := hide (below_touch ((Below.refl v1.heap.size v1).alloc (Nat.le_refl _) _) tx (by simp) (fun k hk => by omega)); have F' := hide (((unhide F).grow (unhide BX)).more (k := v1.heap.size) (Gr.fresh (Nat.le_refl _) (lt_of_heap hx)) hx); clear hx tx))
  clear F HRG BX HSZ HI1 HCL
  have F := F'
  clear F'
  generalize Gr N v1 wx = N2 at F
  generalize v1.heap.size = xb at *
  clear ym0
  have HFF := hide ((unhide HMI).rf)
  have yx0 : wx.cell? ⟨xb, 0, none⟩ = some (.int .i64 m.r1) := by
    have h := cell_of (unhide F).at0 0
    rw [unhide HCB] at h
    exact h
  have yx1 : wx.cell? ⟨xb, 1, none⟩ = some (.int .i64 m.r2) := by
    have h := cell_of (unhide F).at0 1
    rw [unhide HCB] at h
    exact h
  have yx2 : wx.cell? ⟨xb, 2, none⟩ = some (.int .i64 m.r3) := by
    have h := cell_of (unhide F).at0 2
    rw [unhide HCB] at h
    exact h
  have yx3 : wx.cell? ⟨xb, 3, none⟩ = some (.int .i64 m.r4) := by
    have h := cell_of (unhide F).at0 3
    rw [unhide HCB] at h
    exact h
  have yx4 : wx.cell? ⟨xb, 4, none⟩ = some (.int .i64 m.r5) := by
    have h := cell_of (unhide F).at0 4
    rw [unhide HCB] at h
    exact h
  have yx5 : wx.cell? ⟨xb, 5, none⟩ = some (.int .i64 m.r6) := by
    have h := cell_of (unhide F).at0 5
    rw [unhide HCB] at h
    exact h
  have yx6 : wx.cell? ⟨xb, 6, none⟩ = some (.int .i64 m.r7) := by
    have h := cell_of (unhide F).at0 6
    rw [unhide HCB] at h
    exact h
  have KK := dints_lit [m.r1, m.r2, m.r3, m.r4, m.r5, m.r6, m.r7] (vs := #[.int .i64 m.r1, .int .i64 m.r2, .int .i64 m.r3, .int .i64 m.r4, .int .i64 m.r5, .int .i64 m.r6, .int .i64 m.r7]) rfl (unhide F).q (unhide HFF) (by simp only [List.length_cons, List.length_nil]; omega)
  rw [unhide E1] at KK
  have HK := hide KK
  clear KK
  have l1 := encI_len (unhide E1) (unhide HFF)
  simp only [List.length_cons, List.length_nil] at l1
  go_wp2_with fail
  refine (unhide HK).mono ?_
  rintro e v2 ⟨rfl, q, t⟩
  have F' := hide ((unhide F).step q t)
  clear q t HK F yx0 yx1 yx2 yx3 yx4 yx5 yx6 HFF
  have F := F'
  clear F'
  go_upto_region 23 with fail
  go_cut [] from 167 (fun wx => Hid (Dk w N2 b [(xb, Obj.cells CB.toArray 26), (w.heap.size, Obj.cells (mgL m).toArray 41)] wx s2))
  case first =>
    have yx7 : v2.cell? ⟨xb, 7, none⟩ = some (.bool m.rj) := by
      have h := cell_of (unhide F).at0 7
      rw [unhide HCB] at h
      exact h
    have KU1 : Hid (∀ W, Below v2.heap.size v2 W → Calls Try.prog 19 #[.bool m.rj] W fun e w' => ∃ v, e = .returned v ∧ Fresh W w' v ([m.rj.toNat])) := hide (fun W hW => eflag_any m.rj W)
    have l10 : ([m.rj.toNat]).length ≤ 10 := by simp
    have EK := hide (unhide E2)
    have q1 := (unhide F).q
    generalize [m.rj.toNat] = X at EK KU1 l10
    obtain ⟨v, g1, g2, g3⟩ := q1.out
    obtain ⟨a1, m1, c1, rfl⟩ := g2.shape
    have yb : v2.cell? ⟨b, 0, none⟩ = some (.slice a1 m1 c1) := cell_of g1 0
    have hbl := q1.lt
    have Q1 := hide q1
    have G1 := hide g1
    have G2 := hide g2
    have G3 := hide g3
    clear q1 g1 g2 g3
    go_wp2_with fail
    go_region_law (first
      | (go_simp; go_at_call 19; refine (unhide KU1 _ (by first | exact Below.refl _ _ | exact Below.drew (Below.refl _ _))).mono ?_; rintro e w2 ⟨v2, rfl, f2⟩; obtain ⟨a2, c2, rfl, q2, _, _, z2, _⟩ := f2.1.parts; have B2 : Hid (Below v2.heap.size v2 w2) := hide (by first | exact f2.2.2 | exact (Below.drew (Below.refl v2.heap.size v2)).trans (f2.2.2.mono (Nat.le_refl _))); have y2 : w2.cell? ⟨b, 0, none⟩ = some (.slice a1 m1 c1) := ((unhide B2).cell (p := ⟨b, 0, none⟩) hbl).trans yb; have Q2 := hide q2; clear f2 q2)
      | (refine step_row rfl (.tmp 171) (.tmp 174) rfl (.slice a1 m1 c1) s1.l (by rfl) (((unhide G2).later (unhide B2)).later (by first | exact Below.refl _ _ | exact Below.drew (Below.refl _ _))) a2 c2 X (by rfl) ((unhide Q2).later (by first | exact Below.refl _ _ | exact Below.drew (Below.refl _ _))) z2 (by omega) ?_; intro v3 w3 r3 t3 m3; obtain ⟨a3, n3, c3, rfl⟩ := r3.shape; have FA := hide ((unhide Q1).app (unhide G1) (unhide G3) (by first | exact unhide B2 | exact (unhide B2).trans ((Below.drew (Below.refl _ _)).mono (unhide B2).size)) r3 t3 m3); have h3 := t3.keep (below_keep (by first | exact Below.refl _ _ | exact Below.drew (Below.refl _ _)) (below_keep (unhide B2) (unhide G1))) (fun e => ((unhide G3) b e).2 rfl); have y3 : w3.cell? ⟨b, 0, none⟩ = some (.slice a1 m1 c1) := cell_of h3 0; have z3 := frozen_of h3 0; clear r3 t3 m3 h3))
    all_goals
      have FF : Hid (Dk w N2 b [(xb, Obj.cells CB.toArray 26), (w.heap.size, Obj.cells (mgL m).toArray 41)] (w3.setCell ⟨b, 0, none⟩ (.slice a3 n3 c3)) s2) := hide (by rw [← unhide EK]; exact (unhide F).step (unhide FA).1 (unhide FA).2)
      clear FA B2 y2 Q2 z2
      go_wp2_with fail
      go_meet
      exact FF
  case rest =>
    clear F
    have F := hcut
    clear hcut
    have l10' : ([m.rj.toNat]).length ≤ 10 := by simp
    have l2 : s2.l.length ≤ s1.l.length + ([m.rj.toNat]).length := by rw [← unhide E2, dX_l, List.length_append]; omega
    have HEN := hide (unhide HS).en
    have hen := (unhide HEN).1
    have yx8 : wc.cell? ⟨xb, 8, none⟩ = some (.slice m.ea m.en.length m.ec) := by
      have h := cell_of (unhide F).at0 8
      rw [unhide HCB] at h
      exact h
    have KK := count_d m.en.length (unhide F).q (by skip; omega) (by omega)
    rw [unhide E3] at KK
    have HK := hide KK
    clear KK
    have l3 : s3.l.length ≤ s2.l.length + 10 := by
      rw [← unhide E3]
      unfold dC
      rw [dX_l, dN_l, List.length_append]
      have := enc_len10 (n := m.en.length) (by skip; omega)
      omega
    go_wp2_with fail
    refine (unhide HK).mono ?_
    rintro e v3 ⟨rfl, q, t⟩
    have F' := hide ((unhide F).step q t)
    clear q t HK F yx8 
    have F := F'
    clear F'
    go_wp2_with fail
    go_loopw [6] (fun i wr => ∃ k : Nat, k ≤ m.en.length ∧ i = .int .i64 k ∧ Hid (Dk w N2 b [(xb, Obj.cells CB.toArray 26), (w.heap.size, Obj.cells (mgL m).toArray 41)] wr ((m.en.take k).foldl stepDE s3))) (fun i _ => m.en.length - (intOf i).toNat)
    case atStart => exact ⟨0, Nat.zero_le _, rfl, F⟩
    case round =>
      clear F
      obtain ⟨k, hk, rfl, F⟩ := hrel
      by_cases hc : k < m.en.length
      · skip
        obtain ⟨o, ho⟩ : ∃ o, m.en[k] = o := ⟨_, rfl⟩
        have HO := hide (unhide HMI |>.ein o (by rw [← ho]; exact List.getElem_mem hc))
        have HOD := hide ((unhide HEN).2 o (by rw [← ho]; exact List.getElem_mem hc))
        have HHO := hide ho
        have HC := hide hc
        obtain ⟨gb, off, ea, c0, c1⟩ := (unhide HMI).en.atEn (unhide F).q.base hc ho
        have HEA := hide ea
        have yx8 : wr.cell? ⟨xb, 8, none⟩ = some (.slice (some ⟨gb, off, none⟩) m.en.length m.ec) := by
          have h := cell_of (unhide F).at0 8
          rw [unhide HCB] at h
          rw [← unhide HEA]
          exact h
        have HD := hide (foldDE_take hc ho s3)
        have hfl := foldDE_len (m.en.take k) s3 (fun x hx => (unhide HMI).ein x (List.mem_of_mem_take hx)) (fun x hx => (unhide HEN).2 x (List.mem_of_mem_take hx))
        rw [List.length_take] at hfl
        have hfl2 : ((m.en.take k).foldl stepDE s3).l.length ≤ 8796093022208 := by omega
        have hc' : (k : Int) < (m.en.length : Int) := by omega
        generalize (m.en.take k).foldl stepDE s3 = S at *
        have K1 := hide (dints_lit [o.t] (vs := #[.int .i64 o.t]) rfl (unhide F).q (by intro x hx; rw [List.mem_singleton] at hx; subst hx; exact (unhide HO).2.2) (by simp only [List.length_cons, List.length_nil]; omega))
        have hs1 := encI_len (s := S) (ls := [o.t]) rfl (by intro x hx; rw [List.mem_singleton] at hx; subst hx; exact (unhide HO).2.2)
        simp only [List.length_cons, List.length_nil] at hs1
        clear hfl ea
        go_wp2_with fail
        refine (unhide K1).mono ?_
        rintro e u1 ⟨rfl, q, t⟩
        have F' := hide ((unhide F).step q t)
        clear q t K1 F yx8 c0 c1
        have F := F'
        clear F'
        obtain ⟨gb', off', ea', c0, c1⟩ := (unhide HMI).en.atEn (unhide F).q.base (unhide HC) (unhide HHO)
        rw [unhide HEA] at ea'
        obtain ⟨rfl, rfl⟩ : gb = gb' ∧ off = off' := by cases ea'; exact ⟨rfl, rfl⟩
        have yx8 : u1.cell? ⟨xb, 8, none⟩ = some (.slice (some ⟨gb, off, none⟩) m.en.length m.ec) := by
          have h := cell_of (unhide F).at0 8
          rw [unhide HCB] at h
          rw [← unhide HEA]
          exact h
        have K2 := hide (bytes_d o.a o.c o.d (unhide F).q ((unhide F).q.lat (unhide HO).1) (unhide HO).2.1 ((unhide F).q.far (unhide HO).1) (by have := unhide HOD; omega) (by omega))
        clear ea'
        go_wp2_with fail
        refine (unhide K2).mono ?_
        rintro e u2 ⟨rfl, q, t⟩
        have FF : Hid (Dk w N2 b [(xb, Obj.cells CB.toArray 26), (w.heap.size, Obj.cells (mgL m).toArray 41)] u2 ((m.en.take (k + 1)).foldl stepDE s3)) := hide (by rw [unhide HD]; exact (unhide F).step q t)
        clear q t K2 F yx8 c0 c1 HD HHO HC
        go_wp2
        go_roundw
        case rel => exact ⟨k + 1, by omega, by go_num, FF⟩
        case measure => simp [intOf]; omega
      · skip
        obtain rfl : k = m.en.length := by omega
        have F' : Hid (Dk w N2 b [(xb, Obj.cells CB.toArray 26), (w.heap.size, Obj.cells (mgL m).toArray 41)] wr s4) := hide (by rw [← unhide E4]; have := unhide F; rw [List.take_length] at this; exact this)
        clear F
        have F := F'
        clear F'
        have l4 : s4.l.length ≤ s3.l.length + 1048600 * m.en.length := by
          rw [← unhide E4]
          exact foldDE_len _ _ (unhide HMI).ein (unhide HEN).2
        have hcq : ¬ ((m.en.length : Int) < (m.en.length : Int)) := by omega
        have yx8 : wr.cell? ⟨xb, 8, none⟩ = some (.slice m.ea m.en.length m.ec) := by
          have h := cell_of (unhide F).at0 8
          rw [unhide HCB] at h
          exact h
        have yx9 : wr.cell? ⟨xb, 9, none⟩ = some (.slice m.sa m.sn.length m.sc) := by
          have h := cell_of (unhide F).at0 9
          rw [unhide HCB] at h
          exact h
        have KK := bytes_d m.sa m.sc m.sn (unhide F).q ((unhide F).q.lat ((unhide HMI).sn)) ((unhide HMI).sc) ((unhide F).q.far ((unhide HMI).sn)) (by have := (unhide HS).sn; omega) (by omega)
        rw [unhide E5] at KK
        have HK := hide KK
        clear KK
        have l5 : s5.l.length ≤ s4.l.length + m.sn.length + 10 := by rw [← unhide E5]; exact dB_len _ _ (by have := (unhide HS).sn; omega)
        go_wp2_with fail
        refine (unhide HK).mono ?_
        rintro e v4 ⟨rfl, q, t⟩
        have F' := hide ((unhide F).step q t)
        clear q t HK F yx8 yx9 
        have F := F'
        clear F'
        obtain ⟨v, hv, ⟨va, vn, vc, rfl⟩, D1, D2, D3⟩ := (unhide F).done
        have z0 : v4.cell? ⟨b, 0, none⟩ = some (.slice va vn vc) := cell_of hv 0
        have z1 : v4.cell? ⟨b, 1, none⟩ = some (.int .i64 s5.e) := cell_of hv 1
        have z2 : v4.cell? ⟨b, 2, none⟩ = some (.int .i64 s5.g) := cell_of hv 2
        have DD1 := hide D1
        have DD2 := hide D2
        have DD3 := hide D3
        clear hv F D1 D2 D3
        by_cases c1 : s5.e = 0
        · by_cases c2 : s5.g = 0
          · have FF := hide (unhide DD3 c1 c2)
            have q1 : (s5.e == 0) = true := by rw [c1]; rfl
            have q2 : (s5.g == 0) = true := by rw [c2]; rfl
            clear c1 c2 DD1 DD2 DD3
            go_wp2
            go_returns
            exact unhide FF
          · have FF := hide (unhide DD2 c1 c2)
            have q1 : (s5.e == 0) = true := by rw [c1]; rfl
            have q2 : (s5.g == 0) = false := beq_eq_false_iff_ne.2 c2
            clear c1 c2 DD1 DD2 DD3
            go_wp2_with fail
            go_quiet (fail)
            go_wp2
            go_returns
            exact unhide FF _ (by first | exact Below.refl _ _ | exact Below.drew (Below.refl _ _) | exact below_drewN' (Below.refl _ _) _)
        · have FF := hide (unhide DD1 c1)
          have q1 : (s5.e == 0) = false := beq_eq_false_iff_ne.2 c1
          clear c1 DD1 DD2 DD3
          go_wp2_with fail
          go_quiet (fail)
          go_wp2
          go_returns
          exact unhide FF _ (by first | exact Below.refl _ _ | exact Below.drew (Below.refl _ _) | exact below_drewN' (Below.refl _ _) _)
end Go.Proofs.Ytblmondkdcpkaaa
