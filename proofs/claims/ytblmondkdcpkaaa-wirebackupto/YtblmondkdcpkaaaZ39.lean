/-
  penstockref17.DocEncode of a message of kind 5 to 15 (others), few members. Conditions: the message as it lies, its lists and pieces at most 2^20 long.
-/
import Derived.Test.YtblmondkdcpkaaaZ45
import Derived.Deep.CutBlock
import Derived.Deep.RegionHeld3

namespace Go.Proofs.Ytblmondkdcpkaaa
open Go.RowKit
set_option linter.unusedVariables false

set_option maxRecDepth 100000 in
set_option maxHeartbeats 32000000 in
theorem dk_others_few {w : World} {m : Mg} {s0 s1 s2 s3 s4 s5 s6 s7 s8 : Dv} (hm : MgIn w m) (hs : MgS m) (hk : (4 < m.kd ∧ m.kd ≤ 15) ∧ ¬ 512 < m.ms.length) (e0 : dX (⟨[], 0, 0⟩ : Dv) (encL [m.kd, m.fr, m.tt, m.co, m.er]) = s0) (e1 : dX s0 (encL [m.o1, m.o2, m.o3, m.o4, m.o5, m.o6, m.o7, m.o8, m.o9]) = s1) (e2 : dX s1 (enc m.pid) = s2) (e3 : dX s2 ([m.cm.toNat]) = s3) (e4 : dX s3 (enc m.ms.length ++ encL m.ms) = s4) (e5 : dBa s4 m.B = s5) (e6 : m.bs.foldl stepD (dC s5 m.bs.length) = s6) (e7 : dC s6 m.ab.length = s7) (e8 : m.ab.foldl stepDA s7 = s8) :
    Calls Try.prog 9 #[.agg (mgL m).toArray] w fun e w' => DEP w s8 e w' := by
  have HB1 := hide ((Below.refl w.heap.size w).alloc (Nat.le_refl _) (.cells (mgL m).toArray 41))
  have HH1 := hide (heap_new w (.cells (mgL m).toArray 41))
  have HZ1 : Hid ((w.alloc (.cells (mgL m).toArray 41)).heap.size = w.heap.size + 1) := hide (by simp)
  have HMI := hide hm
  have HS := hide hs
  have HKD := hide hk
  have E0 := hide e0
  have E1 := hide e1
  have E2 := hide e2
  have E3 := hide e3
  have E4 := hide e4
  have E5 := hide e5
  have E6 := hide e6
  have E7 := hide e7
  have E8 := hide e8
  have g1 : ¬ m.kd < 1 := by have := hk; omega
  have g2 : ¬ 15 < m.kd := by have := hk; omega
  have k1 : (m.kd == 1) = false := by have := hk; exact beq_eq_false_iff_ne.2 (by omega)
  have k2 : (m.kd == 2) = false := by have := hk; exact beq_eq_false_iff_ne.2 (by omega)
  have k3 : (m.kd == 3) = false := by have := hk; exact beq_eq_false_iff_ne.2 (by omega)
  have k4 : (m.kd == 4) = false := by have := hk; exact beq_eq_false_iff_ne.2 (by omega)
  have gms : ¬ (512 : Int) < (m.ms.length : Int) := by have := hk; omega
  clear hm hs hk e0 e1 e2 e3 e4 e5 e6 e7 e8
  go_enter Try.func9, Try.ntmps9
  go_upto_region 1 with fail
  change Code.wp _ _ _ _ (w.alloc (.cells (mgL m).toArray 41))
  generalize w.alloc (.cells (mgL m).toArray 41) = W1 at *
  have ym0 : W1.cell? ⟨w.heap.size, 0, none⟩ = some (.int .i64 m.kd) := cell_of (unhide HH1) 0
  go_upto_region 4 with fail
  have F := hide (dk_start (unhide HB1) (unhide HZ1) (unhide HH1))
  clear ym0 HB1 HH1 HZ1
  change Code.wp _ _ _ _ (W1.alloc (.cells #[.slice none 0 0, .int .i64 0, .int .i64 0] 60))
  generalize W1.alloc (.cells #[.slice none 0 0, .int .i64 0, .int .i64 0] 60) = w2 at *
  generalize (fun k => k < W1.heap.size) = N at F
  generalize W1.heap.size = b at *
  have HFF := hide ((unhide HMI).hd)
  have ym0 : w2.cell? ⟨w.heap.size, 0, none⟩ = some (.int .i64 m.kd) := cell_of (unhide F).at0 0
  have ym1 : w2.cell? ⟨w.heap.size, 1, none⟩ = some (.int .i64 m.fr) := cell_of (unhide F).at0 1
  have ym2 : w2.cell? ⟨w.heap.size, 2, none⟩ = some (.int .i64 m.tt) := cell_of (unhide F).at0 2
  have ym3 : w2.cell? ⟨w.heap.size, 3, none⟩ = some (.int .i64 m.co) := cell_of (unhide F).at0 3
  have ym4 : w2.cell? ⟨w.heap.size, 4, none⟩ = some (.int .i64 m.er) := cell_of (unhide F).at0 4
  have KK := dints_lit [m.kd, m.fr, m.tt, m.co, m.er] (vs := #[.int .i64 m.kd, .int .i64 m.fr, .int .i64 m.tt, .int .i64 m.co, .int .i64 m.er]) rfl (unhide F).q (unhide HFF) (by simp only [List.length_cons, List.length_nil]; omega)
  rw [unhide E0] at KK
  have HK := hide KK
  clear KK
  have l0 := encI_len (unhide E0) (unhide HFF)
  simp only [List.length_cons, List.length_nil] at l0
  go_wp2_with fail
  refine (unhide HK).mono ?_
  rintro e v1 ⟨rfl, q, t⟩
  have F' := hide ((unhide F).step q t)
  clear q t HK F ym0 ym1 ym2 ym3 ym4 HFF
  have F := F'
  clear F'
  have ym0 : v1.cell? ⟨w.heap.size, 0, none⟩ = some (.int .i64 m.kd) := cell_of (unhide F).at0 0
  clear ym0
  have ym0 : v1.cell? ⟨w.heap.size, 0, none⟩ = some (.int .i64 m.kd) := cell_of (unhide F).at0 0
  have HFF := hide ((unhide HMI).ot)
  have ym45 : v1.cell? ⟨w.heap.size, 45, none⟩ = some (.int .i64 m.o1) := cell_of (unhide F).at0 45
  have ym46 : v1.cell? ⟨w.heap.size, 46, none⟩ = some (.int .i64 m.o2) := cell_of (unhide F).at0 46
  have ym47 : v1.cell? ⟨w.heap.size, 47, none⟩ = some (.int .i64 m.o3) := cell_of (unhide F).at0 47
  have ym48 : v1.cell? ⟨w.heap.size, 48, none⟩ = some (.int .i64 m.o4) := cell_of (unhide F).at0 48
  have ym50 : v1.cell? ⟨w.heap.size, 50, none⟩ = some (.int .i64 m.o5) := cell_of (unhide F).at0 50
  have ym52 : v1.cell? ⟨w.heap.size, 52, none⟩ = some (.int .i64 m.o6) := cell_of (unhide F).at0 52
  have ym53 : v1.cell? ⟨w.heap.size, 53, none⟩ = some (.int .i64 m.o7) := cell_of (unhide F).at0 53
  have ym54 : v1.cell? ⟨w.heap.size, 54, none⟩ = some (.int .i64 m.o8) := cell_of (unhide F).at0 54
  have ym58 : v1.cell? ⟨w.heap.size, 58, none⟩ = some (.int .i64 m.o9) := cell_of (unhide F).at0 58
  have KK := dints_lit [m.o1, m.o2, m.o3, m.o4, m.o5, m.o6, m.o7, m.o8, m.o9] (vs := #[.int .i64 m.o1, .int .i64 m.o2, .int .i64 m.o3, .int .i64 m.o4, .int .i64 m.o5, .int .i64 m.o6, .int .i64 m.o7, .int .i64 m.o8, .int .i64 m.o9]) rfl (unhide F).q (unhide HFF) (by simp only [List.length_cons, List.length_nil]; omega)
  rw [unhide E1] at KK
  have HK := hide KK
  clear KK
  have l1 := encI_len (unhide E1) (unhide HFF)
  simp only [List.length_cons, List.length_nil] at l1
  go_wp2_with fail
  refine (unhide HK).mono ?_
  rintro e v2 ⟨rfl, q, t⟩
  have F' := hide ((unhide F).step q t)
  clear q t HK F ym45 ym46 ym47 ym48 ym50 ym52 ym53 ym54 ym58 HFF
  have F := F'
  clear F'
  clear ym0
  go_upto_region 7 with fail
  refine dk_r7 F HMI (by omega) E2 ?_
  intro u57 u58 u59 u60 u61 u62 u63 u64 u65 u66 u67 wc F'
  clear F
  have F := F'
  clear F'
  have l10' := enc_len10 (unhide HMI).pid
  have l2 : s2.l.length ≤ s1.l.length + (enc m.pid).length := by rw [← unhide E2, dX_l, List.length_append]; omega
  go_upto_region 8 with fail
  refine dk_r8 F HMI (by omega) E3 ?_
  intro u68 u69 u70 u71 u72 u73 u74 u75 u76 u77 u78 wc F'
  clear F
  have F := F'
  clear F'
  have l10' : ([m.cm.toNat]).length ≤ 10 := by simp
  have l3 : s3.l.length ≤ s2.l.length + ([m.cm.toNat]).length := by rw [← unhide E3, dX_l, List.length_append]; omega
  have ym55 : wc.cell? ⟨w.heap.size, 55, none⟩ = some (.slice m.ma m.ms.length m.mc) := cell_of (unhide F).at0 55
  have hmz : m.ms.length ≤ 1048576 := (unhide HS).ms
  go_upto_region 11 with fail
  refine dk_r11 F HMI (by omega) hmz E4 ?_
  intro u85 u86 u87 u88 u89 u90 u91 u92 u93 u94 u95 wc F'
  clear F
  have F := F'
  clear F'
  have l10' : (enc m.ms.length ++ encL m.ms).length ≤ 10485780 := by
    have h1 := encL_len m.ms (unhide HMI).msf
    have h2 := enc_len10 (n := m.ms.length) (by omega)
    rw [List.length_append]
    omega
  have l4 : s4.l.length ≤ s3.l.length + (enc m.ms.length ++ encL m.ms).length := by rw [← unhide E4, dX_l, List.length_append]; omega
  have HMB := hide (unhide HMI).bf
  have ym36 : wc.cell? ⟨w.heap.size, 36, none⟩ = some (.int .i64 m.B.base) := cell_of (unhide F).at0 36
  have ym37 : wc.cell? ⟨w.heap.size, 37, none⟩ = some (.int .i64 m.B.epoch) := cell_of (unhide F).at0 37
  have ym38 : wc.cell? ⟨w.heap.size, 38, none⟩ = some (.int .u64 (m.B.pid : Int)) := cell_of (unhide F).at0 38
  have ym39 : wc.cell? ⟨w.heap.size, 39, none⟩ = some (.int .i64 m.B.pep) := cell_of (unhide F).at0 39
  have ym40 : wc.cell? ⟨w.heap.size, 40, none⟩ = some (.int .i64 m.B.seq) := cell_of (unhide F).at0 40
  have ym41 : wc.cell? ⟨w.heap.size, 41, none⟩ = some (.bool m.B.txn) := cell_of (unhide F).at0 41
  have ym42 : wc.cell? ⟨w.heap.size, 42, none⟩ = some (.bool m.B.ctl) := cell_of (unhide F).at0 42
  have ym43 : wc.cell? ⟨w.heap.size, 43, none⟩ = some (.bool m.B.com) := cell_of (unhide F).at0 43
  have ym44 : wc.cell? ⟨w.heap.size, 44, none⟩ = some (.slice m.ba m.B.vs.length m.bc) := cell_of (unhide F).at0 44
  have KK := batch_d (B := m.B) m.ba m.bc (unhide F).q (unhide HMI).b (unhide HMB) (by omega)
  unfold bv at KK
  rw [unhide E5] at KK
  have HK := hide KK
  clear KK
  have l5 : s5.l.length ≤ s4.l.length + 4106 := by rw [← unhide E5]; exact dBa_len _ (unhide HMB)
  go_wp2_with fail
  refine (unhide HK).mono ?_
  rintro e v6 ⟨rfl, q, t⟩
  have F' := hide ((unhide F).step q t)
  clear q t HK F HMB ym36 ym37 ym38 ym39 ym40 ym41 ym42 ym43 ym44
  have F := F'
  clear F'
  have HMM : Hid (m.bs.length ≤ 1048576) := hide ((unhide HS).bs)
  have ym56 : v6.cell? ⟨w.heap.size, 56, none⟩ = some (.slice m.bsa m.bs.length m.bsc) := cell_of (unhide F).at0 56
  have KK := batches_d (os := m.bs) (ao := m.bsa) (cap := m.bsc) (unhide F).q ((unhide HMI).bs) ((unhide HMI).bin) (unhide HMM) (by omega)
  rw [unhide E6] at KK
  have HK := hide KK
  clear KK
  have l6 : s6.l.length ≤ s5.l.length + 10 + 4106 * m.bs.length := by
    rw [← unhide E6]
    have h1 := foldD_len m.bs (dC s5 m.bs.length) ((unhide HMI).bin)
    have h2 : (dC s5 m.bs.length).l.length ≤ s5.l.length + 10 := by
      unfold dC
      rw [dX_l, dN_l, List.length_append]
      have := enc_len10 (n := m.bs.length) (by have := unhide HMM; omega)
      omega
    omega
  have h6 := unhide HMM
  go_wp2_with fail
  refine (unhide HK).mono ?_
  rintro e v7 ⟨rfl, q, t⟩
  have F' := hide ((unhide F).step q t)
  clear q t HK F ym56 HMM
  have F := F'
  clear F'
  have hab := (unhide HS).ab
  have ym57 : v7.cell? ⟨w.heap.size, 57, none⟩ = some (.slice m.aa m.ab.length m.ac) := cell_of (unhide F).at0 57
  have KK := count_d m.ab.length (unhide F).q (by skip; omega) (by omega)
  rw [unhide E7] at KK
  have HK := hide KK
  clear KK
  have l7 : s7.l.length ≤ s6.l.length + 10 := by
    rw [← unhide E7]
    unfold dC
    rw [dX_l, dN_l, List.length_append]
    have := enc_len10 (n := m.ab.length) (by skip; omega)
    omega
  go_wp2_with fail
  refine (unhide HK).mono ?_
  rintro e v8 ⟨rfl, q, t⟩
  have F' := hide ((unhide F).step q t)
  clear q t HK F ym57 
  have F := F'
  clear F'
  go_wp2_with fail
  go_loopw [10] (fun i wr => ∃ k : Nat, k ≤ m.ab.length ∧ i = .int .i64 k ∧ Hid (Dk w N b [(w.heap.size, Obj.cells (mgL m).toArray 41)] wr ((m.ab.take k).foldl stepDA s7))) (fun i _ => m.ab.length - (intOf i).toNat)
  case atStart => exact ⟨0, Nat.zero_le _, rfl, F⟩
  case round =>
    clear F
    obtain ⟨k, hk, rfl, F⟩ := hrel
    by_cases hc : k < m.ab.length
    · skip
      obtain ⟨o, ho⟩ : ∃ o, m.ab[k] = o := ⟨_, rfl⟩
      have HO := hide (unhide HMI |>.ain o (by rw [← ho]; exact List.getElem_mem hc))
      have HHO := hide ho
      have HC := hide hc
      obtain ⟨gb, off, ea, c0, c1, c2⟩ := (unhide HMI).ab.atAb (unhide F).q.base hc ho
      have HEA := hide ea
      have ym57 : wr.cell? ⟨w.heap.size, 57, none⟩ = some (.slice (some ⟨gb, off, none⟩) m.ab.length m.ac) := by
        have h : wr.cell? ⟨w.heap.size, 57, none⟩ = some (.slice m.aa m.ab.length m.ac) := cell_of (unhide F).at0 57
        rw [← unhide HEA]
        exact h
      have HD := hide (foldDA_take hc ho s7)
      have hfl := foldDA_len (m.ab.take k) s7 (fun x hx => (unhide HMI).ain x (List.mem_of_mem_take hx))
      rw [List.length_take] at hfl
      have hfl2 : ((m.ab.take k).foldl stepDA s7).l.length ≤ 8796093022208 := by omega
      have hc' : (k : Int) < (m.ab.length : Int) := by omega
      generalize (m.ab.take k).foldl stepDA s7 = S at *
      clear hfl ea ho
      obtain ⟨sx, h8⟩ : ∃ sx, dX S (enc o.p) = sx := ⟨_, rfl⟩
      have E8 := hide h8
      clear h8
      go_upto_region 18 with fail
      refine dk_r18 F HO (by omega) hc' ym57 c0 E8 ?_
      intro u116 u117 u118 u119 u120 u121 u122 u123 u124 u125 u126 u127 u128 u129 u130 wc F'
      clear F ym57 c0 c1 c2
      have F := F'
      clear F'
      have hl8 : sx.l.length ≤ 8796093022400 := by
        rw [← unhide E8, dX_l, List.length_append]
        have := enc_len10 (unhide HO).1
        omega
      have SG : Hid (∀ (W : World) (sy : Dv), Dk w N b [(w.heap.size, Obj.cells (mgL m).toArray 41)] W sy → W.cell? ⟨w.heap.size, 57, none⟩ = some (.slice (some ⟨gb, off, none⟩) m.ab.length m.ac) ∧ W.cell? ⟨gb, off + k * 3 + 1, none⟩ = some (.int .i64 o.f) ∧ W.cell? ⟨gb, off + k * 3 + 2, none⟩ = some (.int .i64 o.l)) := hide (fun W sy hD => by
        have h : W.cell? ⟨w.heap.size, 57, none⟩ = some (.slice m.aa m.ab.length m.ac) := cell_of hD.at0 57
        rw [unhide HEA] at h
        obtain ⟨gb', off', ea', d0, d1, d2⟩ := (unhide HMI).ab.atAb hD.q.base (unhide HC) (unhide HHO)
        rw [unhide HEA] at ea'
        cases ea'
        exact ⟨h, d1, d2⟩)
      go_upto_region 19 with fail
      refine dk_r19 F HO hl8 hc' SG ?_
      intro u131 u132 u133 u134 u135 u136 u137 u138 u139 u140 u141 u142 u143 u144 u145 wd F'
      have FF : Hid (Dk w N b [(w.heap.size, Obj.cells (mgL m).toArray 41)] wd ((m.ab.take (k + 1)).foldl stepDA s7)) := hide (by
        rw [unhide HD]
        have h1 : stepDA S o = dX sx (encL [o.f, o.l]) := by rw [← unhide E8]; rfl
        rw [h1]
        exact unhide F')
      clear F' F HD HHO HC E8 SG
      go_wp2
      go_roundw
      case rel => exact ⟨k + 1, by omega, by go_num, FF⟩
      case measure => simp [intOf]; omega
    · skip
      obtain rfl : k = m.ab.length := by omega
      have F' : Hid (Dk w N b [(w.heap.size, Obj.cells (mgL m).toArray 41)] wr s8) := hide (by rw [← unhide E8]; have := unhide F; rw [List.take_length] at this; exact this)
      clear F
      have F := F'
      clear F'
      have l8 : s8.l.length ≤ s7.l.length + 30 * m.ab.length := by
        rw [← unhide E8]
        exact foldDA_len _ _ (unhide HMI).ain
      have hcq : ¬ ((m.ab.length : Int) < (m.ab.length : Int)) := by omega
      have ym57 : wr.cell? ⟨w.heap.size, 57, none⟩ = some (.slice m.aa m.ab.length m.ac) := cell_of (unhide F).at0 57
      obtain ⟨v, hv, ⟨va, vn, vc, rfl⟩, D1, D2, D3⟩ := (unhide F).done
      have z0 : wr.cell? ⟨b, 0, none⟩ = some (.slice va vn vc) := cell_of hv 0
      have z1 : wr.cell? ⟨b, 1, none⟩ = some (.int .i64 s8.e) := cell_of hv 1
      have z2 : wr.cell? ⟨b, 2, none⟩ = some (.int .i64 s8.g) := cell_of hv 2
      have DD1 := hide D1
      have DD2 := hide D2
      have DD3 := hide D3
      clear hv F D1 D2 D3
      by_cases c1 : s8.e = 0
      · by_cases c2 : s8.g = 0
        · have FF := hide (unhide DD3 c1 c2)
          have q1 : (s8.e == 0) = true := by rw [c1]; rfl
          have q2 : (s8.g == 0) = true := by rw [c2]; rfl
          clear c1 c2 DD1 DD2 DD3
          go_wp2
          go_returns
          exact unhide FF
        · have FF := hide (unhide DD2 c1 c2)
          have q1 : (s8.e == 0) = true := by rw [c1]; rfl
          have q2 : (s8.g == 0) = false := beq_eq_false_iff_ne.2 c2
          clear c1 c2 DD1 DD2 DD3
          go_wp2_with fail
          go_quiet (fail)
          go_wp2
          go_returns
          exact unhide FF _ (by first | exact Below.refl _ _ | exact Below.drew (Below.refl _ _) | exact below_drewN' (Below.refl _ _) _)
      · have FF := hide (unhide DD1 c1)
        have q1 : (s8.e == 0) = false := beq_eq_false_iff_ne.2 c1
        clear c1 DD1 DD2 DD3
        go_wp2_with fail
        go_quiet (fail)
        go_wp2
        go_returns
        exact unhide FF _ (by first | exact Below.refl _ _ | exact Below.drew (Below.refl _ _) | exact below_drewN' (Below.refl _ _) _)
end Go.Proofs.Ytblmondkdcpkaaa
