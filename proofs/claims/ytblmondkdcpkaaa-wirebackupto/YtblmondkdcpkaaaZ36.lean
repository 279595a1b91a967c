/-
  penstockref17.DocEncode of a message of kind 4 (cmd). Conditions: the message as it lies, its lists and pieces at most 2^20 long.
-/
import Derived.Test.YtblmondkdcpkaaaZ35
import Derived.Deep.CutBlock
import Derived.Deep.RegionHeld3

/-
  penstockref17.DocEncode of a message of kind 2 (fetch). Conditions: the message as it lies, its lists and pieces at most 2^20 long.
-/
namespace Go.Proofs.Ytblmondkdcpkaaa
open Go.RowKit
set_option linter.unusedVariables false

set_option maxRecDepth 100000 in
set_option maxHeartbeats 32000000 in
theorem dk_fetch {w : World} {m : Mg} {s0 s1 : Dv} (hm : MgIn w m) (hs : MgS m) (hk : m.kd = 2) (e0 : dX (⟨[], 0, 0⟩ : Dv) (encL [m.kd, m.fr, m.tt, m.co, m.er]) = s0) (e1 : dX s0 (encL [m.f1, m.f2, m.f3, m.f4, m.f5]) = s1) :
    Calls Try.prog 9 #[.agg (mgL m).toArray] w fun e w' => DEP w s1 e w' := by
  have HB1 := hide ((Below.refl w.heap.size w).alloc (Nat.le_refl _) (.cells (mgL m).toArray 41))
  have HH1 := hide (heap_new w (.cells (mgL m).toArray 41))
  have HZ1 : Hid ((w.alloc (.cells (mgL m).toArray 41)).heap.size = w.heap.size + 1) := hide (by simp)
  have HMI := hide hm
  have HS := hide hs
  have HKD := hide hk
  have E0 := hide e0
  have E1 := hide e1
  have g1 : ¬ m.kd < 1 := by have := hk; omega
  have g2 : ¬ 15 < m.kd := by have := hk; omega
  have k1 : (m.kd == 1) = false := by have := hk; exact beq_eq_false_iff_ne.2 (by omega)
  have k2 : (m.kd == 2) = true := by have := hk; exact beq_iff_eq.2 (by omega)
  clear hm hs hk e0 e1
  go_enter Try.func9, Try.ntmps9
  go_upto_region 1 with fail
  change Code.wp _ _ _ _ (w.alloc (.cells (mgL m).toArray 41))
  generalize w.alloc (.cells (mgL m).toArray 41) = W1 at *
  have ym0 : W1.cell? ⟨w.heap.size, 0, none⟩ = some (.int .i64 m.kd) := cell_of (unhide HH1) 0
  go_upto_region 4 with fail
  have F := hide (dk_start (unhide HB1) (unhide HZ1) (unhide HH1))
  clear ym0 HB1 HH1 HZ1
  change Code.wp _ _ _ _ (W1.alloc (.cells #[.slice none 0 0, .int .i64 0, .int .i64 0] 60))
  generalize W1.alloc (.cells #[.slice none 0 0, .int .i64 0, .int .i64 0] 60) = w2 at *
  generalize (fun k => k < W1.heap.size) = N at F
  generalize W1.heap.size = b at *
  have HFF := hide ((unhide HMI).hd)
  have ym0 : w2.cell? ⟨w.heap.size, 0, none⟩ = some (.int .i64 m.kd) := cell_of (unhide F).at0 0
  have ym1 : w2.cell? ⟨w.heap.size, 1, none⟩ = some (.int .i64 m.fr) := cell_of (unhide F).at0 1
  have ym2 : w2.cell? ⟨w.heap.size, 2, none⟩ = some (.int .i64 m.tt) := cell_of (unhide F).at0 2
  have ym3 : w2.cell? ⟨w.heap.size, 3, none⟩ = some (.int .i64 m.co) := cell_of (unhide F).at0 3
  have ym4 : w2.cell? ⟨w.heap.size, 4, none⟩ = some (.int .i64 m.er) := cell_of (unhide F).at0 4
  have KK := dints_lit [m.kd, m.fr, m.tt, m.co, m.er] (vs := #[.int .i64 m.kd, .int .i64 m.fr, .int .i64 m.tt, .int .i64 m.co, .int .i64 m.er]) rfl (unhide F).q (unhide HFF) (by simp only [List.length_cons, List.length_nil]; omega)
  rw [unhide E0] at KK
  have HK := hide KK
  clear KK
  have l0 := encI_len (unhide E0) (unhide HFF)
  simp only [List.length_cons, List.length_nil] at l0
  go_wp2_with fail
  refine (unhide HK).mono ?_
  rintro e v1 ⟨rfl, q, t⟩
  have F' := hide ((unhide F).step q t)
  clear q t HK F ym0 ym1 ym2 ym3 ym4 HFF
  have F := F'
  clear F'
  have ym0 : v1.cell? ⟨w.heap.size, 0, none⟩ = some (.int .i64 m.kd) := cell_of (unhide F).at0 0
  have HFF := hide ((unhide HMI).fe)
  have ym15 : v1.cell? ⟨w.heap.size, 15, none⟩ = some (.int .i64 m.f1) := cell_of (unhide F).at0 15
  have ym16 : v1.cell? ⟨w.heap.size, 16, none⟩ = some (.int .i64 m.f2) := cell_of (unhide F).at0 16
  have ym17 : v1.cell? ⟨w.heap.size, 17, none⟩ = some (.int .i64 m.f3) := cell_of (unhide F).at0 17
  have ym18 : v1.cell? ⟨w.heap.size, 18, none⟩ = some (.int .i64 m.f4) := cell_of (unhide F).at0 18
  have ym19 : v1.cell? ⟨w.heap.size, 19, none⟩ = some (.int .i64 m.f5) := cell_of (unhide F).at0 19
  have KK := dints_lit [m.f1, m.f2, m.f3, m.f4, m.f5] (vs := #[.int .i64 m.f1, .int .i64 m.f2, .int .i64 m.f3, .int .i64 m.f4, .int .i64 m.f5]) rfl (unhide F).q (unhide HFF) (by simp only [List.length_cons, List.length_nil]; omega)
  rw [unhide E1] at KK
  have HK := hide KK
  clear KK
  have l1 := encI_len (unhide E1) (unhide HFF)
  simp only [List.length_cons, List.length_nil] at l1
  go_wp2_with fail
  refine (unhide HK).mono ?_
  rintro e v2 ⟨rfl, q, t⟩
  have F' := hide ((unhide F).step q t)
  clear q t HK F ym15 ym16 ym17 ym18 ym19 HFF
  have F := F'
  clear F'
  obtain ⟨v, hv, ⟨va, vn, vc, rfl⟩, D1, D2, D3⟩ := (unhide F).done
  have z0 : v2.cell? ⟨b, 0, none⟩ = some (.slice va vn vc) := cell_of hv 0
  have z1 : v2.cell? ⟨b, 1, none⟩ = some (.int .i64 s1.e) := cell_of hv 1
  have z2 : v2.cell? ⟨b, 2, none⟩ = some (.int .i64 s1.g) := cell_of hv 2
  have DD1 := hide D1
  have DD2 := hide D2
  have DD3 := hide D3
  clear hv F D1 D2 D3
  by_cases c1 : s1.e = 0
  · by_cases c2 : s1.g = 0
    · have FF := hide (unhide DD3 c1 c2)
      have q1 : (s1.e == 0) = true := by rw [c1]; rfl
      have q2 : (s1.g == 0) = true := by rw [c2]; rfl
      clear c1 c2 DD1 DD2 DD3
      go_wp2
      go_returns
      exact unhide FF
    · have FF := hide (unhide DD2 c1 c2)
      have q1 : (s1.e == 0) = true := by rw [c1]; rfl
      have q2 : (s1.g == 0) = false := beq_eq_false_iff_ne.2 c2
      clear c1 c2 DD1 DD2 DD3
      go_wp2_with fail
      go_quiet (fail)
      go_wp2
      go_returns
      exact unhide FF _ (by first | exact Below.refl _ _ | exact Below.drew (Below.refl _ _) | exact below_drewN' (Below.refl _ _) _)
  · have FF := hide (unhide DD1 c1)
    have q1 : (s1.e == 0) = false := beq_eq_false_iff_ne.2 c1
    clear c1 DD1 DD2 DD3
    go_wp2_with fail
    go_quiet (fail)
    go_wp2
    go_returns
    exact unhide FF _ (by first | exact Below.refl _ _ | exact Below.drew (Below.refl _ _) | exact below_drewN' (Below.refl _ _) _)
end Go.Proofs.Ytblmondkdcpkaaa


namespace Go.Proofs.Ytblmondkdcpkaaa
open Go.RowKit
set_option linter.unusedVariables false

set_option maxRecDepth 100000 in
set_option maxHeartbeats 32000000 in
theorem dk_cmd_ok {w : World} {m : Mg} {s0 s1 : Dv} (hm : MgIn w m) (hs : MgS m) (hk : m.kd = 4 ∧ isC m.c = true) (e0 : dX (⟨[], 0, 0⟩ : Dv) (encL [m.kd, m.fr, m.tt, m.co, m.er]) = s0) (e1 : dB s0 (encC m.c) = s1) :
    Calls Try.prog 9 #[.agg (mgL m).toArray] w fun e w' => DEP w s1 e w' := by
  have HB1 := hide ((Below.refl w.heap.size w).alloc (Nat.le_refl _) (.cells (mgL m).toArray 41))
  have HH1 := hide (heap_new w (.cells (mgL m).toArray 41))
  have HZ1 : Hid ((w.alloc (.cells (mgL m).toArray 41)).heap.size = w.heap.size + 1) := hide (by simp)
  have HMI := hide hm
  have HS := hide hs
  have HKD := hide hk
  have E0 := hide e0
  have E1 := hide e1
  have g1 : ¬ m.kd < 1 := by have := hk; omega
  have g2 : ¬ 15 < m.kd := by have := hk; omega
  have k1 : (m.kd == 1) = false := by have := hk; exact beq_eq_false_iff_ne.2 (by omega)
  have k2 : (m.kd == 2) = false := by have := hk; exact beq_eq_false_iff_ne.2 (by omega)
  have k3 : (m.kd == 3) = false := by have := hk; exact beq_eq_false_iff_ne.2 (by omega)
  have k4 : (m.kd == 4) = true := by have := hk; exact beq_iff_eq.2 (by omega)
  clear hm hs hk e0 e1
  go_enter Try.func9, Try.ntmps9
  go_upto_region 1 with fail
  change Code.wp _ _ _ _ (w.alloc (.cells (mgL m).toArray 41))
  generalize w.alloc (.cells (mgL m).toArray 41) = W1 at *
  have ym0 : W1.cell? ⟨w.heap.size, 0, none⟩ = some (.int .i64 m.kd) := cell_of (unhide HH1) 0
  go_upto_region 4 with fail
  have F := hide (dk_start (unhide HB1) (unhide HZ1) (unhide HH1))
  clear ym0 HB1 HH1 HZ1
  change Code.wp _ _ _ _ (W1.alloc (.cells #[.slice none 0 0, .int .i64 0, .int .i64 0] 60))
  generalize W1.alloc (.cells #[.slice none 0 0, .int .i64 0, .int .i64 0] 60) = w2 at *
  generalize (fun k => k < W1.heap.size) = N at F
  generalize W1.heap.size = b at *
  have HFF := hide ((unhide HMI).hd)
  have ym0 : w2.cell? ⟨w.heap.size, 0, none⟩ = some (.int .i64 m.kd) := cell_of (unhide F).at0 0
  have ym1 : w2.cell? ⟨w.heap.size, 1, none⟩ = some (.int .i64 m.fr) := cell_of (unhide F).at0 1
  have ym2 : w2.cell? ⟨w.heap.size, 2, none⟩ = some (.int .i64 m.tt) := cell_of (unhide F).at0 2
  have ym3 : w2.cell? ⟨w.heap.size, 3, none⟩ = some (.int .i64 m.co) := cell_of (unhide F).at0 3
  have ym4 : w2.cell? ⟨w.heap.size, 4, none⟩ = some (.int .i64 m.er) := cell_of (unhide F).at0 4
  have KK := dints_lit [m.kd, m.fr, m.tt, m.co, m.er] (vs := #[.int .i64 m.kd, .int .i64 m.fr, .int .i64 m.tt, .int .i64 m.co, .int .i64 m.er]) rfl (unhide F).q (unhide HFF) (by simp only [List.length_cons, List.length_nil]; omega)
  rw [unhide E0] at KK
  have HK := hide KK
  clear KK
  have l0 := encI_len (unhide E0) (unhide HFF)
  simp only [List.length_cons, List.length_nil] at l0
  go_wp2_with fail
  refine (unhide HK).mono ?_
  rintro e v1 ⟨rfl, q, t⟩
  have F' := hide ((unhide F).step q t)
  clear q t HK F ym0 ym1 ym2 ym3 ym4 HFF
  have F := F'
  clear F'
  have ym0 : v1.cell? ⟨w.heap.size, 0, none⟩ = some (.int .i64 m.kd) := cell_of (unhide F).at0 0
  have HC := hide (unhide HKD).2
  have HCI := hide ((unhide HMI).c.later (unhide F).q.base)
  have HCF := hide (unhide HMI).cf
  have KE := hide (docencode_ok (unhide HCI) (unhide HCF) (unhide HC))
  have ym30 : v1.cell? ⟨w.heap.size, 30, none⟩ = some (.int .i64 m.c.kd) := cell_of (unhide F).at0 30
  have ym31 : v1.cell? ⟨w.heap.size, 31, none⟩ = some (.int .i64 m.c.nd) := cell_of (unhide F).at0 31
  have ym32 : v1.cell? ⟨w.heap.size, 32, none⟩ = some (.int .i64 m.c.pt) := cell_of (unhide F).at0 32
  have ym33 : v1.cell? ⟨w.heap.size, 33, none⟩ = some (.int .i64 m.c.ep) := cell_of (unhide F).at0 33
  have ym34 : v1.cell? ⟨w.heap.size, 34, none⟩ = some (.int .i64 m.c.ve) := cell_of (unhide F).at0 34
  have ym35 : v1.cell? ⟨w.heap.size, 35, none⟩ = some (.slice m.c.a m.c.l.length m.c.k) := cell_of (unhide F).at0 35
  unfold cmA at KE
  go_wp2_with fail
  refine (unhide KE).mono ?_
  rintro e v9 ⟨vo, rfl, fo⟩
  obtain ⟨ao, co, rfl, lo, _, _, zo, _, _⟩ := fo.1.parts
  have HF2 : Hid (0 < (encC m.c).length → ∀ x, ao = some x → x.block ≠ b) := hide (fun h0 x hx e => by
    have h1 := (unhide F).q.lt
    have h2 := fo.2.1 x.block (by rw [hx]; rfl)
    omega)
  have LO := hide lo
  have F' := hide ((unhide F).later fo.2.2)
  clear fo lo KE F ym0 ym30 ym31 ym32 ym33 ym34 ym35
  have F := F'
  clear F'
  have hle := encC_len (unhide HCF) (unhide HC)
  have KK := bytes_d ao co (encC m.c) (unhide F).q (unhide LO) zo (unhide HF2) (by omega) (by omega)
  rw [unhide E1] at KK
  have HK := hide KK
  clear KK
  
  go_wp2_with fail
  refine (unhide HK).mono ?_
  rintro e v2 ⟨rfl, q, t⟩
  have F' := hide ((unhide F).step q t)
  clear q t HK F  
  have F := F'
  clear F'
  obtain ⟨v, hv, ⟨va, vn, vc, rfl⟩, D1, D2, D3⟩ := (unhide F).done
  have z0 : v2.cell? ⟨b, 0, none⟩ = some (.slice va vn vc) := cell_of hv 0
  have z1 : v2.cell? ⟨b, 1, none⟩ = some (.int .i64 s1.e) := cell_of hv 1
  have z2 : v2.cell? ⟨b, 2, none⟩ = some (.int .i64 s1.g) := cell_of hv 2
  have DD1 := hide D1
  have DD2 := hide D2
  have DD3 := hide D3
  clear hv F D1 D2 D3
  by_cases c1 : s1.e = 0
  · by_cases c2 : s1.g = 0
    · have FF := hide (unhide DD3 c1 c2)
      have q1 : (s1.e == 0) = true := by rw [c1]; rfl
      have q2 : (s1.g == 0) = true := by rw [c2]; rfl
      clear c1 c2 DD1 DD2 DD3
      go_wp2
      go_returns
      exact unhide FF
    · have FF := hide (unhide DD2 c1 c2)
      have q1 : (s1.e == 0) = true := by rw [c1]; rfl
      have q2 : (s1.g == 0) = false := beq_eq_false_iff_ne.2 c2
      clear c1 c2 DD1 DD2 DD3
      go_wp2_with fail
      go_quiet (fail)
      go_wp2
      go_returns
      exact unhide FF _ (by first | exact Below.refl _ _ | exact Below.drew (Below.refl _ _) | exact below_drewN' (Below.refl _ _) _)
  · have FF := hide (unhide DD1 c1)
    have q1 : (s1.e == 0) = false := beq_eq_false_iff_ne.2 c1
    clear c1 DD1 DD2 DD3
    go_wp2_with fail
    go_quiet (fail)
    go_wp2
    go_returns
    exact unhide FF _ (by first | exact Below.refl _ _ | exact Below.drew (Below.refl _ _) | exact below_drewN' (Below.refl _ _) _)
set_option maxRecDepth 100000 in
set_option maxHeartbeats 32000000 in
theorem dk_cmd_no {w : World} {m : Mg} {s0 s1 s2 : Dv} (hm : MgIn w m) (hs : MgS m) (hk : m.kd = 4 ∧ isC m.c = false) (e0 : dX (⟨[], 0, 0⟩ : Dv) (encL [m.kd, m.fr, m.tt, m.co, m.er]) = s0) (e1 : dF 1 s0 = s1) (e2 : dB s1 [] = s2) :
    Calls Try.prog 9 #[.agg (mgL m).toArray] w fun e w' => DEP w s2 e w' := by
  have HB1 := hide ((Below.refl w.heap.size w).alloc (Nat.le_refl _) (.cells (mgL m).toArray 41))
  have HH1 := hide (heap_new w (.cells (mgL m).toArray 41))
  have HZ1 : Hid ((w.alloc (.cells (mgL m).toArray 41)).heap.size = w.heap.size + 1) := hide (by simp)
  have HMI := hide hm
  have HS := hide hs
  have HKD := hide hk
  have E0 := hide e0
  have E1 := hide e1
  have E2 := hide e2
  have g1 : ¬ m.kd < 1 := by have := hk; omega
  have g2 : ¬ 15 < m.kd := by have := hk; omega
  have k1 : (m.kd == 1) = false := by have := hk; exact beq_eq_false_iff_ne.2 (by omega)
  have k2 : (m.kd == 2) = false := by have := hk; exact beq_eq_false_iff_ne.2 (by omega)
  have k3 : (m.kd == 3) = false := by have := hk; exact beq_eq_false_iff_ne.2 (by omega)
  have k4 : (m.kd == 4) = true := by have := hk; exact beq_iff_eq.2 (by omega)
  clear hm hs hk e0 e1 e2
  go_enter Try.func9, Try.ntmps9
  go_upto_region 1 with fail
  change Code.wp _ _ _ _ (w.alloc (.cells (mgL m).toArray 41))
  generalize w.alloc (.cells (mgL m).toArray 41) = W1 at *
  have ym0 : W1.cell? ⟨w.heap.size, 0, none⟩ = some (.int .i64 m.kd) := cell_of (unhide HH1) 0
  go_upto_region 4 with fail
  have F := hide (dk_start (unhide HB1) (unhide HZ1) (unhide HH1))
  clear ym0 HB1 HH1 HZ1
  change Code.wp _ _ _ _ (W1.alloc (.cells #[.slice none 0 0, .int .i64 0, .int .i64 0] 60))
  generalize W1.alloc (.cells #[.slice none 0 0, .int .i64 0, .int .i64 0] 60) = w2 at *
  generalize (fun k => k < W1.heap.size) = N at F
  generalize W1.heap.size = b at *
  have HFF := hide ((unhide HMI).hd)
  have ym0 : w2.cell? ⟨w.heap.size, 0, none⟩ = some (.int .i64 m.kd) := cell_of (unhide F).at0 0
  have ym1 : w2.cell? ⟨w.heap.size, 1, none⟩ = some (.int .i64 m.fr) := cell_of (unhide F).at0 1
  have ym2 : w2.cell? ⟨w.heap.size, 2, none⟩ = some (.int .i64 m.tt) := cell_of (unhide F).at0 2
  have ym3 : w2.cell? ⟨w.heap.size, 3, none⟩ = some (.int .i64 m.co) := cell_of (unhide F).at0 3
  have ym4 : w2.cell? ⟨w.heap.size, 4, none⟩ = some (.int .i64 m.er) := cell_of (unhide F).at0 4
  have KK := dints_lit [m.kd, m.fr, m.tt, m.co, m.er] (vs := #[.int .i64 m.kd, .int .i64 m.fr, .int .i64 m.tt, .int .i64 m.co, .int .i64 m.er]) rfl (unhide F).q (unhide HFF) (by simp only [List.length_cons, List.length_nil]; omega)
  rw [unhide E0] at KK
  have HK := hide KK
  clear KK
  have l0 := encI_len (unhide E0) (unhide HFF)
  simp only [List.length_cons, List.length_nil] at l0
  go_wp2_with fail
  refine (unhide HK).mono ?_
  rintro e v1 ⟨rfl, q, t⟩
  have F' := hide ((unhide F).step q t)
  clear q t HK F ym0 ym1 ym2 ym3 ym4 HFF
  have F := F'
  clear F'
  have ym0 : v1.cell? ⟨w.heap.size, 0, none⟩ = some (.int .i64 m.kd) := cell_of (unhide F).at0 0
  have HC := hide (unhide HKD).2
  have HCI := hide ((unhide HMI).c.later (unhide F).q.base)
  have HCF := hide (unhide HMI).cf
  have KE := hide (docencode_bad (unhide HCI) (unhide HC))
  have ym30 : v1.cell? ⟨w.heap.size, 30, none⟩ = some (.int .i64 m.c.kd) := cell_of (unhide F).at0 30
  have ym31 : v1.cell? ⟨w.heap.size, 31, none⟩ = some (.int .i64 m.c.nd) := cell_of (unhide F).at0 31
  have ym32 : v1.cell? ⟨w.heap.size, 32, none⟩ = some (.int .i64 m.c.pt) := cell_of (unhide F).at0 32
  have ym33 : v1.cell? ⟨w.heap.size, 33, none⟩ = some (.int .i64 m.c.ep) := cell_of (unhide F).at0 33
  have ym34 : v1.cell? ⟨w.heap.size, 34, none⟩ = some (.int .i64 m.c.ve) := cell_of (unhide F).at0 34
  have ym35 : v1.cell? ⟨w.heap.size, 35, none⟩ = some (.slice m.c.a m.c.l.length m.c.k) := cell_of (unhide F).at0 35
  unfold cmA at KE
  go_wp2_with fail
  refine (unhide KE).mono ?_
  rintro e v9 ⟨vo, rfl, fo⟩
  obtain ⟨ao, co, rfl, lo, _, _, zo, _, _⟩ := fo.1.parts
  have HF2 : Hid (0 < ([] : List Nat).length → ∀ x, ao = some x → x.block ≠ b) := hide (fun h0 x hx e => by
    have h1 := (unhide F).q.lt
    have h2 := fo.2.1 x.block (by rw [hx]; rfl)
    omega)
  have LO := hide lo
  have F' := hide ((unhide F).later fo.2.2)
  clear fo lo KE F ym0 ym30 ym31 ym32 ym33 ym34 ym35
  have F := F'
  clear F'
  have KK := fail_d 1 (unhide F).q
  rw [unhide E1] at KK
  have HK := hide KK
  clear KK
  have l1 : s1.l.length ≤ s0.l.length := by rw [← unhide E1, dF_l]; exact Nat.le_refl _
  go_wp2_with fail
  refine (unhide HK).mono ?_
  rintro e v2 ⟨rfl, q, t⟩
  have F' := hide ((unhide F).step q t)
  clear q t HK F  
  have F := F'
  clear F'
  have KK := bytes_d ao co [] (unhide F).q (fun i hi => by simp at hi) zo (unhide HF2) (by simp) (by omega)
  rw [unhide E2] at KK
  have HK := hide KK
  clear KK
  
  go_wp2_with fail
  refine (unhide HK).mono ?_
  rintro e v3 ⟨rfl, q, t⟩
  have F' := hide ((unhide F).step q t)
  clear q t HK F  
  have F := F'
  clear F'
  obtain ⟨v, hv, ⟨va, vn, vc, rfl⟩, D1, D2, D3⟩ := (unhide F).done
  have z0 : v3.cell? ⟨b, 0, none⟩ = some (.slice va vn vc) := cell_of hv 0
  have z1 : v3.cell? ⟨b, 1, none⟩ = some (.int .i64 s2.e) := cell_of hv 1
  have z2 : v3.cell? ⟨b, 2, none⟩ = some (.int .i64 s2.g) := cell_of hv 2
  have DD1 := hide D1
  have DD2 := hide D2
  have DD3 := hide D3
  clear hv F D1 D2 D3
  by_cases c1 : s2.e = 0
  · by_cases c2 : s2.g = 0
    · have FF := hide (unhide DD3 c1 c2)
      have q1 : (s2.e == 0) = true := by rw [c1]; rfl
      have q2 : (s2.g == 0) = true := by rw [c2]; rfl
      clear c1 c2 DD1 DD2 DD3
      go_wp2
      go_returns
      exact unhide FF
    · have FF := hide (unhide DD2 c1 c2)
      have q1 : (s2.e == 0) = true := by rw [c1]; rfl
      have q2 : (s2.g == 0) = false := beq_eq_false_iff_ne.2 c2
      clear c1 c2 DD1 DD2 DD3
      go_wp2_with fail
      go_quiet (fail)
      go_wp2
      go_returns
      exact unhide FF _ (by first | exact Below.refl _ _ | exact Below.drew (Below.refl _ _) | exact below_drewN' (Below.refl _ _) _)
  · have FF := hide (unhide DD1 c1)
    have q1 : (s2.e == 0) = false := beq_eq_false_iff_ne.2 c1
    clear c1 DD1 DD2 DD3
    go_wp2_with fail
    go_quiet (fail)
    go_wp2
    go_returns
    exact unhide FF _ (by first | exact Below.refl _ _ | exact Below.drew (Below.refl _ _) | exact below_drewN' (Below.refl _ _) _)
end Go.Proofs.Ytblmondkdcpkaaa
