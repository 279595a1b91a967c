/-
  wire's writer: others. Conditions: the message as it lies, what was laid so far at most 2^40 bytes.
-/
import Derived.Test.YtcekleconjmfjaaWq6
namespace Go.Proofs.Ytcekleconjmfjaa
open Go.RowKit
set_option linter.unusedVariables false

section
variable {w0 w : World} {N : Nat → Prop} {b : Nat} {s : Ws}
set_option maxHeartbeats 16000000 in
theorem others_w {m : Mg} {E : Int} {s1 s2 s3 s4 s5 s6 s7 : Ws} (h : Wq w0 N w b s) (hm : MgIn w0 m) (hE : fst0 [cntE m.ms.length, batE m.B, cntE m.bs.length, errs m.bs, cntE m.ab.length] = E) (e1 : wX s (encL [m.o1, m.o2, m.o3, m.o4, m.o5, m.o6, m.o7, m.o8, m.o9]) = s1) (e2 : wX s1 (enc m.pid) = s2) (e3 : wX s2 [m.cm.toNat] = s3) (e4 : wX s3 (enc m.ms.length ++ encL m.ms) = s4) (e5 : batS s4 m.B = s5) (e6 : m.bs.foldl stepBa (wX s5 (enc m.bs.length)) = s6) (e7 : m.ab.foldl stepAb (wX s6 (enc m.ab.length)) = s7) (hl : s.1.length ≤ 1099511627776) :
    Calls Try.prog 46 #[.agg #[.pointer (some ⟨b, 0, none⟩)], .agg (mgL m).toArray] w fun e w' => WP w0 N w b E s7 e w' := by
  have HF := hide hm.ot
  have HP := hide hm.pid
  have HMS := hide hm.ms
  have HM := hide hm.msf
  have HBR := hide hm.b
  have HBF := hide hm.bf
  have HBS := hide hm.bs
  have HBI := hide hm.bin
  have HAB := hide hm.ab
  have HAI := hide hm.ain
  have hb0 := ((Below.refl w.heap.size w).alloc (Nat.le_refl _) (.cells #[.pointer (some ⟨b, 0, none⟩)] 77)).alloc (by simp) (.cells (mgL m).toArray 41)
  have Q0 := hide (h.grow hb0)
  have HX := hide (heap_old (.cells (mgL m).toArray 41) (heap_new w (.cells #[.pointer (some ⟨b, 0, none⟩)] 77)))
  have HB := hide (heap_new (w.alloc (.cells #[.pointer (some ⟨b, 0, none⟩)] 77)) (.cells (mgL m).toArray 41))
  have hsz : (w.alloc (.cells #[.pointer (some ⟨b, 0, none⟩)] 77)).heap.size = w.heap.size + 1 := by simp
  rw [hsz] at HB
  have HN := hide h.old
  have HL := hide h.low
  have HB0 := hide hb0
  have HE0 := hide hE
  have hmf : ∀ (fn : Fn) (first cap : Array Value) (w : World), (Instr.makeFunc fn first cap).run Try.prog w = .ok (.func fn first cap) w := fun _ _ _ _ => rfl
  have E1 := hide e1
  have E2 := hide e2
  have E3 := hide e3
  have E4 := hide e4
  have E5 := hide e5
  have E6 := hide e6
  have E7 := hide e7
  have HMI := hide hm
  clear h hb0 hsz hE e1 e2 e3 e4 e5 e6 e7 hm
  go_enter Try.func46, Try.ntmps46
  go_upto_region 1 with fail
  generalize (w.alloc (.cells #[.pointer (some ⟨b, 0, none⟩)] 77)).alloc (.cells (mgL m).toArray 41) = W1 at *
  have T0 : Hid (Touch (Off (Gr N w W1)) W1 W1) := hide (Touch.refl _ _)
  have l0 := hl
  have z0 := cell_of (Gr.keep (unhide T0) (unhide HX) (Nat.le_refl _)) 0
  have y45 : W1.cell? ⟨w.heap.size + 1, 45, none⟩ = some (.int .i64 m.o1) := cell_of (Gr.keep (unhide T0) (unhide HB) (by omega)) 45
  have y46 : W1.cell? ⟨w.heap.size + 1, 46, none⟩ = some (.int .i64 m.o2) := cell_of (Gr.keep (unhide T0) (unhide HB) (by omega)) 46
  have y47 : W1.cell? ⟨w.heap.size + 1, 47, none⟩ = some (.int .i64 m.o3) := cell_of (Gr.keep (unhide T0) (unhide HB) (by omega)) 47
  have y48 : W1.cell? ⟨w.heap.size + 1, 48, none⟩ = some (.int .i64 m.o4) := cell_of (Gr.keep (unhide T0) (unhide HB) (by omega)) 48
  have y50 : W1.cell? ⟨w.heap.size + 1, 50, none⟩ = some (.int .i64 m.o5) := cell_of (Gr.keep (unhide T0) (unhide HB) (by omega)) 50
  have y52 : W1.cell? ⟨w.heap.size + 1, 52, none⟩ = some (.int .i64 m.o6) := cell_of (Gr.keep (unhide T0) (unhide HB) (by omega)) 52
  have y53 : W1.cell? ⟨w.heap.size + 1, 53, none⟩ = some (.int .i64 m.o7) := cell_of (Gr.keep (unhide T0) (unhide HB) (by omega)) 53
  have y54 : W1.cell? ⟨w.heap.size + 1, 54, none⟩ = some (.int .i64 m.o8) := cell_of (Gr.keep (unhide T0) (unhide HB) (by omega)) 54
  have y58 : W1.cell? ⟨w.heap.size + 1, 58, none⟩ = some (.int .i64 m.o9) := cell_of (Gr.keep (unhide T0) (unhide HB) (by omega)) 58
  simp at z0
  have K := wints_lit [m.o1, m.o2, m.o3, m.o4, m.o5, m.o6, m.o7, m.o8, m.o9] (vs := #[.int .i64 m.o1, .int .i64 m.o2, .int .i64 m.o3, .int .i64 m.o4, .int .i64 m.o5, .int .i64 m.o6, .int .i64 m.o7, .int .i64 m.o8, .int .i64 m.o9]) rfl (unhide Q0) (unhide HF) (by simp) (by omega)
  rw [unhide E1] at K
  have HK := hide K
  have l1 : s1.1.length ≤ s.1.length + 100 := by
    rw [← unhide E1]
    have := wX_len s (encL [m.o1, m.o2, m.o3, m.o4, m.o5, m.o6, m.o7, m.o8, m.o9])
    have h2 := encL_len [m.o1, m.o2, m.o3, m.o4, m.o5, m.o6, m.o7, m.o8, m.o9] (unhide HF)
    simp only [List.length_cons, List.length_nil] at h2
    omega
  clear K
  go_wp2_with fail
  refine (unhide HK).mono ?_
  rintro e w2 ⟨rfl, q, t⟩
  have Q1 := hide q
  have T1 := hide ((unhide T0).trans t)
  clear q t HK z0 y45 y46 y47 y48 y50 y52 y53 y54 y58
  have z0 := cell_of (Gr.keep (unhide T1) (unhide HX) (Nat.le_refl _)) 0
  have y49 : w2.cell? ⟨w.heap.size + 1, 49, none⟩ = some (.int .u64 (m.pid : Int)) := cell_of (Gr.keep (unhide T1) (unhide HB) (by omega)) 49
  simp at z0
  have K := uint_q m.pid (unhide Q1) (unhide HP) (by omega)
  rw [unhide E2] at K
  have HK := hide K
  have l2 : s2.1.length ≤ s1.1.length + 10 := by
    rw [← unhide E2]
    have := wX_len s1 (enc m.pid)
    have h2 := enc_len10 (unhide HP)
    omega
  clear K
  go_wp2_with fail
  refine (unhide HK).mono ?_
  rintro e w3 ⟨rfl, q, t⟩
  have Q2 := hide q
  have T2 := hide ((unhide T1).trans t)
  clear q t HK z0 y49
  have z0 := cell_of (Gr.keep (unhide T2) (unhide HX) (Nat.le_refl _)) 0
  have y51 : w3.cell? ⟨w.heap.size + 1, 51, none⟩ = some (.bool m.cm) := cell_of (Gr.keep (unhide T2) (unhide HB) (by omega)) 51
  simp at z0
  have K := flag_q m.cm (unhide Q2) (by omega)
  rw [unhide E3] at K
  have HK := hide K
  have l3 : s3.1.length ≤ s2.1.length + 1 := by
    rw [← unhide E3]
    have := wX_len s2 [m.cm.toNat]
    simp only [List.length_cons, List.length_nil] at this
    omega
  clear K
  go_wp2_with fail
  refine (unhide HK).mono ?_
  rintro e w4 ⟨rfl, q, t⟩
  have Q3 := hide q
  have T3 := hide ((unhide T2).trans t)
  clear q t HK z0 y51
  have z0 := cell_of (Gr.keep (unhide T3) (unhide HX) (Nat.le_refl _)) 0
  have y55 : w4.cell? ⟨w.heap.size + 1, 55, none⟩ = some (.slice m.ma m.ms.length m.mc) := cell_of (Gr.keep (unhide T3) (unhide HB) (by omega)) 55
  simp at z0
  have hu := conv_len m.ms.length (unhide HMI).mm
  by_cases hz : cntE m.ms.length ≠ 0
  · have HEE := hide (fst0_hit (unhide HE0) hz)
    have HQ : Hid (E ≠ 0) := hide (by rw [unhide HEE]; exact hz)
    have K := (needCount_no w4 hz).mono (R' := fun e w' => e = gone (cntE m.ms.length) ∧ Touch (Off (Gr N w W1)) w4 w') (fun e w' h => ⟨by rw [cnt_no hz]; exact h.1, by rw [h.2]; exact Touch.refl _ _⟩)
    rw [← unhide HEE] at K
    have HK := hide K
    clear K hz
    go_wp2_with fail
    refine (unhide HK).mono ?_
    rintro e wz ⟨rfl, t⟩
    have TF := hide (Off.leave (unhide HB0) ((unhide T3).trans t))
    clear t
    go_wp2
    exact ⟨rfl, unhide TF, fun h => absurd h (unhide HQ), fun _ => rfl⟩
  have hz2 : cntE m.ms.length = 0 := by omega
  have HE1 := hide (fst0_pass (unhide HE0) hz2)
  clear hz
  have KC := hide (needCount_ok w4 hz2)
  go_wp2_with fail
  refine (unhide KC).mono ?_
  rintro e wy ⟨rfl, rfl⟩
  clear KC hu
  have LD := hide ((unhide Q3).iat (unhide HMS))
  have hc5 := cnt_ok hz2
  have K := ints_q m.ma m.mc m.ms (unhide Q3) (unhide LD).1 (unhide LD).2 (unhide HM) (by omega) (by omega)
  rw [unhide E4] at K
  have HK := hide K
  have l4 : s4.1.length ≤ s3.1.length + 5200 := by
    rw [← unhide E4]
    have := wX_len s3 (enc m.ms.length ++ encL m.ms)
    have h2 := encL_len m.ms (unhide HM)
    have h3 := enc_len10 (n := m.ms.length) (by omega)
    rw [List.length_append] at this
    omega
  clear K
  go_wp2_with fail
  refine (unhide HK).mono ?_
  rintro e w5 ⟨rfl, q, t⟩
  have Q4 := hide q
  have T4 := hide ((unhide T3).trans t)
  clear q t HK z0 y55
  clear LD hz2 hc5
  have z0 := cell_of (Gr.keep (unhide T4) (unhide HX) (Nat.le_refl _)) 0
  have y36 : w5.cell? ⟨w.heap.size + 1, 36, none⟩ = some (.int .i64 m.B.base) := cell_of (Gr.keep (unhide T4) (unhide HB) (by omega)) 36
  have y37 : w5.cell? ⟨w.heap.size + 1, 37, none⟩ = some (.int .i64 m.B.epoch) := cell_of (Gr.keep (unhide T4) (unhide HB) (by omega)) 37
  have y38 : w5.cell? ⟨w.heap.size + 1, 38, none⟩ = some (.int .u64 (m.B.pid : Int)) := cell_of (Gr.keep (unhide T4) (unhide HB) (by omega)) 38
  have y39 : w5.cell? ⟨w.heap.size + 1, 39, none⟩ = some (.int .i64 m.B.pep) := cell_of (Gr.keep (unhide T4) (unhide HB) (by omega)) 39
  have y40 : w5.cell? ⟨w.heap.size + 1, 40, none⟩ = some (.int .i64 m.B.seq) := cell_of (Gr.keep (unhide T4) (unhide HB) (by omega)) 40
  have y41 : w5.cell? ⟨w.heap.size + 1, 41, none⟩ = some (.bool m.B.txn) := cell_of (Gr.keep (unhide T4) (unhide HB) (by omega)) 41
  have y42 : w5.cell? ⟨w.heap.size + 1, 42, none⟩ = some (.bool m.B.ctl) := cell_of (Gr.keep (unhide T4) (unhide HB) (by omega)) 42
  have y43 : w5.cell? ⟨w.heap.size + 1, 43, none⟩ = some (.bool m.B.com) := cell_of (Gr.keep (unhide T4) (unhide HB) (by omega)) 43
  have y44 : w5.cell? ⟨w.heap.size + 1, 44, none⟩ = some (.slice m.ba m.B.vs.length m.bc) := cell_of (Gr.keep (unhide T4) (unhide HB) (by omega)) 44
  simp at z0
  have KA := hide (batch_w m.ba m.bc (unhide Q4) (unhide HBR) (unhide HBF) (by omega))
  by_cases hz : batE m.B ≠ 0
  · have HEE := hide (fst0_hit (unhide HE1) hz)
    have HQ : Hid (E ≠ 0) := hide (by rw [unhide HEE]; exact hz)
    have K := (unhide KA).mono (R' := fun e w' => e = gone (batE m.B) ∧ Touch (Off (Gr N w W1)) w5 w') (fun e w' h => ⟨h.2.2 hz, h.1⟩)
    rw [← unhide HEE] at K
    have HK := hide K
    clear K hz
    go_wp2_with fail
    refine (unhide HK).mono ?_
    rintro e wz ⟨rfl, t⟩
    have TF := hide (Off.leave (unhide HB0) ((unhide T4).trans t))
    clear t
    go_wp2
    exact ⟨rfl, unhide TF, fun h => absurd h (unhide HQ), fun _ => rfl⟩
  have hz2 : batE m.B = 0 := by omega
  have HE2 := hide (fst0_pass (unhide HE1) hz2)
  clear hz
  have K2 := (unhide KA).mono (R' := fun e w' => WD w0 (Gr N w W1) w5 b (batS s4 m.B) e w') (fun e w' h => ⟨(h.2.1 hz2).1, (h.2.1 hz2).2, h.1⟩)
  rw [unhide E5] at K2
  have HK := hide K2
  clear KA K2
  have l5 : s5.1.length ≤ s4.1.length + 4106 := by
    rw [← unhide E5]
    exact batS_len _ _
  go_wp2_with fail
  refine (unhide HK).mono ?_
  rintro e w6 ⟨rfl, q, t⟩
  have Q5 := hide q
  have T5 := hide ((unhide T4).trans t)
  clear q t HK z0 y36 y37 y38 y39 y40 y41 y42 y43 y44 hz2
  have z0 := cell_of (Gr.keep (unhide T5) (unhide HX) (Nat.le_refl _)) 0
  have y56 : w6.cell? ⟨w.heap.size + 1, 56, none⟩ = some (.slice m.bsa m.bs.length m.bsc) := cell_of (Gr.keep (unhide T5) (unhide HB) (by omega)) 56
  simp at z0
  by_cases hz : cntE m.bs.length ≠ 0
  · have HEE := hide (fst0_hit (unhide HE2) hz)
    have HQ : Hid (E ≠ 0) := hide (by rw [unhide HEE]; exact hz)
    have K := (layBa_long (cap := m.bsc) (unhide Q5) (unhide HBS) (unhide HBI) (unhide HMI).bm hz (by omega)).mono (R' := fun e w' => e = gone (cntE m.bs.length) ∧ Touch (Off (Gr N w W1)) w6 w') (fun e w' h => ⟨by rw [cnt_no hz]; exact h.1, h.2⟩)
    rw [← unhide HEE] at K
    have HK := hide K
    clear K hz
    go_wp2_with fail
    refine (unhide HK).mono ?_
    rintro e wz ⟨rfl, t⟩
    have TF := hide (Off.leave (unhide HB0) ((unhide T5).trans t))
    clear t
    go_wp2
    exact ⟨rfl, unhide TF, fun h => absurd h (unhide HQ), fun _ => rfl⟩
  have hz2 : cntE m.bs.length = 0 := by omega
  have HE3 := hide (fst0_pass (unhide HE2) hz2)
  clear hz
  have hc5 := cnt_ok hz2
  have KA := hide (layBa_any (cap := m.bsc) (unhide Q5) (unhide HBS) (unhide HBI) (unhide HMI).bm hz2 rfl (unhide E6) (by omega))
  clear hz2
  by_cases hz : errs m.bs ≠ 0
  · have HEE := hide (fst0_hit (unhide HE3) hz)
    have HQ : Hid (E ≠ 0) := hide (by rw [unhide HEE]; exact hz)
    have K := (unhide KA).mono (R' := fun e w' => e = gone (errs m.bs) ∧ Touch (Off (Gr N w W1)) w6 w') (fun e w' h => ⟨h.2.2 hz, h.1⟩)
    rw [← unhide HEE] at K
    have HK := hide K
    clear K hz
    go_wp2_with fail
    refine (unhide HK).mono ?_
    rintro e wz ⟨rfl, t⟩
    have TF := hide (Off.leave (unhide HB0) ((unhide T5).trans t))
    clear t
    go_wp2
    exact ⟨rfl, unhide TF, fun h => absurd h (unhide HQ), fun _ => rfl⟩
  have hz2 : errs m.bs = 0 := by omega
  have HE4 := hide (fst0_pass (unhide HE3) hz2)
  clear hz
  have HK := hide ((unhide KA).mono (R' := fun e w' => WD w0 (Gr N w W1) w6 b s6 e w') (fun e w' h => ⟨(h.2.1 hz2).1, (h.2.1 hz2).2, h.1⟩))
  clear KA
  have l6 : s6.1.length ≤ s5.1.length + 3000000 := by
    rw [← unhide E6]
    have h1 := foldBa_len m.bs (wX s5 (enc m.bs.length)) (unhide HBI)
    have h2 := wX_len s5 (enc m.bs.length)
    have h3 := enc_len10 (n := m.bs.length) (by omega)
    omega
  go_wp2_with fail
  refine (unhide HK).mono ?_
  rintro e w7 ⟨rfl, q, t⟩
  have Q6 := hide q
  have T6 := hide ((unhide T5).trans t)
  clear q t HK z0 y56 hz2 hc5
  have z0 := cell_of (Gr.keep (unhide T6) (unhide HX) (Nat.le_refl _)) 0
  have y57 : w7.cell? ⟨w.heap.size + 1, 57, none⟩ = some (.slice m.aa m.ab.length m.ac) := cell_of (Gr.keep (unhide T6) (unhide HB) (by omega)) 57
  simp at z0
  by_cases hz : cntE m.ab.length ≠ 0
  · have HEE := hide (fst0_hit (unhide HE4) hz)
    have HQ : Hid (E ≠ 0) := hide (by rw [unhide HEE]; exact hz)
    have K := (layAb_long (cap := m.ac) (unhide Q6) (unhide HAB) (unhide HAI) (unhide HMI).am hz (by omega)).mono (R' := fun e w' => e = gone (cntE m.ab.length) ∧ Touch (Off (Gr N w W1)) w7 w') (fun e w' h => ⟨by rw [cnt_no hz]; exact h.1, h.2⟩)
    rw [← unhide HEE] at K
    have HK := hide K
    clear K hz
    go_wp2_with fail
    refine (unhide HK).mono ?_
    rintro e wz ⟨rfl, t⟩
    have TF := hide (Off.leave (unhide HB0) ((unhide T6).trans t))
    clear t
    go_wp2
    exact ⟨rfl, unhide TF, fun h => absurd h (unhide HQ), fun _ => rfl⟩
  have hz2 : cntE m.ab.length = 0 := by omega
  have HE5 := hide (fst0_pass (unhide HE4) hz2)
  clear hz
  have hc5 := cnt_ok hz2
  have HK := hide (layAb_any (cap := m.ac) (unhide Q6) (unhide HAB) (unhide HAI) (unhide HMI).am hz2 (unhide E7) (by omega))
  have l7 : s7.1.length ≤ s6.1.length + 3000000 := by
    rw [← unhide E7]
    have h1 := foldAb_len m.ab (wX s6 (enc m.ab.length)) (unhide HAI)
    have h2 := wX_len s6 (enc m.ab.length)
    have h3 := enc_len10 (n := m.ab.length) (by omega)
    omega
  go_wp2_with fail
  refine (unhide HK).mono ?_
  rintro e w8 ⟨rfl, q, t⟩
  have Q7 := hide q
  have T7 := hide ((unhide T6).trans t)
  clear q t HK z0 y57 hz2 hc5
  have FF := hide (Wq.leave (unhide Q7) (unhide HB0) (unhide HN) (unhide HL) (unhide T7))
  have HEz := hide (fst0_end (unhide HE5))
  go_wp2
  go_returns
  exact ⟨(unhide FF).2, fun _ => ⟨rfl, (unhide FF).1⟩, fun h => absurd (unhide HEz) h⟩
end
end Go.Proofs.Ytcekleconjmfjaa
