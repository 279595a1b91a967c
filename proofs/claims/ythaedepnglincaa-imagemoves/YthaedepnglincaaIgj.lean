/-
  Apply of a CMove: on to move. Conditions: as Igb's; there is the partition.
-/
import Derived.Test.YthaedepnglincaaIgb
namespace Go.Proofs.Ythaedepnglincaa
open Go.RowKit Go.Maps
set_option linter.unusedVariables false

section
variable {w w' : World} {mb : Nat} {m : Im}
set_option maxHeartbeats 2000000 in
theorem apply_k4 {c : Cm} (h : ImAt w mb m) (hc : CIn w c) (hap : 0 < c.l.length → ∀ x, c.a = some x → ¬ m.R mb x.block) (h0 : 0 ≤ m.ct) (h1 : m.ct ≤ 4611686018427387904) (hf : fitsB m.ns.length m.ps.length c = true) (hk : c.kd = 4) {i pg cap : Nat} (hpt : c.pt = (i : Int)) (hil : i < m.ps.length) (hpv : m.pv = .slice (some ⟨pg, 0, none⟩) m.ps.length cap) {P : Value → World → Prop}
    (K : ∀ W, Ready13 w W mb m c → Calls Try.prog 20 #[.pointer (some ⟨mb, 0, none⟩), .pointer (some ⟨pg, i * 6, none⟩), .slice c.a c.l.length c.k] W fun e w' => ∃ v, e = .returned v ∧ P v w') :
    Calls Try.prog 7 #[.pointer (some ⟨mb, 0, none⟩), .agg (cmA c)] w fun e w' => ∃ v, e = .returned v ∧ P v w' := by
  obtain ⟨kd, nd, pt, ep, ve, a, k, l⟩ := c
  obtain rfl : kd = 4 := hk
  obtain rfl : pt = (i : Int) := hpt
  have hbig : m.ps.length ≤ 9223372036854775807 := by
    obtain ⟨g', cap', e', q1, q2, _⟩ := h.pc hil
    unfold maxLen at q2
    omega
  have hiz : (i : Int) < (m.ps.length : Int) := by omega
  have HPV := hide hpv
  have R0 := fun W => counted h hc hap (.cells #[.int .i64 4, .int .i64 nd, .int .i64 (i : Int), .int .i64 ep, .int .i64 ve, .slice a l.length k] 33) (W := W)
  have c3 := h.c.2.2.2.1
  have f3 := h.c.2.2.2.2 3
  have hmb : mb < w.heap.size := h.lt (.inl rfl)
  have HB : Hid (((w.setCell ⟨mb, 3, none⟩ (.int .i64 (m.ct + 1))).alloc (.cells #[.int .i64 4, .int .i64 nd, .int .i64 (i : Int), .int .i64 ep, .int .i64 ve, .slice a l.length k] 33)).heap[w.heap.size]? = some (.cells #[.int .i64 4, .int .i64 nd, .int .i64 (i : Int), .int .i64 ep, .int .i64 ve, .slice a l.length k] 33)) := hide (by
    have := box6 (w.setCell ⟨mb, 3, none⟩ (.int .i64 (m.ct + 1))) 4 nd (i : Int) ep ve (.slice a l.length k) 33
    simpa using this)
  have R1 := R0 _ (Below.refl _ _)
  have KF := hide (fits_any R1.to_.at_ R1.cin)
  have ef : fitsB m.cnt.ns.length m.cnt.ps.length ⟨4, nd, (i : Int), ep, ve, a, k, l⟩ = true := hf
  rw [ef] at KF
  unfold cmA at KF ⊢
  simp only at KF ⊢
  have w1 : wrap64 (m.ct + 1) = m.ct + 1 := wrap64_low (by omega) (by omega)
  have w2 : IntKind.i64.wrap (m.ct + 1) = m.ct + 1 := wrap_low (by omega) (by omega)
  have HR0 := hide R0
  have HK := hide K
  clear h hc hap hf ef R1 R0 K h0 h1 hpv hil
  obtain ⟨pn, hpn⟩ : ∃ pn, m.ps.length = pn := ⟨_, rfl⟩
  rw [hpn] at hbig hiz HPV
  clear hpn
  generalize m.ct = ct at *
  go_enter Try.func7, Try.ntmps7
  go_upto_region 4 with fail
  generalize (w.setCell ⟨mb, 3, none⟩ (.int .i64 (ct + 1))).alloc (.cells #[.int .i64 4, .int .i64 nd, .int .i64 (i : Int), .int .i64 ep, .int .i64 ve, .slice a l.length k] 33) = V at *
  clear c3 f3 w1 w2
  have x0 := cell_of (unhide HB) 0
  have x1 := cell_of (unhide HB) 1
  have x2 := cell_of (unhide HB) 2
  have x3 := cell_of (unhide HB) 3
  have x4 := cell_of (unhide HB) 4
  have x5 := cell_of (unhide HB) 5
  simp at x0 x1 x2 x3 x4 x5
  go_upto_region 15 with (go_at_call 16; refine (unhide KF).mono ?_; rintro e W ⟨rfl, bW⟩; have RW := hide (unhide HR0 W bW); have HW := hide (below_keep bW (unhide HB)); have y0 := cell_of (unhide HW) 0; have y1 := cell_of (unhide HW) 1; have y2 := cell_of (unhide HW) 2; have y3 := cell_of (unhide HW) 3; have y4 := cell_of (unhide HW) 4; have y5 := cell_of (unhide HW) 5; simp at y0 y1 y2 y3 y4 y5; clear bW x0 x1 x2 x3 x4 x5; have rm : W.cell? ⟨mb, 1, none⟩ = some m.pv := (unhide RW).to_.at_.c.2.1; rw [unhide HPV] at rm)
  have KC : Hid (∀ Z, Touch (fun _ => False) W Z → Calls Try.prog 20 #[.pointer (some ⟨mb, 0, none⟩), .pointer (some ⟨pg, i * 6, none⟩), .slice a l.length k] Z fun e w' => ∃ v, e = .returned v ∧ P v w') := hide (fun Z t => unhide HK Z ⟨(unhide RW).to_.quiet t, (unhide RW).cin.keep t (fun _ _ _ h => h)⟩)
  go_region_law (go_simp; go_at_call 20; refine (unhide KC _ (by first | exact (Touch.refl _ _).drew | exact ⟨rfl, rfl, rfl, Nat.le_refl _, fun _ _ _ => rfl⟩)).mono ?_; rintro e w9 ⟨v9, rfl, p9⟩; have P9 := hide p9; clear p9)
  all_goals
    go_wp2
    go_returns
    exact ⟨_, rfl, unhide P9⟩
end
end Go.Proofs.Ythaedepnglincaa
