/-
  Apply: the count, what is refused, and on to each kind's own call. Conditions: the image as it lies; the command's list lies elsewhere; the count is below 2^62.
-/
import Derived.Test.YtfakjcaolpmkeaaIga
namespace Go.Proofs.Ytfakjcaolpmkeaa
open Go.RowKit Go.Maps
set_option linter.unusedVariables false

def Im.cnt (m : Im) : Im := ⟨m.nv, m.pv, m.pb, m.ns, m.ps, m.nx, m.ct + 1⟩
theorem Im.cnt_R {m : Im} {mb k : Nat} (h : m.cnt.R mb k) : m.R mb k := h
structure Ready13 (w W : World) (mb : Nat) (m : Im) (c : Cm) : Prop where
  to_ : ImTo w mb m W m.cnt
  cin : CIn W c
section
variable {w w' : World} {mb : Nat} {m : Im}
theorem counted {c : Cm} (h : ImAt w mb m) (hc : CIn w c) (hap : 0 < c.l.length → ∀ x, c.a = some x → ¬ m.R mb x.block) (o : Obj) {W : World} (hb : Below ((w.setCell ⟨mb, 3, none⟩ (.int .i64 (m.ct + 1))).alloc o).heap.size ((w.setCell ⟨mb, 3, none⟩ (.int .i64 (m.ct + 1))).alloc o) W) : Ready13 w W mb m c := by
  have t := touch_set w mb 3 (.int .i64 (m.ct + 1))
  have i1 : ImTo w mb m (w.setCell ⟨mb, 3, none⟩ (.int .i64 (m.ct + 1))) m.cnt := ⟨h.updC (m.ct + 1), t.mono (fun k hk => .inl hk), fun k hk => .inl hk⟩
  have b0 := (Below.refl (w.setCell ⟨mb, 3, none⟩ (.int .i64 (m.ct + 1))).heap.size (w.setCell ⟨mb, 3, none⟩ (.int .i64 (m.ct + 1)))).alloc (Nat.le_refl _) o
  have b1 := b0.trans (hb.mono b0.size)
  have i3 : ImTo w mb m W m.cnt := ⟨i1.at_.later b1, touch_new i1.touch (Touch.of_below (S := fun _ => False) b1) (fun _ h => h.elim), i1.moved⟩
  exact ⟨i3, (hc.keep t (fun hl x hx e => hap hl x hx (.inl e))).later b1⟩
set_option maxHeartbeats 2000000 in
theorem apply_unfit {c : Cm} (h : ImAt w mb m) (hc : CIn w c) (hap : 0 < c.l.length → ∀ x, c.a = some x → ¬ m.R mb x.block) (h0 : 0 ≤ m.ct) (h1 : m.ct ≤ 4611686018427387904) (hf : fitsB m.ns.length m.ps.length c = false) {P : Value → World → Prop}
    (K : ∀ W, Ready13 w W mb m c → P (.int .i64 1) W) :
    Calls Try.prog 10 #[.pointer (some ⟨mb, 0, none⟩), .agg (cmA c)] w fun e w' => ∃ v, e = .returned v ∧ P v w' := by
  obtain ⟨kd, nd, pt, ep, ve, a, k, l⟩ := c
  skip
  have R0 := fun W => counted h hc hap (.cells #[.int .i64 kd, .int .i64 nd, .int .i64 pt, .int .i64 ep, .int .i64 ve, .slice a l.length k] 49) (W := W)
  have c3 := h.c.2.2.2.1
  have f3 := h.c.2.2.2.2 3
  have hmb : mb < w.heap.size := h.lt (.inl rfl)
  have HB : Hid (((w.setCell ⟨mb, 3, none⟩ (.int .i64 (m.ct + 1))).alloc (.cells #[.int .i64 kd, .int .i64 nd, .int .i64 pt, .int .i64 ep, .int .i64 ve, .slice a l.length k] 49)).heap[w.heap.size]? = some (.cells #[.int .i64 kd, .int .i64 nd, .int .i64 pt, .int .i64 ep, .int .i64 ve, .slice a l.length k] 49)) := hide (by
    have := box6 (w.setCell ⟨mb, 3, none⟩ (.int .i64 (m.ct + 1))) kd nd pt ep ve (.slice a l.length k) 49
    simpa using this)
  have R1 := R0 _ (Below.refl _ _)
  have KF := hide (fits_any R1.to_.at_ R1.cin)
  have ef : fitsB m.cnt.ns.length m.cnt.ps.length ⟨kd, nd, pt, ep, ve, a, k, l⟩ = false := hf
  rw [ef] at KF
  unfold cmA at KF ⊢
  simp only at KF ⊢
  have w1 : wrap64 (m.ct + 1) = m.ct + 1 := wrap64_low (by omega) (by omega)
  have w2 : IntKind.i64.wrap (m.ct + 1) = m.ct + 1 := wrap_low (by omega) (by omega)
  have HR0 := hide R0
  have HK := hide K
  clear h hc hap hf ef R1 R0 K h0 h1
  generalize m.ct = ct at *
  go_enter Try.func10, Try.ntmps10
  go_upto_region 4 with fail
  generalize (w.setCell ⟨mb, 3, none⟩ (.int .i64 (ct + 1))).alloc (.cells #[.int .i64 kd, .int .i64 nd, .int .i64 pt, .int .i64 ep, .int .i64 ve, .slice a l.length k] 49) = V at *
  clear c3 f3 w1 w2
  have x0 := cell_of (unhide HB) 0
  have x1 := cell_of (unhide HB) 1
  have x2 := cell_of (unhide HB) 2
  have x3 := cell_of (unhide HB) 3
  have x4 := cell_of (unhide HB) 4
  have x5 := cell_of (unhide HB) 5
  simp at x0 x1 x2 x3 x4 x5
  go_wp2_with (go_at_call 18; refine (unhide KF).mono ?_; rintro e W ⟨rfl, bW⟩; have RW := hide (unhide HR0 W bW); have HW := hide (below_keep bW (unhide HB)); have y0 := cell_of (unhide HW) 0; have y1 := cell_of (unhide HW) 1; have y2 := cell_of (unhide HW) 2; have y3 := cell_of (unhide HW) 3; have y4 := cell_of (unhide HW) 4; have y5 := cell_of (unhide HW) 5; simp at y0 y1 y2 y3 y4 y5; clear bW x0 x1 x2 x3 x4 x5)
  go_returns
  exact ⟨_, rfl, unhide HK _ (unhide RW)⟩
set_option maxHeartbeats 2000000 in
theorem apply_k1 {c : Cm} (h : ImAt w mb m) (hc : CIn w c) (hap : 0 < c.l.length → ∀ x, c.a = some x → ¬ m.R mb x.block) (h0 : 0 ≤ m.ct) (h1 : m.ct ≤ 4611686018427387904) (hf : fitsB m.ns.length m.ps.length c = true) (hk : c.kd = 1) {P : Value → World → Prop}
    (K : ∀ W, Ready13 w W mb m c → Calls Try.prog 19 #[.pointer (some ⟨mb, 0, none⟩), .int .i64 c.nd, .int .i64 c.ep] W fun e w' => ∃ v, e = .returned v ∧ P v w') :
    Calls Try.prog 10 #[.pointer (some ⟨mb, 0, none⟩), .agg (cmA c)] w fun e w' => ∃ v, e = .returned v ∧ P v w' := by
  obtain ⟨kd, nd, pt, ep, ve, a, k, l⟩ := c
  obtain rfl : kd = 1 := hk
  have R0 := fun W => counted h hc hap (.cells #[.int .i64 1, .int .i64 nd, .int .i64 pt, .int .i64 ep, .int .i64 ve, .slice a l.length k] 49) (W := W)
  have c3 := h.c.2.2.2.1
  have f3 := h.c.2.2.2.2 3
  have hmb : mb < w.heap.size := h.lt (.inl rfl)
  have HB : Hid (((w.setCell ⟨mb, 3, none⟩ (.int .i64 (m.ct + 1))).alloc (.cells #[.int .i64 1, .int .i64 nd, .int .i64 pt, .int .i64 ep, .int .i64 ve, .slice a l.length k] 49)).heap[w.heap.size]? = some (.cells #[.int .i64 1, .int .i64 nd, .int .i64 pt, .int .i64 ep, .int .i64 ve, .slice a l.length k] 49)) := hide (by
    have := box6 (w.setCell ⟨mb, 3, none⟩ (.int .i64 (m.ct + 1))) 1 nd pt ep ve (.slice a l.length k) 49
    simpa using this)
  have R1 := R0 _ (Below.refl _ _)
  have KF := hide (fits_any R1.to_.at_ R1.cin)
  have ef : fitsB m.cnt.ns.length m.cnt.ps.length ⟨1, nd, pt, ep, ve, a, k, l⟩ = true := hf
  rw [ef] at KF
  unfold cmA at KF ⊢
  simp only at KF ⊢
  have w1 : wrap64 (m.ct + 1) = m.ct + 1 := wrap64_low (by omega) (by omega)
  have w2 : IntKind.i64.wrap (m.ct + 1) = m.ct + 1 := wrap_low (by omega) (by omega)
  have HR0 := hide R0
  have HK := hide K
  clear h hc hap hf ef R1 R0 K h0 h1
  generalize m.ct = ct at *
  go_enter Try.func10, Try.ntmps10
  go_upto_region 4 with fail
  generalize (w.setCell ⟨mb, 3, none⟩ (.int .i64 (ct + 1))).alloc (.cells #[.int .i64 1, .int .i64 nd, .int .i64 pt, .int .i64 ep, .int .i64 ve, .slice a l.length k] 49) = V at *
  clear c3 f3 w1 w2
  have x0 := cell_of (unhide HB) 0
  have x1 := cell_of (unhide HB) 1
  have x2 := cell_of (unhide HB) 2
  have x3 := cell_of (unhide HB) 3
  have x4 := cell_of (unhide HB) 4
  have x5 := cell_of (unhide HB) 5
  simp at x0 x1 x2 x3 x4 x5
  go_wp2_with (go_at_call 18; refine (unhide KF).mono ?_; rintro e W ⟨rfl, bW⟩; have RW := hide (unhide HR0 W bW); have HW := hide (below_keep bW (unhide HB)); have y0 := cell_of (unhide HW) 0; have y1 := cell_of (unhide HW) 1; have y2 := cell_of (unhide HW) 2; have y3 := cell_of (unhide HW) 3; have y4 := cell_of (unhide HW) 4; have y5 := cell_of (unhide HW) 5; simp at y0 y1 y2 y3 y4 y5; clear bW x0 x1 x2 x3 x4 x5 ; have KC := hide (unhide HK W (unhide RW)))
  go_wp2_with (go_at_call 19; refine (unhide KC).mono ?_; rintro e w9 ⟨v9, rfl, p9⟩; have P9 := hide p9; clear p9)
  go_returns
  exact ⟨_, rfl, unhide P9⟩
set_option maxHeartbeats 2000000 in
theorem apply_k2 {c : Cm} (h : ImAt w mb m) (hc : CIn w c) (hap : 0 < c.l.length → ∀ x, c.a = some x → ¬ m.R mb x.block) (h0 : 0 ≤ m.ct) (h1 : m.ct ≤ 4611686018427387904) (hf : fitsB m.ns.length m.ps.length c = true) (hk : c.kd = 2) {P : Value → World → Prop}
    (K : ∀ W, Ready13 w W mb m c → Calls Try.prog 20 #[.pointer (some ⟨mb, 0, none⟩), .int .i64 c.nd] W fun e w' => ∃ v, e = .returned v ∧ P v w') :
    Calls Try.prog 10 #[.pointer (some ⟨mb, 0, none⟩), .agg (cmA c)] w fun e w' => ∃ v, e = .returned v ∧ P v w' := by
  obtain ⟨kd, nd, pt, ep, ve, a, k, l⟩ := c
  obtain rfl : kd = 2 := hk
  have R0 := fun W => counted h hc hap (.cells #[.int .i64 2, .int .i64 nd, .int .i64 pt, .int .i64 ep, .int .i64 ve, .slice a l.length k] 49) (W := W)
  have c3 := h.c.2.2.2.1
  have f3 := h.c.2.2.2.2 3
  have hmb : mb < w.heap.size := h.lt (.inl rfl)
  have HB : Hid (((w.setCell ⟨mb, 3, none⟩ (.int .i64 (m.ct + 1))).alloc (.cells #[.int .i64 2, .int .i64 nd, .int .i64 pt, .int .i64 ep, .int .i64 ve, .slice a l.length k] 49)).heap[w.heap.size]? = some (.cells #[.int .i64 2, .int .i64 nd, .int .i64 pt, .int .i64 ep, .int .i64 ve, .slice a l.length k] 49)) := hide (by
    have := box6 (w.setCell ⟨mb, 3, none⟩ (.int .i64 (m.ct + 1))) 2 nd pt ep ve (.slice a l.length k) 49
    simpa using this)
  have R1 := R0 _ (Below.refl _ _)
  have KF := hide (fits_any R1.to_.at_ R1.cin)
  have ef : fitsB m.cnt.ns.length m.cnt.ps.length ⟨2, nd, pt, ep, ve, a, k, l⟩ = true := hf
  rw [ef] at KF
  unfold cmA at KF ⊢
  simp only at KF ⊢
  have w1 : wrap64 (m.ct + 1) = m.ct + 1 := wrap64_low (by omega) (by omega)
  have w2 : IntKind.i64.wrap (m.ct + 1) = m.ct + 1 := wrap_low (by omega) (by omega)
  have HR0 := hide R0
  have HK := hide K
  clear h hc hap hf ef R1 R0 K h0 h1
  generalize m.ct = ct at *
  go_enter Try.func10, Try.ntmps10
  go_upto_region 4 with fail
  generalize (w.setCell ⟨mb, 3, none⟩ (.int .i64 (ct + 1))).alloc (.cells #[.int .i64 2, .int .i64 nd, .int .i64 pt, .int .i64 ep, .int .i64 ve, .slice a l.length k] 49) = V at *
  clear c3 f3 w1 w2
  have x0 := cell_of (unhide HB) 0
  have x1 := cell_of (unhide HB) 1
  have x2 := cell_of (unhide HB) 2
  have x3 := cell_of (unhide HB) 3
  have x4 := cell_of (unhide HB) 4
  have x5 := cell_of (unhide HB) 5
  simp at x0 x1 x2 x3 x4 x5
  go_wp2_with (go_at_call 18; refine (unhide KF).mono ?_; rintro e W ⟨rfl, bW⟩; have RW := hide (unhide HR0 W bW); have HW := hide (below_keep bW (unhide HB)); have y0 := cell_of (unhide HW) 0; have y1 := cell_of (unhide HW) 1; have y2 := cell_of (unhide HW) 2; have y3 := cell_of (unhide HW) 3; have y4 := cell_of (unhide HW) 4; have y5 := cell_of (unhide HW) 5; simp at y0 y1 y2 y3 y4 y5; clear bW x0 x1 x2 x3 x4 x5 ; have KC := hide (unhide HK W (unhide RW)))
  go_wp2_with (go_at_call 20; refine (unhide KC).mono ?_; rintro e w9 ⟨v9, rfl, p9⟩; have P9 := hide p9; clear p9)
  go_returns
  exact ⟨_, rfl, unhide P9⟩
set_option maxHeartbeats 2000000 in
theorem apply_k3 {c : Cm} (h : ImAt w mb m) (hc : CIn w c) (hap : 0 < c.l.length → ∀ x, c.a = some x → ¬ m.R mb x.block) (h0 : 0 ≤ m.ct) (h1 : m.ct ≤ 4611686018427387904) (hf : fitsB m.ns.length m.ps.length c = true) (hk : c.kd = 3) {P : Value → World → Prop}
    (K : ∀ W, Ready13 w W mb m c → Calls Try.prog 21 #[.pointer (some ⟨mb, 0, none⟩), .agg (cmA c)] W fun e w' => ∃ v, e = .returned v ∧ P v w') :
    Calls Try.prog 10 #[.pointer (some ⟨mb, 0, none⟩), .agg (cmA c)] w fun e w' => ∃ v, e = .returned v ∧ P v w' := by
  obtain ⟨kd, nd, pt, ep, ve, a, k, l⟩ := c
  obtain rfl : kd = 3 := hk
  have R0 := fun W => counted h hc hap (.cells #[.int .i64 3, .int .i64 nd, .int .i64 pt, .int .i64 ep, .int .i64 ve, .slice a l.length k] 49) (W := W)
  have c3 := h.c.2.2.2.1
  have f3 := h.c.2.2.2.2 3
  have hmb : mb < w.heap.size := h.lt (.inl rfl)
  have HB : Hid (((w.setCell ⟨mb, 3, none⟩ (.int .i64 (m.ct + 1))).alloc (.cells #[.int .i64 3, .int .i64 nd, .int .i64 pt, .int .i64 ep, .int .i64 ve, .slice a l.length k] 49)).heap[w.heap.size]? = some (.cells #[.int .i64 3, .int .i64 nd, .int .i64 pt, .int .i64 ep, .int .i64 ve, .slice a l.length k] 49)) := hide (by
    have := box6 (w.setCell ⟨mb, 3, none⟩ (.int .i64 (m.ct + 1))) 3 nd pt ep ve (.slice a l.length k) 49
    simpa using this)
  have R1 := R0 _ (Below.refl _ _)
  have KF := hide (fits_any R1.to_.at_ R1.cin)
  have ef : fitsB m.cnt.ns.length m.cnt.ps.length ⟨3, nd, pt, ep, ve, a, k, l⟩ = true := hf
  rw [ef] at KF
  unfold cmA at KF ⊢
  simp only at KF ⊢
  have w1 : wrap64 (m.ct + 1) = m.ct + 1 := wrap64_low (by omega) (by omega)
  have w2 : IntKind.i64.wrap (m.ct + 1) = m.ct + 1 := wrap_low (by omega) (by omega)
  have HR0 := hide R0
  have HK := hide K
  clear h hc hap hf ef R1 R0 K h0 h1
  generalize m.ct = ct at *
  go_enter Try.func10, Try.ntmps10
  go_upto_region 4 with fail
  generalize (w.setCell ⟨mb, 3, none⟩ (.int .i64 (ct + 1))).alloc (.cells #[.int .i64 3, .int .i64 nd, .int .i64 pt, .int .i64 ep, .int .i64 ve, .slice a l.length k] 49) = V at *
  clear c3 f3 w1 w2
  have x0 := cell_of (unhide HB) 0
  have x1 := cell_of (unhide HB) 1
  have x2 := cell_of (unhide HB) 2
  have x3 := cell_of (unhide HB) 3
  have x4 := cell_of (unhide HB) 4
  have x5 := cell_of (unhide HB) 5
  simp at x0 x1 x2 x3 x4 x5
  go_wp2_with (go_at_call 18; refine (unhide KF).mono ?_; rintro e W ⟨rfl, bW⟩; have RW := hide (unhide HR0 W bW); have HW := hide (below_keep bW (unhide HB)); have y0 := cell_of (unhide HW) 0; have y1 := cell_of (unhide HW) 1; have y2 := cell_of (unhide HW) 2; have y3 := cell_of (unhide HW) 3; have y4 := cell_of (unhide HW) 4; have y5 := cell_of (unhide HW) 5; simp at y0 y1 y2 y3 y4 y5; clear bW x0 x1 x2 x3 x4 x5 ; have KC := hide (unhide HK W (unhide RW)))
  go_wp2_with (go_at_call 21; refine (unhide KC).mono ?_; rintro e w9 ⟨v9, rfl, p9⟩; have P9 := hide p9; clear p9)
  go_returns
  exact ⟨_, rfl, unhide P9⟩
set_option maxHeartbeats 2000000 in
theorem apply_k5 {c : Cm} (h : ImAt w mb m) (hc : CIn w c) (hap : 0 < c.l.length → ∀ x, c.a = some x → ¬ m.R mb x.block) (h0 : 0 ≤ m.ct) (h1 : m.ct ≤ 4611686018427387904) (hf : fitsB m.ns.length m.ps.length c = true) (hk : c.kd = 5) {P : Value → World → Prop}
    (K : ∀ W, Ready13 w W mb m c → Calls Try.prog 23 #[.pointer (some ⟨mb, 0, none⟩), .int .i64 c.nd] W fun e w' => ∃ v, e = .returned v ∧ P v w') :
    Calls Try.prog 10 #[.pointer (some ⟨mb, 0, none⟩), .agg (cmA c)] w fun e w' => ∃ v, e = .returned v ∧ P v w' := by
  obtain ⟨kd, nd, pt, ep, ve, a, k, l⟩ := c
  obtain rfl : kd = 5 := hk
  have R0 := fun W => counted h hc hap (.cells #[.int .i64 5, .int .i64 nd, .int .i64 pt, .int .i64 ep, .int .i64 ve, .slice a l.length k] 49) (W := W)
  have c3 := h.c.2.2.2.1
  have f3 := h.c.2.2.2.2 3
  have hmb : mb < w.heap.size := h.lt (.inl rfl)
  have HB : Hid (((w.setCell ⟨mb, 3, none⟩ (.int .i64 (m.ct + 1))).alloc (.cells #[.int .i64 5, .int .i64 nd, .int .i64 pt, .int .i64 ep, .int .i64 ve, .slice a l.length k] 49)).heap[w.heap.size]? = some (.cells #[.int .i64 5, .int .i64 nd, .int .i64 pt, .int .i64 ep, .int .i64 ve, .slice a l.length k] 49)) := hide (by
    have := box6 (w.setCell ⟨mb, 3, none⟩ (.int .i64 (m.ct + 1))) 5 nd pt ep ve (.slice a l.length k) 49
    simpa using this)
  have R1 := R0 _ (Below.refl _ _)
  have KF := hide (fits_any R1.to_.at_ R1.cin)
  have ef : fitsB m.cnt.ns.length m.cnt.ps.length ⟨5, nd, pt, ep, ve, a, k, l⟩ = true := hf
  rw [ef] at KF
  unfold cmA at KF ⊢
  simp only at KF ⊢
  have w1 : wrap64 (m.ct + 1) = m.ct + 1 := wrap64_low (by omega) (by omega)
  have w2 : IntKind.i64.wrap (m.ct + 1) = m.ct + 1 := wrap_low (by omega) (by omega)
  have HR0 := hide R0
  have HK := hide K
  clear h hc hap hf ef R1 R0 K h0 h1
  generalize m.ct = ct at *
  go_enter Try.func10, Try.ntmps10
  go_upto_region 4 with fail
  generalize (w.setCell ⟨mb, 3, none⟩ (.int .i64 (ct + 1))).alloc (.cells #[.int .i64 5, .int .i64 nd, .int .i64 pt, .int .i64 ep, .int .i64 ve, .slice a l.length k] 49) = V at *
  clear c3 f3 w1 w2
  have x0 := cell_of (unhide HB) 0
  have x1 := cell_of (unhide HB) 1
  have x2 := cell_of (unhide HB) 2
  have x3 := cell_of (unhide HB) 3
  have x4 := cell_of (unhide HB) 4
  have x5 := cell_of (unhide HB) 5
  simp at x0 x1 x2 x3 x4 x5
  go_wp2_with (go_at_call 18; refine (unhide KF).mono ?_; rintro e W ⟨rfl, bW⟩; have RW := hide (unhide HR0 W bW); have HW := hide (below_keep bW (unhide HB)); have y0 := cell_of (unhide HW) 0; have y1 := cell_of (unhide HW) 1; have y2 := cell_of (unhide HW) 2; have y3 := cell_of (unhide HW) 3; have y4 := cell_of (unhide HW) 4; have y5 := cell_of (unhide HW) 5; simp at y0 y1 y2 y3 y4 y5; clear bW x0 x1 x2 x3 x4 x5 ; have KC := hide (unhide HK W (unhide RW)))
  go_wp2_with (go_at_call 23; refine (unhide KC).mono ?_; rintro e w9 ⟨v9, rfl, p9⟩; have P9 := hide p9; clear p9)
  go_returns
  exact ⟨_, rfl, unhide P9⟩
end
end Go.Proofs.Ytfakjcaolpmkeaa
