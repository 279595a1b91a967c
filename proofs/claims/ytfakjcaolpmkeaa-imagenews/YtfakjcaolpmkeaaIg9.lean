/-
  Part: what an image tells of a partition; its lists are the caller's own. Conditions: there is the partition; its lists have at most 2^40 numbers.
-/
import Derived.Test.YtfakjcaolpmkeaaIg7
import Derived.Deep.CutBlock
namespace Go.Proofs.Ytfakjcaolpmkeaa
open Go.RowKit Go.Maps
set_option linter.unusedVariables false

/-- What Part tells. -/
structure Told13 (w w' : World) (q : Pt) (vi vr vt : Value) : Prop where
  li : IL w' vi q.is
  lr : IL w' vr q.rs
  lt : IL w' vt q.ts
  ni : New w vi
  nr : New w vr
  nt : New w vt
  ir : Apt vi vr
  it : Apt vi vt
  rt : Apt vr vt
  below : Below w.heap.size w w'
theorem told_of {w V w1 w2 w3 X : World} {bx : Nat} {q : Pt} {v1 v2 v3 : Value} (hb : Below w.heap.size w V) (hx : bx < V.heap.size) (hw : w.heap.size < V.heap.size) (hwb : w.heap.size ≤ bx) (i1 : IL w1 v1 q.is) (n1 : New V v1) (b1 : Below V.heap.size V w1) (i2 : IL w2 v2 q.rs) (n2 : New w1 v2) (b2 : Below w1.heap.size w1 w2)
    (i3 : IL w3 v3 q.ts) (n3 : New w2 v3) (b3 : Below w2.heap.size w2 w3) (t : Touch (fun k => k = bx ∨ k = w.heap.size) w3 X) : Told13 w X q v1 v2 v3 := by
  have s1 := b1.size
  have s2 := b2.size
  have s3 := b3.size
  have b23 : Below w1.heap.size w1 w3 := b2.trans (b3.mono s2)
  have bw : Below w.heap.size w w3 := hb.trans ((b1.trans (b23.mono s1)).mono hb.size)
  refine ⟨(i1.later b23).keep t (fun k hk e => ?_), (i2.later b3).keep t (fun k hk e => ?_), i3.keep t (fun k hk e => ?_), n1.mono hb.size, n2.mono (Nat.le_trans hb.size s1), n3.mono (Nat.le_trans hb.size (Nat.le_trans s1 s2)), fun k h1 h2 => ?_, fun k h1 h2 => ?_, fun k h1 h2 => ?_, below_touch bw t bw.size (fun k hk => by omega)⟩
  · have := n1 k hk; omega
  · have := n2 k hk; omega
  · have := n3 k hk; omega
  · have := i1.lt k h1; have := n2 k h2; omega
  · have := i1.lt k h1; have := n3 k h2; omega
  · have := i2.lt k h1; have := n3 k h2; omega
section
variable {w w' : World} {mb : Nat} {m : Im}
set_option maxHeartbeats 2000000 in
theorem part_any (h : ImAt w mb m) {x : Nat} (hx : x < m.ps.length) {q : Pt} {vi vr vt : Value} (hp : m.ps[x] = ⟨q, vi, vr, vt⟩) (l1 : q.is.length ≤ 1000000) (l2 : q.rs.length ≤ 1000000) (l3 : q.ts.length ≤ 1000000) :
    Calls Try.prog 11 #[.pointer (some ⟨mb, 0, none⟩), .int .i64 x] w fun e w' => ∃ ui ur ut, e = .returned (.tuple #[.agg #[.int .i64 q.ld, .int .i64 q.ep, .int .i64 q.ve, ui, ur, ut], .bool true]) ∧ Told13 w w' q ui ur ut := by
  have hN : isN m.ps.length (x : Int) = true := by simp [isN]; omega
  have b0 := (Below.refl w.heap.size w).alloc (Nat.le_refl _) (.cells #[.int .i64 0, .int .i64 0, .int .i64 0, .slice none 0 0, .slice none 0 0, .slice none 0 0] 42)
  have h1 := h.later b0
  have K := hide (isPart_eq h1 (x : Int))
  rw [hN] at K
  obtain ⟨g, cap, e, _, h2, h3, _⟩ := h1.pc hx
  have hbig : m.ps.length ≤ 9223372036854775807 := by unfold maxLen at h2; omega
  have hxz : (x : Int) < (m.ps.length : Int) := by omega
  obtain ⟨_, c1, _⟩ := h1.c
  rw [e] at c1
  have HE := h.each x hx
  rw [hp] at HE h3
  have d0 := h3 0 (by omega)
  have d1 := h3 1 (by omega)
  have d2 := h3 2 (by omega)
  have d3 := h3 3 (by omega)
  have d4 := h3 4 (by omega)
  have d5 := h3 5 (by omega)
  simp only [pmC, List.getElem?_cons_zero, List.getElem?_cons_succ, Nat.add_zero] at d0 d1 d2 d3 d4 d5
  obtain ⟨ld, ep, ve, is, rs, ts⟩ := q
  simp only at d0 d1 d2 l1 l2 l3
  obtain ⟨ai, ki, ei, qi, _, _, zi, _⟩ := HE.li.iat
  obtain ⟨ar, kr, er, qr, _, _, zr, _⟩ := HE.lr.iat
  obtain ⟨at', kt, et, qt, _, _, zt, _⟩ := HE.lt.iat
  simp only at ei qi er qr et qt zi zr zt
  have KC : Hid (∀ (a : Option Addr) (l : List Int) (k : Nat), IAt w a l → l.length ≤ 1000000 → (a = none → l = []) → ∀ U W, Below w.heap.size w U → Below U.heap.size U W → Calls Try.prog 25 #[.slice a l.length k] W fun e w' => ∃ b j, e = .returned (.slice b l.length j) ∧ IL w' (.slice b l.length j) l ∧ New U (.slice b l.length j) ∧ Below U.heap.size U w' ∧ Below w.heap.size w w') := hide (fun a l k q1 q2 q3 U W hu hb => by
    refine (clonei_any (c := k) (q1.later (hu.trans (hb.mono hu.size))) (by omega) q3).mono ?_
    rintro e w' ⟨v, rfl, j1, j2, j3⟩
    obtain ⟨b, j, ev, _⟩ := j1.iat
    subst ev
    have bb := hb.trans (j3.mono hb.size)
    exact ⟨b, j, rfl, j1, j2.mono hb.size, bb, hu.trans (bb.mono hu.size)⟩)
  have nz : ∀ {a : Option Addr} {l : List Int}, IAt w a l → a = none → l = [] := fun {a l} q e => by
    cases l with
    | nil => rfl
    | cons y r => obtain ⟨b, off, e2, _⟩ := q 0 (by simp); rw [e] at e2; cases e2
  have KI := hide (unhide KC ai is ki qi l1 (nz qi))
  have KR := hide (unhide KC ar rs kr qr l2 (nz qr))
  have KT := hide (unhide KC at' ts kt qt l3 (nz qt))
  rw [ei] at d3
  rw [er] at d4
  rw [et] at d5
  clear h h1 h3 e hN HE qi qr qt zi zr zt nz KC hp ei er et
  clear hx
  generalize m.ps.length = n at *
  generalize is.length = il at *
  generalize rs.length = rl at *
  generalize ts.length = tl at *
  go_enter Try.func11, Try.ntmps11
  go_upto_region 4 with (go_at_call 24; refine (unhide K).mono ?_; rintro e w1 ⟨rfl, rfl⟩)
  have BX : Hid (((w.alloc (.cells #[.int .i64 0, .int .i64 0, .int .i64 0, .slice none 0 0, .slice none 0 0, .slice none 0 0] 42)).alloc (.cells #[.int .i64 ld, .int .i64 ep, .int .i64 ve, .slice ai il ki, .slice ar rl kr, .slice at' tl kt] 42)).heap[w.heap.size + 1]? = some (.cells #[.int .i64 ld, .int .i64 ep, .int .i64 ve, .slice ai il ki, .slice ar rl kr, .slice at' tl kt] 42)) := hide (by have := heap_new (w.alloc (.cells #[.int .i64 0, .int .i64 0, .int .i64 0, .slice none 0 0, .slice none 0 0, .slice none 0 0] 42)) (.cells #[.int .i64 ld, .int .i64 ep, .int .i64 ve, .slice ai il ki, .slice ar rl kr, .slice at' tl kt] 42); simpa using this)
  have ZX : Hid (((w.alloc (.cells #[.int .i64 0, .int .i64 0, .int .i64 0, .slice none 0 0, .slice none 0 0, .slice none 0 0] 42)).alloc (.cells #[.int .i64 ld, .int .i64 ep, .int .i64 ve, .slice ai il ki, .slice ar rl kr, .slice at' tl kt] 42)).heap[w.heap.size]? = some (.cells #[.int .i64 0, .int .i64 0, .int .i64 0, .slice none 0 0, .slice none 0 0, .slice none 0 0] 42)) := hide (heap_old _ (heap_new _ _))
  have BV : Hid (Below w.heap.size w ((w.alloc (.cells #[.int .i64 0, .int .i64 0, .int .i64 0, .slice none 0 0, .slice none 0 0, .slice none 0 0] 42)).alloc (.cells #[.int .i64 ld, .int .i64 ep, .int .i64 ve, .slice ai il ki, .slice ar rl kr, .slice at' tl kt] 42))) := hide (b0.alloc b0.size _)
  clear b0 c1 d0 d1 d2 d3 d4 d5 K
  generalize (w.alloc (.cells #[.int .i64 0, .int .i64 0, .int .i64 0, .slice none 0 0, .slice none 0 0, .slice none 0 0] 42)).alloc (.cells #[.int .i64 ld, .int .i64 ep, .int .i64 ve, .slice ai il ki, .slice ar rl kr, .slice at' tl kt] 42) = V at *
  generalize hbx : w.heap.size + 1 = bx at *
  have HBX := hide hbx
  clear hbx
  have CB : Hid (∀ W, Below V.heap.size V W → W.heap[bx]? = some (.cells #[.int .i64 ld, .int .i64 ep, .int .i64 ve, .slice ai il ki, .slice ar rl kr, .slice at' tl kt] 42) ∧ W.heap[w.heap.size]? = some (.cells #[.int .i64 0, .int .i64 0, .int .i64 0, .slice none 0 0, .slice none 0 0, .slice none 0 0] 42)) := hide (fun W hb => ⟨below_keep hb (unhide BX), below_keep hb (unhide ZX)⟩)
  have CC : Hid (∀ W, Below V.heap.size V W → W.cell? ⟨bx, 3, none⟩ = some (.slice ai il ki) ∧ W.cell? ⟨bx, 4, none⟩ = some (.slice ar rl kr) ∧ W.cell? ⟨bx, 5, none⟩ = some (.slice at' tl kt) ∧ ∀ j, W.frozen? ⟨bx, j, none⟩ = false) := hide (fun W hb => by
    have := (unhide CB W hb).1
    exact ⟨cell_of this 3, cell_of this 4, cell_of this 5, fun j => frozen_of this j⟩)
  obtain ⟨y3, y4, y5, yf⟩ := unhide CC V (Below.refl _ _)
  have yf3 := yf 3
  clear yf
  go_cut [] from 19 (fun wx => ∃ a1 k1 a2 k2 a3 k3, Hid (wx.heap[bx]? = some (.cells #[.int .i64 ld, .int .i64 ep, .int .i64 ve, .slice a1 il k1, .slice a2 rl k2, .slice a3 tl k3] 42)) ∧ Hid (wx.heap[w.heap.size]? = some (.cells #[.int .i64 0, .int .i64 0, .int .i64 0, .slice none 0 0, .slice none 0 0, .slice none 0 0] 42)) ∧ Hid (∀ X', Touch (fun k => k = bx ∨ k = w.heap.size) wx X' → Told13 w X' ⟨ld, ep, ve, is, rs, ts⟩ (.slice a1 il k1) (.slice a2 rl k2) (.slice a3 tl k3)))
  case first =>
    go_region_law (first
      | (go_simp; go_at_call 25; refine (unhide KT w2 _ (unhide W2) (by first | exact Below.refl _ _ | exact Below.drew (Below.refl _ _) | exact below_drewN' (Below.refl _ _) _)).mono ?_; rintro e w3 ⟨a3, k3, rfl, i3, n3, b3, bw3⟩; have VB3 := hide ((unhide VB2).trans (b3.mono (unhide VB2).size)); obtain ⟨g3, g4, g5, gf⟩ := unhide CC w3 (unhide VB3); have gf3 := gf 3; have gf4 := gf 4; have gf5 := gf 5; have I3 := hide i3; have N3 := hide n3; have B3 := hide b3; have W3 := hide bw3; clear i3 n3 b3 bw3 gf)
      | (go_simp; go_at_call 25; refine (unhide KR w1 _ (unhide W1) (by first | exact Below.refl _ _ | exact Below.drew (Below.refl _ _) | exact below_drewN' (Below.refl _ _) _)).mono ?_; rintro e w2 ⟨a2, k2, rfl, i2, n2, b2, bw2⟩; have VB2 := hide ((unhide VB1).trans (b2.mono (unhide VB1).size)); obtain ⟨f3, f4, f5, _⟩ := unhide CC w2 (unhide VB2); have I2 := hide i2; have N2 := hide n2; have B2 := hide b2; have W2 := hide bw2; clear i2 n2 b2 bw2)
      | (go_simp; go_at_call 25; refine (unhide KI V _ (unhide BV) (by first | exact Below.refl _ _ | exact Below.drew (Below.refl _ _) | exact below_drewN' (Below.refl _ _) _)).mono ?_; rintro e w1 ⟨a1, k1, rfl, i1, n1, b1, bw1⟩; have VB1 := hide b1; obtain ⟨e3, e4, e5, _⟩ := unhide CC w1 (unhide VB1); have I1 := hide i1; have N1 := hide n1; have B1 := hide b1; have W1 := hide bw1; clear i1 n1 b1 bw1))
    all_goals
      have X1 : Hid ((((w3.setCell ⟨bx, 3, none⟩ (.slice a1 il k1)).setCell ⟨bx, 4, none⟩ (.slice a2 rl k2)).setCell ⟨bx, 5, none⟩ (.slice a3 tl k3)).heap[bx]? = some (.cells #[.int .i64 ld, .int .i64 ep, .int .i64 ve, .slice a1 il k1, .slice a2 rl k2, .slice a3 tl k3] 42)) := hide (by have a1' := heap_set (unhide CB w3 (unhide VB3)).1 3 (.slice a1 il k1); have a2' := heap_set a1' 4 (.slice a2 rl k2); have a3' := heap_set a2' 5 (.slice a3 tl k3); simpa using a3')
      have TX : Hid (Touch (· = bx) w3 (((w3.setCell ⟨bx, 3, none⟩ (.slice a1 il k1)).setCell ⟨bx, 4, none⟩ (.slice a2 rl k2)).setCell ⟨bx, 5, none⟩ (.slice a3 tl k3))) := hide (((touch_set _ _ _ _).trans (touch_set _ _ _ _)).trans (touch_set _ _ _ _))
      have X2 : Hid ((((w3.setCell ⟨bx, 3, none⟩ (.slice a1 il k1)).setCell ⟨bx, 4, none⟩ (.slice a2 rl k2)).setCell ⟨bx, 5, none⟩ (.slice a3 tl k3)).heap[w.heap.size]? = some (.cells #[.int .i64 0, .int .i64 0, .int .i64 0, .slice none 0 0, .slice none 0 0, .slice none 0 0] 42)) := hide ((unhide TX).keep (unhide CB w3 (unhide VB3)).2 (by have := unhide HBX; omega))
      have HV : w.heap.size < V.heap.size := lt_of_heap (unhide ZX)
      have HB2 : bx < V.heap.size := lt_of_heap (unhide BX)
      have TD : Hid (∀ X', Touch (fun k => k = bx ∨ k = w.heap.size) w3 X' → Told13 w X' ⟨ld, ep, ve, is, rs, ts⟩ (.slice a1 il k1) (.slice a2 rl k2) (.slice a3 tl k3)) := hide (fun X' t => told_of (unhide BV) HB2 HV (by have := unhide HBX; omega) (unhide I1) (unhide N1) (unhide B1) (unhide I2) (unhide N2) (unhide B2) (unhide I3) (unhide N3) (unhide B3) t)
      clear g3 g4 g5 gf3 gf4 gf5 y3 y4 y5 yf3 CB CC KI KR KT
      go_wp2_with fail
      go_meet
      exact ⟨a1, k1, a2, k2, a3, k3, X1, X2, hide (fun X' t => unhide TD X' (((unhide TX).mono (fun _ h => .inl h)).trans t))⟩
  case rest =>
    obtain ⟨a1, k1, a2, k2, a3, k3, X1, X2, TD⟩ := hcut
    clear y3 y4 y5 yf3 CB CC KI KR KT
    have z0 := cell_of (unhide X2) 0
    have z1 := cell_of (unhide X2) 1
    have z2 := cell_of (unhide X2) 2
    have z3 := cell_of (unhide X2) 3
    have z4 := cell_of (unhide X2) 4
    have z5 := cell_of (unhide X2) 5
    have zf := fun j => frozen_of (unhide X2) j
    have x0 := cell_of (unhide X1) 0
    have x1 := cell_of (unhide X1) 1
    have x2 := cell_of (unhide X1) 2
    have x3 := cell_of (unhide X1) 3
    have x4 := cell_of (unhide X1) 4
    have x5 := cell_of (unhide X1) 5
    simp at z0 z1 z2 z3 z4 z5 x0 x1 x2 x3 x4 x5
    go_wp2
    have YH : Hid (((((((wc.setCell ⟨w.heap.size, 0, none⟩ (.int .i64 ld)).setCell ⟨w.heap.size, 1, none⟩ (.int .i64 ep)).setCell ⟨w.heap.size, 2, none⟩ (.int .i64 ve)).setCell ⟨w.heap.size, 3, none⟩ (.slice a1 il k1)).setCell ⟨w.heap.size, 4, none⟩ (.slice a2 rl k2)).setCell ⟨w.heap.size, 5, none⟩ (.slice a3 tl k3)).heap[w.heap.size]? = some (.cells #[.int .i64 ld, .int .i64 ep, .int .i64 ve, .slice a1 il k1, .slice a2 rl k2, .slice a3 tl k3] 42)) := hide (by
      have q0 := heap_set (unhide X2) 0 (.int .i64 ld)
      have q1 := heap_set q0 1 (.int .i64 ep)
      have q2 := heap_set q1 2 (.int .i64 ve)
      have q3 := heap_set q2 3 (.slice a1 il k1)
      have q4 := heap_set q3 4 (.slice a2 rl k2)
      have q5 := heap_set q4 5 (.slice a3 tl k3)
      simpa using q5)
    have TY : Hid (Touch (· = w.heap.size) wc ((((((wc.setCell ⟨w.heap.size, 0, none⟩ (.int .i64 ld)).setCell ⟨w.heap.size, 1, none⟩ (.int .i64 ep)).setCell ⟨w.heap.size, 2, none⟩ (.int .i64 ve)).setCell ⟨w.heap.size, 3, none⟩ (.slice a1 il k1)).setCell ⟨w.heap.size, 4, none⟩ (.slice a2 rl k2)).setCell ⟨w.heap.size, 5, none⟩ (.slice a3 tl k3))) := hide ((((((touch_set _ _ _ _).trans (touch_set _ _ _ _)).trans (touch_set _ _ _ _)).trans (touch_set _ _ _ _)).trans (touch_set _ _ _ _)).trans (touch_set _ _ _ _))
    generalize ((((((wc.setCell ⟨w.heap.size, 0, none⟩ (.int .i64 ld)).setCell ⟨w.heap.size, 1, none⟩ (.int .i64 ep)).setCell ⟨w.heap.size, 2, none⟩ (.int .i64 ve)).setCell ⟨w.heap.size, 3, none⟩ (.slice a1 il k1)).setCell ⟨w.heap.size, 4, none⟩ (.slice a2 rl k2)).setCell ⟨w.heap.size, 5, none⟩ (.slice a3 tl k3)) = Y at *
    have y0 := cell_of (unhide YH) 0
    have y1 := cell_of (unhide YH) 1
    have y2 := cell_of (unhide YH) 2
    have y3 := cell_of (unhide YH) 3
    have y4 := cell_of (unhide YH) 4
    have y5 := cell_of (unhide YH) 5
    simp at y0 y1 y2 y3 y4 y5
    refine bodyPost_ret (by simp [results, Try.results11, go_sem, y0, y1, y2, y3, y4, y5]; try rfl) rfl ?_
    exact ⟨_, _, _, rfl, unhide TD _ ((unhide TY).mono (fun _ h => .inr h))⟩
end
end Go.Proofs.Ytfakjcaolpmkeaa
