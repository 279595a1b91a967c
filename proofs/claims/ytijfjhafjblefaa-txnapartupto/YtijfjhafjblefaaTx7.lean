/-
  txn's New and Tx. Conditions: at most 2^44 partitions.
-/
import Derived.Test.YtijfjhafjblefaaTx6
namespace Go.Proofs.Ytijfjhafjblefaa
open Go.RowKit Go.Maps
set_option linter.unusedVariables false

theorem tnew_any (w : World) : Calls Try.prog 17 #[] w fun e w' => e = .returned (.pointer (some ⟨w.heap.size, 0, none⟩)) ∧ w' = w.alloc (.cells #[.map none] 91) := by
  go_enter Try.func17, Try.ntmps17
  go_wp2
  go_returns
  exact ⟨rfl, rfl⟩
theorem ts_new (w : World) : TS (w.alloc (.cells #[.map none] 91)) w.heap.size (.map none) [] (fun _ => none) (· = w.heap.size) :=
  ⟨heap_new _ _, .inl ⟨rfl, rfl⟩, fun _ _ => rfl, (fun _ _ h => by cases h), (fun _ _ h => by cases h), rfl, fun k hk => by simp; omega⟩
def TxP (w : World) (x : Tx) (e : Ending) (w' : World) : Prop := ∃ q, e = .returned (tdV q) ∧ TFit w' q x ∧ New w (tdS q) ∧ Below w.heap.size w w'
set_option maxRecDepth 100000 in
theorem tx_nil (n : Int) (w : World) : Calls Try.prog 25 #[.pointer none, .int .i64 n] w fun e w' => e = .returned (.agg #[.int .i64 0, .int .i64 0, .int .u64 0, .int .i64 0, .slice none 0 0, .int .i64 0, .int .u64 0, .bool false]) ∧ Below w.heap.size w w' := by
  have F : Hid (Below w.heap.size w (w.alloc (.cells #[.int .i64 0, .int .i64 0, .int .u64 0, .int .i64 0, .slice none 0 0, .int .i64 0, .int .u64 0, .bool false] 57))) := (Below.refl _ _).alloc (Nat.le_refl _) _
  have hb := heap_new w (.cells #[.int .i64 0, .int .i64 0, .int .u64 0, .int .i64 0, .slice none 0 0, .int .i64 0, .int .u64 0, .bool false] 57)
  go_enter Try.func25, Try.ntmps25
  go_wp2
  generalize w.alloc (.cells #[.int .i64 0, .int .i64 0, .int .u64 0, .int .i64 0, .slice none 0 0, .int .i64 0, .int .u64 0, .bool false] 57) = W at *
  have y0 : W.cell? ⟨w.heap.size, 0, none⟩ = some (.int .i64 0) := cell_of hb 0
  have y1 : W.cell? ⟨w.heap.size, 1, none⟩ = some (.int .i64 0) := cell_of hb 1
  have y2 : W.cell? ⟨w.heap.size, 2, none⟩ = some (.int .u64 0) := cell_of hb 2
  have y3 : W.cell? ⟨w.heap.size, 3, none⟩ = some (.int .i64 0) := cell_of hb 3
  have y4 : W.cell? ⟨w.heap.size, 4, none⟩ = some (.slice none 0 0) := cell_of hb 4
  have y5 : W.cell? ⟨w.heap.size, 5, none⟩ = some (.int .i64 0) := cell_of hb 5
  have y6 : W.cell? ⟨w.heap.size, 6, none⟩ = some (.int .u64 0) := cell_of hb 6
  have y7 : W.cell? ⟨w.heap.size, 7, none⟩ = some (.bool false) := cell_of hb 7
  refine bodyPost_ret (by simp [results, Try.results25, go_sem, y0, y1, y2, y3, y4, y5, y6, y7]; try rfl) rfl ?_
  exact ⟨rfl, unhide F⟩
set_option maxRecDepth 100000 in
set_option maxHeartbeats 2000000 in
theorem tx_any {w : World} {sb : Nat} {mv : Value} {m : List (Int × Td)} {K : Int → Option Tx} {R : Nat → Prop} {n : Int} (h : TS w sb mv m K R) (hn : I64 n) (hl : (getT K n).ps.length ≤ 17592186044416) :
    Calls Try.prog 25 #[.pointer (some ⟨sb, 0, none⟩), .int .i64 n] w fun e w' => TxP w (getT K n) e w' := by
  have b0 : Below w.heap.size w (w.alloc (.cells #[.int .i64 0, .int .i64 0, .int .u64 0, .int .i64 0, .slice none 0 0, .int .i64 0, .int .u64 0, .bool false] 57)) := (Below.refl _ _).alloc (Nat.le_refl _) _
  have KA := hide (at_any (h.later b0) hn)
  have B0 := hide b0
  have H0 := hide (heap_new w (.cells #[.int .i64 0, .int .i64 0, .int .u64 0, .int .i64 0, .slice none 0 0, .int .i64 0, .int .u64 0, .bool false] 57))
  have HL := hide hl
  clear h hn b0 hl
  go_enter Try.func25, Try.ntmps25
  go_wp2_with fail
  refine (unhide KA).mono ?_
  rintro e w1 ⟨q, rfl, f1, _, b1⟩
  have hb1 : Below w.heap.size w w1 := (unhide B0).trans (b1.mono (by simp))
  have hr1 : w1.heap[w.heap.size]? = some (.cells #[.int .i64 0, .int .i64 0, .int .u64 0, .int .i64 0, .slice none 0 0, .int .i64 0, .int .u64 0, .bool false] 57) := below_keep b1 (unhide H0)
  have hgt : w.heap.size < w1.heap.size := lt_of_heap hr1
  obtain ⟨x, hx⟩ : ∃ x, getT K n = x := ⟨_, rfl⟩
  rw [hx] at f1 HL
  have HX := hide hx
  clear hx
  have b2 : Below w1.heap.size w1 (w1.alloc (.cells (tdC q) 57)) := (Below.refl _ _).alloc (Nat.le_refl _) _
  obtain ⟨ra, rc, re, rI, rl, rm, rn, _⟩ := (f1.later b2).row.iat
  have KC := clonei_any (c := rc) rI (by have := unhide HL; omega) (fun e => by
    have h1 := rn e
    exact List.eq_nil_of_length_eq_zero (by omega))
  have hX := heap_new w1 (.cells (tdC q) 57)
  rw [← re] at KC
  have F1 := hide f1
  obtain ⟨st, ix, px, ep, g, n', c, la, lp, co⟩ := q
  obtain ⟨sa, hsa⟩ : ∃ y, g.map (fun g => (⟨g, 0, none⟩ : Addr)) = y := ⟨_, rfl⟩
  simp only [tdC, tdS, hsa] at KC hX b2
  simp only [tdV, tdC, tdS, hsa]
  have BB := hide hb1
  have RB := hide hr1
  have KCH := hide KC
  have XX := hide hX
  clear KC hX rI rl rm rn re f1 b1 hb1 hr1 KA B0 H0 hsa HL b2
  go_wp2_with fail
  refine (unhide KCH).mono ?_
  rintro e w3 ⟨v, rfl, i1, i2, b3⟩
  obtain ⟨vg, vc, ev⟩ := i1.shape0
  have xb := below_keep b3 (unhide XX)
  have hb3 : Below w.heap.size w w3 := ((unhide BB).alloc (unhide BB).size _).trans (b3.mono (by simp; omega))
  have hr3 := below_keep b3 (heap_old _ (unhide RB))
  have I2 : Hid (∀ k, v.ownBlock = some k → w1.heap.size < k) := fun k hk => by have := i2 k hk; simp at this; omega
  have F : Hid (∀ W, Touch (fun k => k = w.heap.size ∨ k = w1.heap.size) w3 W → Below w.heap.size w W → TxP w x (.returned (tdV ⟨st, ix, px, ep, vg, x.ps.length, vc, la, lp, co⟩)) W) := fun W t b => by
    subst ev
    refine ⟨_, rfl, ⟨(unhide F1).st, (unhide F1).inc, (unhide F1).pid, (unhide F1).ep, (unhide F1).la, (unhide F1).lp, (unhide F1).co, i1.keep t (fun k hk e => by have := unhide I2 k hk; omega)⟩, fun k hk => by have := unhide I2 k hk; omega, b⟩
  obtain ⟨gb, hgb⟩ : ∃ y, w1.heap.size = y := ⟨_, rfl⟩
  rw [hgb] at xb hgt F ⊢
  have XB0 := hide xb
  have BW := hide hb3
  have RB3 := hide hr3
  clear KCH XX i1 i2 b3 xb hb3 hr3 BB RB F1 I2
  obtain ⟨vs, hvs⟩ : ∃ y, vg.map (fun g => (⟨g, 0, none⟩ : Addr)) = y := ⟨_, rfl⟩
  generalize x.ps.length = vn at *
  rw [hvs] at ev
  subst ev
  simp only [tdV, tdC, tdS, hvs] at F
  have p4 : w3.cell? ⟨gb, 4, none⟩ = some (.slice sa n' c) := cell_of (unhide XB0) 4
  have f4 : w3.frozen? ⟨gb, 4, none⟩ = false := frozen_of (unhide XB0) 4
  clear hvs
  go_upto_region 5 with fail
  have XB : Hid ((w3.setCell ⟨gb, 4, none⟩ (.slice vs vn vc)).heap[gb]? = some (.cells #[.int .i64 st, .int .i64 ix, .int .u64 px, .int .i64 ep, .slice vs vn vc, .int .i64 la, .int .u64 lp, .bool co] 57)) := set1 (unhide XB0) 4 _ rfl
  have HB : Hid ((w3.setCell ⟨gb, 4, none⟩ (.slice vs vn vc)).heap[w.heap.size]? = some (.cells #[.int .i64 0, .int .i64 0, .int .u64 0, .int .i64 0, .slice none 0 0, .int .i64 0, .int .u64 0, .bool false] 57)) := (touch_set w3 gb 4 _).keep (unhide RB3) (show ¬ w.heap.size = gb by omega)
  have T4 := hide (touch_set w3 gb 4 (.slice vs vn vc))
  have BW4 : Hid (Below w.heap.size w (w3.setCell ⟨gb, 4, none⟩ (.slice vs vn vc))) := below_touch (unhide BW) (unhide T4) (unhide BW).size (fun k hk => by omega)
  generalize w3.setCell ⟨gb, 4, none⟩ (.slice vs vn vc) = w4 at *
  clear XB0 RB3 p4 f4 hgb
  have q0 : w4.cell? ⟨gb, 0, none⟩ = some (.int .i64 st) := cell_of (unhide XB) 0
  have q1 : w4.cell? ⟨gb, 1, none⟩ = some (.int .i64 ix) := cell_of (unhide XB) 1
  have q2 : w4.cell? ⟨gb, 2, none⟩ = some (.int .u64 px) := cell_of (unhide XB) 2
  have q3 : w4.cell? ⟨gb, 3, none⟩ = some (.int .i64 ep) := cell_of (unhide XB) 3
  have q4 : w4.cell? ⟨gb, 4, none⟩ = some (.slice vs vn vc) := cell_of (unhide XB) 4
  have q5 : w4.cell? ⟨gb, 5, none⟩ = some (.int .i64 la) := cell_of (unhide XB) 5
  have q6 : w4.cell? ⟨gb, 6, none⟩ = some (.int .u64 lp) := cell_of (unhide XB) 6
  have q7 : w4.cell? ⟨gb, 7, none⟩ = some (.bool co) := cell_of (unhide XB) 7
  have x0 : w4.cell? ⟨w.heap.size, 0, none⟩ = some (.int .i64 0) := cell_of (unhide HB) 0
  have fx0 : w4.frozen? ⟨w.heap.size, 0, none⟩ = false := frozen_of (unhide HB) 0
  have x1 : w4.cell? ⟨w.heap.size, 1, none⟩ = some (.int .i64 0) := cell_of (unhide HB) 1
  have fx1 : w4.frozen? ⟨w.heap.size, 1, none⟩ = false := frozen_of (unhide HB) 1
  have x2 : w4.cell? ⟨w.heap.size, 2, none⟩ = some (.int .u64 0) := cell_of (unhide HB) 2
  have fx2 : w4.frozen? ⟨w.heap.size, 2, none⟩ = false := frozen_of (unhide HB) 2
  have x3 : w4.cell? ⟨w.heap.size, 3, none⟩ = some (.int .i64 0) := cell_of (unhide HB) 3
  have fx3 : w4.frozen? ⟨w.heap.size, 3, none⟩ = false := frozen_of (unhide HB) 3
  have x4 : w4.cell? ⟨w.heap.size, 4, none⟩ = some (.slice none 0 0) := cell_of (unhide HB) 4
  have fx4 : w4.frozen? ⟨w.heap.size, 4, none⟩ = false := frozen_of (unhide HB) 4
  have x5 : w4.cell? ⟨w.heap.size, 5, none⟩ = some (.int .i64 0) := cell_of (unhide HB) 5
  have fx5 : w4.frozen? ⟨w.heap.size, 5, none⟩ = false := frozen_of (unhide HB) 5
  have x6 : w4.cell? ⟨w.heap.size, 6, none⟩ = some (.int .u64 0) := cell_of (unhide HB) 6
  have fx6 : w4.frozen? ⟨w.heap.size, 6, none⟩ = false := frozen_of (unhide HB) 6
  have x7 : w4.cell? ⟨w.heap.size, 7, none⟩ = some (.bool false) := cell_of (unhide HB) 7
  have fx7 : w4.frozen? ⟨w.heap.size, 7, none⟩ = false := frozen_of (unhide HB) 7
  go_wp2
  obtain ⟨z1, z2⟩ := set8 (unhide HB) rfl (.int .i64 st) (.int .i64 ix) (.int .u64 px) (.int .i64 ep) (.slice vs vn vc) (.int .i64 la) (.int .u64 lp) (.bool co)
  have BT : Hid (Below w.heap.size w ((((((((w4.setCell ⟨w.heap.size, 0, none⟩ (.int .i64 st)).setCell ⟨w.heap.size, 1, none⟩ (.int .i64 ix)).setCell ⟨w.heap.size, 2, none⟩ (.int .u64 px)).setCell ⟨w.heap.size, 3, none⟩ (.int .i64 ep)).setCell ⟨w.heap.size, 4, none⟩ (.slice vs vn vc)).setCell ⟨w.heap.size, 5, none⟩ (.int .i64 la)).setCell ⟨w.heap.size, 6, none⟩ (.int .u64 lp)).setCell ⟨w.heap.size, 7, none⟩ (.bool co))) := below_touch (unhide BW4) z2 (unhide BW4).size (fun k hk => by omega)
  have TC : Hid (Touch (fun k => k = w.heap.size ∨ k = gb) w3 ((((((((w4.setCell ⟨w.heap.size, 0, none⟩ (.int .i64 st)).setCell ⟨w.heap.size, 1, none⟩ (.int .i64 ix)).setCell ⟨w.heap.size, 2, none⟩ (.int .u64 px)).setCell ⟨w.heap.size, 3, none⟩ (.int .i64 ep)).setCell ⟨w.heap.size, 4, none⟩ (.slice vs vn vc)).setCell ⟨w.heap.size, 5, none⟩ (.int .i64 la)).setCell ⟨w.heap.size, 6, none⟩ (.int .u64 lp)).setCell ⟨w.heap.size, 7, none⟩ (.bool co))) := ((unhide T4).mono (fun k hk => .inr hk)).trans (z2.mono (fun k hk => .inl hk))
  clear z2 HB XB T4 BW4 x0 fx0 x1 fx1 x2 fx2 x3 fx3 x4 fx4 x5 fx5 x6 fx6 x7 fx7 q0 q1 q2 q3 q4 q5 q6 q7
  generalize ((((((((w4.setCell ⟨w.heap.size, 0, none⟩ (.int .i64 st)).setCell ⟨w.heap.size, 1, none⟩ (.int .i64 ix)).setCell ⟨w.heap.size, 2, none⟩ (.int .u64 px)).setCell ⟨w.heap.size, 3, none⟩ (.int .i64 ep)).setCell ⟨w.heap.size, 4, none⟩ (.slice vs vn vc)).setCell ⟨w.heap.size, 5, none⟩ (.int .i64 la)).setCell ⟨w.heap.size, 6, none⟩ (.int .u64 lp)).setCell ⟨w.heap.size, 7, none⟩ (.bool co)) = WW at *
  have y0 : WW.cell? ⟨w.heap.size, 0, none⟩ = some (.int .i64 st) := cell_of z1 0
  have y1 : WW.cell? ⟨w.heap.size, 1, none⟩ = some (.int .i64 ix) := cell_of z1 1
  have y2 : WW.cell? ⟨w.heap.size, 2, none⟩ = some (.int .u64 px) := cell_of z1 2
  have y3 : WW.cell? ⟨w.heap.size, 3, none⟩ = some (.int .i64 ep) := cell_of z1 3
  have y4 : WW.cell? ⟨w.heap.size, 4, none⟩ = some (.slice vs vn vc) := cell_of z1 4
  have y5 : WW.cell? ⟨w.heap.size, 5, none⟩ = some (.int .i64 la) := cell_of z1 5
  have y6 : WW.cell? ⟨w.heap.size, 6, none⟩ = some (.int .u64 lp) := cell_of z1 6
  have y7 : WW.cell? ⟨w.heap.size, 7, none⟩ = some (.bool co) := cell_of z1 7
  refine bodyPost_ret (by simp [results, Try.results25, go_sem, y0, y1, y2, y3, y4, y5, y6, y7]; try rfl) rfl ?_
  rw [unhide HX]
  exact unhide F WW (unhide TC) (unhide BT)
end Go.Proofs.Ytijfjhafjblefaa
