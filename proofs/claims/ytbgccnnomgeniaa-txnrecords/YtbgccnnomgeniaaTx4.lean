/-
  txn's Add, of any state. Conditions: none but the state's own.
-/
import Derived.Test.YtbgccnnomgeniaaTx2
namespace Go.Proofs.Ytbgccnnomgeniaa
open Go.RowKit Go.Maps
set_option linter.unusedVariables false

set_option maxRecDepth 100000 in
set_option maxHeartbeats 4000000 in
theorem add_bad {sb : Nat} (n pid epoch part : Int) (w : World) (hn : ¬ (0 ≤ n ∧ n < 8)) : Calls Try.prog 25 #[.pointer (some ⟨sb, 0, none⟩), .int .i64 n, .int .u64 pid, .int .i64 epoch, .int .i64 part] w fun e w' => DnP w (noneD 1) e w' := by
  have KN : Hid (∀ er W, Calls Try.prog 44 #[.int .i64 er] W fun e w' => NoneP W er e w') := fun er W => tnone_any er W
  have KM := hide (named_bad sb n (w.alloc (.cells #[.int .i64 0, .int .i64 0, .int .i64 0, .int .u64 0, .int .i64 0, .slice none 0 0, .bool false] 25)) hn)
  have B0 : Hid (Below w.heap.size w (w.alloc (.cells #[.int .i64 0, .int .i64 0, .int .i64 0, .int .u64 0, .int .i64 0, .slice none 0 0, .bool false] 25))) := (Below.refl _ _).alloc (Nat.le_refl _) _
  have H0 := hide (heap_new w (.cells #[.int .i64 0, .int .i64 0, .int .i64 0, .int .u64 0, .int .i64 0, .slice none 0 0, .bool false] 25))
  go_enter Try.func25, Try.ntmps25
  go_wp2_with fail
  refine (unhide KM).mono ?_
  rintro e w1 ⟨rfl, b1⟩
  have HB : Hid (w1.heap[w.heap.size]? = some (.cells #[.int .i64 0, .int .i64 0, .int .i64 0, .int .u64 0, .int .i64 0, .slice none 0 0, .bool false] 25)) := below_keep b1 (unhide H0)
  have BW : Hid (Below w.heap.size w w1) := (unhide B0).trans (b1.mono (by simp))
  clear b1 KM B0 H0
  go_wp2_with fail
  refine (unhide KN _ _).mono ?_
  rintro e w3 ⟨rfl, b3⟩
  have HB3 : Hid (w3.heap[w.heap.size]? = some (.cells #[.int .i64 0, .int .i64 0, .int .i64 0, .int .u64 0, .int .i64 0, .slice none 0 0, .bool false] 25)) := below_keep b3 (heap_old _ (unhide HB))
  have BW3 : Hid (Below w.heap.size w w3) := ((unhide BW).alloc (unhide BW).size _).trans (b3.mono (by have := (unhide BW).size; simp; omega))
  clear b3 HB BW KN
  have HB := HB3
  have BW := BW3
  clear HB3 BW3
  have x0 : w3.cell? ⟨w.heap.size, 0, none⟩ = some (.int .i64 0) := cell_of (unhide HB) 0
  have fx0 : w3.frozen? ⟨w.heap.size, 0, none⟩ = false := frozen_of (unhide HB) 0
  have x1 : w3.cell? ⟨w.heap.size, 1, none⟩ = some (.int .i64 0) := cell_of (unhide HB) 1
  have fx1 : w3.frozen? ⟨w.heap.size, 1, none⟩ = false := frozen_of (unhide HB) 1
  have x2 : w3.cell? ⟨w.heap.size, 2, none⟩ = some (.int .i64 0) := cell_of (unhide HB) 2
  have fx2 : w3.frozen? ⟨w.heap.size, 2, none⟩ = false := frozen_of (unhide HB) 2
  have x3 : w3.cell? ⟨w.heap.size, 3, none⟩ = some (.int .u64 0) := cell_of (unhide HB) 3
  have fx3 : w3.frozen? ⟨w.heap.size, 3, none⟩ = false := frozen_of (unhide HB) 3
  have x4 : w3.cell? ⟨w.heap.size, 4, none⟩ = some (.int .i64 0) := cell_of (unhide HB) 4
  have fx4 : w3.frozen? ⟨w.heap.size, 4, none⟩ = false := frozen_of (unhide HB) 4
  have x5 : w3.cell? ⟨w.heap.size, 5, none⟩ = some (.slice none 0 0) := cell_of (unhide HB) 5
  have fx5 : w3.frozen? ⟨w.heap.size, 5, none⟩ = false := frozen_of (unhide HB) 5
  have x6 : w3.cell? ⟨w.heap.size, 6, none⟩ = some (.bool false) := cell_of (unhide HB) 6
  have fx6 : w3.frozen? ⟨w.heap.size, 6, none⟩ = false := frozen_of (unhide HB) 6
  go_wp2
  obtain ⟨z1, z2⟩ := set7 (unhide HB) rfl (.int .i64 0) (.int .i64 0) (.int .i64 0) (.int .u64 0) (.int .i64 0) (.slice none 0 0) (.bool false)
  have BT : Hid (Below w.heap.size w (((((((w3.setCell ⟨w.heap.size, 0, none⟩ (.int .i64 0)).setCell ⟨w.heap.size, 1, none⟩ (.int .i64 0)).setCell ⟨w.heap.size, 2, none⟩ (.int .i64 0)).setCell ⟨w.heap.size, 3, none⟩ (.int .u64 0)).setCell ⟨w.heap.size, 4, none⟩ (.int .i64 0)).setCell ⟨w.heap.size, 5, none⟩ (.slice none 0 0)).setCell ⟨w.heap.size, 6, none⟩ (.bool false))) := below_touch (unhide BW) z2 (unhide BW).size (fun k hk => by omega)
  have TT := hide z2
  clear z2 HB x0 fx0 x1 fx1 x2 fx2 x3 fx3 x4 fx4 x5 fx5 x6 fx6
  generalize (((((((w3.setCell ⟨w.heap.size, 0, none⟩ (.int .i64 0)).setCell ⟨w.heap.size, 1, none⟩ (.int .i64 0)).setCell ⟨w.heap.size, 2, none⟩ (.int .i64 0)).setCell ⟨w.heap.size, 3, none⟩ (.int .u64 0)).setCell ⟨w.heap.size, 4, none⟩ (.int .i64 0)).setCell ⟨w.heap.size, 5, none⟩ (.slice none 0 0)).setCell ⟨w.heap.size, 6, none⟩ (.bool false)) = WW at *
  have y0 : WW.cell? ⟨w.heap.size, 0, none⟩ = some (.int .i64 0) := cell_of z1 0
  have y1 : WW.cell? ⟨w.heap.size, 1, none⟩ = some (.int .i64 0) := cell_of z1 1
  have y2 : WW.cell? ⟨w.heap.size, 2, none⟩ = some (.int .i64 0) := cell_of z1 2
  have y3 : WW.cell? ⟨w.heap.size, 3, none⟩ = some (.int .u64 0) := cell_of z1 3
  have y4 : WW.cell? ⟨w.heap.size, 4, none⟩ = some (.int .i64 0) := cell_of z1 4
  have y5 : WW.cell? ⟨w.heap.size, 5, none⟩ = some (.slice none 0 0) := cell_of z1 5
  have y6 : WW.cell? ⟨w.heap.size, 6, none⟩ = some (.bool false) := cell_of z1 6
  refine bodyPost_ret (by simp [results, Try.results25, go_sem, y0, y1, y2, y3, y4, y5, y6]; try rfl) rfl ?_
  exact ⟨none, 0, rfl, IL.nil _, New.nil _, unhide BT⟩
set_option maxRecDepth 100000 in
set_option maxHeartbeats 4000000 in
theorem add_nil (n pid epoch part : Int) (w : World) : Calls Try.prog 25 #[.pointer none, .int .i64 n, .int .u64 pid, .int .i64 epoch, .int .i64 part] w fun e w' => DnP w (noneD 5) e w' := by
  have KN : Hid (∀ er W, Calls Try.prog 44 #[.int .i64 er] W fun e w' => NoneP W er e w') := fun er W => tnone_any er W
  have KM := hide (named_nil n (w.alloc (.cells #[.int .i64 0, .int .i64 0, .int .i64 0, .int .u64 0, .int .i64 0, .slice none 0 0, .bool false] 25)))
  have B0 : Hid (Below w.heap.size w (w.alloc (.cells #[.int .i64 0, .int .i64 0, .int .i64 0, .int .u64 0, .int .i64 0, .slice none 0 0, .bool false] 25))) := (Below.refl _ _).alloc (Nat.le_refl _) _
  have H0 := hide (heap_new w (.cells #[.int .i64 0, .int .i64 0, .int .i64 0, .int .u64 0, .int .i64 0, .slice none 0 0, .bool false] 25))
  go_enter Try.func25, Try.ntmps25
  go_wp2_with fail
  refine (unhide KM).mono ?_
  rintro e w1 ⟨rfl, b1⟩
  have HB : Hid (w1.heap[w.heap.size]? = some (.cells #[.int .i64 0, .int .i64 0, .int .i64 0, .int .u64 0, .int .i64 0, .slice none 0 0, .bool false] 25)) := below_keep b1 (unhide H0)
  have BW : Hid (Below w.heap.size w w1) := (unhide B0).trans (b1.mono (by simp))
  clear b1 KM B0 H0
  go_wp2_with fail
  refine (unhide KN _ _).mono ?_
  rintro e w3 ⟨rfl, b3⟩
  have HB3 : Hid (w3.heap[w.heap.size]? = some (.cells #[.int .i64 0, .int .i64 0, .int .i64 0, .int .u64 0, .int .i64 0, .slice none 0 0, .bool false] 25)) := below_keep b3 (heap_old _ (unhide HB))
  have BW3 : Hid (Below w.heap.size w w3) := ((unhide BW).alloc (unhide BW).size _).trans (b3.mono (by have := (unhide BW).size; simp; omega))
  clear b3 HB BW KN
  have HB := HB3
  have BW := BW3
  clear HB3 BW3
  have x0 : w3.cell? ⟨w.heap.size, 0, none⟩ = some (.int .i64 0) := cell_of (unhide HB) 0
  have fx0 : w3.frozen? ⟨w.heap.size, 0, none⟩ = false := frozen_of (unhide HB) 0
  have x1 : w3.cell? ⟨w.heap.size, 1, none⟩ = some (.int .i64 0) := cell_of (unhide HB) 1
  have fx1 : w3.frozen? ⟨w.heap.size, 1, none⟩ = false := frozen_of (unhide HB) 1
  have x2 : w3.cell? ⟨w.heap.size, 2, none⟩ = some (.int .i64 0) := cell_of (unhide HB) 2
  have fx2 : w3.frozen? ⟨w.heap.size, 2, none⟩ = false := frozen_of (unhide HB) 2
  have x3 : w3.cell? ⟨w.heap.size, 3, none⟩ = some (.int .u64 0) := cell_of (unhide HB) 3
  have fx3 : w3.frozen? ⟨w.heap.size, 3, none⟩ = false := frozen_of (unhide HB) 3
  have x4 : w3.cell? ⟨w.heap.size, 4, none⟩ = some (.int .i64 0) := cell_of (unhide HB) 4
  have fx4 : w3.frozen? ⟨w.heap.size, 4, none⟩ = false := frozen_of (unhide HB) 4
  have x5 : w3.cell? ⟨w.heap.size, 5, none⟩ = some (.slice none 0 0) := cell_of (unhide HB) 5
  have fx5 : w3.frozen? ⟨w.heap.size, 5, none⟩ = false := frozen_of (unhide HB) 5
  have x6 : w3.cell? ⟨w.heap.size, 6, none⟩ = some (.bool false) := cell_of (unhide HB) 6
  have fx6 : w3.frozen? ⟨w.heap.size, 6, none⟩ = false := frozen_of (unhide HB) 6
  go_wp2
  obtain ⟨z1, z2⟩ := set7 (unhide HB) rfl (.int .i64 0) (.int .i64 0) (.int .i64 0) (.int .u64 0) (.int .i64 0) (.slice none 0 0) (.bool false)
  have BT : Hid (Below w.heap.size w (((((((w3.setCell ⟨w.heap.size, 0, none⟩ (.int .i64 0)).setCell ⟨w.heap.size, 1, none⟩ (.int .i64 0)).setCell ⟨w.heap.size, 2, none⟩ (.int .i64 0)).setCell ⟨w.heap.size, 3, none⟩ (.int .u64 0)).setCell ⟨w.heap.size, 4, none⟩ (.int .i64 0)).setCell ⟨w.heap.size, 5, none⟩ (.slice none 0 0)).setCell ⟨w.heap.size, 6, none⟩ (.bool false))) := below_touch (unhide BW) z2 (unhide BW).size (fun k hk => by omega)
  have TT := hide z2
  clear z2 HB x0 fx0 x1 fx1 x2 fx2 x3 fx3 x4 fx4 x5 fx5 x6 fx6
  generalize (((((((w3.setCell ⟨w.heap.size, 0, none⟩ (.int .i64 0)).setCell ⟨w.heap.size, 1, none⟩ (.int .i64 0)).setCell ⟨w.heap.size, 2, none⟩ (.int .i64 0)).setCell ⟨w.heap.size, 3, none⟩ (.int .u64 0)).setCell ⟨w.heap.size, 4, none⟩ (.int .i64 0)).setCell ⟨w.heap.size, 5, none⟩ (.slice none 0 0)).setCell ⟨w.heap.size, 6, none⟩ (.bool false)) = WW at *
  have y0 : WW.cell? ⟨w.heap.size, 0, none⟩ = some (.int .i64 0) := cell_of z1 0
  have y1 : WW.cell? ⟨w.heap.size, 1, none⟩ = some (.int .i64 0) := cell_of z1 1
  have y2 : WW.cell? ⟨w.heap.size, 2, none⟩ = some (.int .i64 0) := cell_of z1 2
  have y3 : WW.cell? ⟨w.heap.size, 3, none⟩ = some (.int .u64 0) := cell_of z1 3
  have y4 : WW.cell? ⟨w.heap.size, 4, none⟩ = some (.int .i64 0) := cell_of z1 4
  have y5 : WW.cell? ⟨w.heap.size, 5, none⟩ = some (.slice none 0 0) := cell_of z1 5
  have y6 : WW.cell? ⟨w.heap.size, 6, none⟩ = some (.bool false) := cell_of z1 6
  refine bodyPost_ret (by simp [results, Try.results25, go_sem, y0, y1, y2, y3, y4, y5, y6]; try rfl) rfl ?_
  exact ⟨none, 0, rfl, IL.nil _, New.nil _, unhide BT⟩
set_option maxRecDepth 100000 in
set_option maxHeartbeats 4000000 in
theorem add_any {w : World} {sb : Nat} {mv : Value} {m : List (Int × Td)} {K : Int → Option Tx} {R : Nat → Prop} (n pid epoch part : Int) (h : TS w sb mv m K R) :
    Calls Try.prog 25 #[.pointer (some ⟨sb, 0, none⟩), .int .i64 n, .int .u64 pid, .int .i64 epoch, .int .i64 part] w fun e w' => DnP w (addD (getT K n) n pid epoch part) e w' := by
  by_cases hn : 0 ≤ n ∧ n < 8
  rotate_left
  · have hd : addD (getT K n) n pid epoch part = noneD 1 := by unfold addD; rw [if_pos hn]
    rw [hd]
    exact add_bad n pid epoch part w hn
  have KN : Hid (∀ er W, Calls Try.prog 44 #[.int .i64 er] W fun e w' => NoneP W er e w') := fun er W => tnone_any er W
  have b0 : Below w.heap.size w (w.alloc (.cells #[.int .i64 0, .int .i64 0, .int .i64 0, .int .u64 0, .int .i64 0, .slice none 0 0, .bool false] 25)) := (Below.refl _ _).alloc (Nat.le_refl _) _
  have KM := hide (named_ok (h.later b0) hn)
  have B0 := hide b0
  have H0 := hide (heap_new w (.cells #[.int .i64 0, .int .i64 0, .int .i64 0, .int .u64 0, .int .i64 0, .slice none 0 0, .bool false] 25))
  have hn1 := hn.1
  have hn2 := hn.2
  clear h b0 hn
  have KB : Hid True := trivial
  have KP : Hid (∀ W, Calls Try.prog 48 #[.int .i64 part] W fun e w' => e = .returned (.bool (decide (0 ≤ part ∧ part < 6))) ∧ w' = W) := fun W => isPart_any part W
  go_enter Try.func25, Try.ntmps25
  go_wp2_with fail
  refine (unhide KM).mono ?_
  rintro e w1 ⟨q, rfl, f1, f2, b1⟩
  have HB : Hid (w1.heap[w.heap.size]? = some (.cells #[.int .i64 0, .int .i64 0, .int .i64 0, .int .u64 0, .int .i64 0, .slice none 0 0, .bool false] 25)) := below_keep b1 (unhide H0)
  have BW : Hid (Below w.heap.size w w1) := (unhide B0).trans (b1.mono (by simp))
  clear b1 KM B0 H0 f2
  obtain ⟨x, hx⟩ : ∃ x, getT K n = x := ⟨_, rfl⟩
  rw [hx] at f1
  obtain ⟨xst, xinc, xpid, xep, ps, xla, xlp, xco⟩ := x
  obtain ⟨st, ix, px, ep, g, n', c, la, lp, co⟩ := q
  obtain ⟨e1, e2, e3, e4, e5, e6, e7, row⟩ := f1
  simp only at e1 e2 e3 e4 e5 e6 e7 row
  subst e1 e2 e3 e4 e5 e6 e7
  simp only [tdV, tdC, tdS] at row ⊢
  generalize hsa : g.map (fun g => (⟨g, 0, none⟩ : Addr)) = sa at *
  clear hsa
  have HR := hide row
  have XE := hide hx
  clear row hx
  by_cases hp : 0 ≤ part ∧ part < 6
  rotate_left
  · have hp' : (0 ≤ part → 6 ≤ part) := fun h => by omega
    have KP2 : Hid (∀ W, Calls Try.prog 48 #[.int .i64 part] W fun e w' => e = .returned (.bool false) ∧ w' = W) := fun W => by have := unhide KP W; rw [decide_eq_false hp] at this; exact this
    have HD0 : Hid (addD (getT K n) n pid epoch part = noneD 1) := by show _ = _; rw [unhide XE]; unfold addD; rw [if_neg (not_not_intro ⟨hn1, hn2⟩), if_pos hp]
    clear hp hp' HR KP
    go_wp2_with fail
    refine (unhide KP2 _).mono ?_
    rintro e w2 ⟨rfl, rfl⟩
    clear KP2
    have HD := HD0
    clear XE KB
    go_wp2_with fail
    refine (unhide KN _ _).mono ?_
    rintro e w3 ⟨rfl, b3⟩
    have HB3 : Hid (w3.heap[w.heap.size]? = some (.cells #[.int .i64 0, .int .i64 0, .int .i64 0, .int .u64 0, .int .i64 0, .slice none 0 0, .bool false] 25)) := below_keep b3 (heap_old _ (unhide HB))
    have BW3 : Hid (Below w.heap.size w w3) := ((unhide BW).alloc (unhide BW).size _).trans (b3.mono (by have := (unhide BW).size; simp; omega))
    clear b3 HB BW KN
    have HB := HB3
    have BW := BW3
    clear HB3 BW3
    have x0 : w3.cell? ⟨w.heap.size, 0, none⟩ = some (.int .i64 0) := cell_of (unhide HB) 0
    have fx0 : w3.frozen? ⟨w.heap.size, 0, none⟩ = false := frozen_of (unhide HB) 0
    have x1 : w3.cell? ⟨w.heap.size, 1, none⟩ = some (.int .i64 0) := cell_of (unhide HB) 1
    have fx1 : w3.frozen? ⟨w.heap.size, 1, none⟩ = false := frozen_of (unhide HB) 1
    have x2 : w3.cell? ⟨w.heap.size, 2, none⟩ = some (.int .i64 0) := cell_of (unhide HB) 2
    have fx2 : w3.frozen? ⟨w.heap.size, 2, none⟩ = false := frozen_of (unhide HB) 2
    have x3 : w3.cell? ⟨w.heap.size, 3, none⟩ = some (.int .u64 0) := cell_of (unhide HB) 3
    have fx3 : w3.frozen? ⟨w.heap.size, 3, none⟩ = false := frozen_of (unhide HB) 3
    have x4 : w3.cell? ⟨w.heap.size, 4, none⟩ = some (.int .i64 0) := cell_of (unhide HB) 4
    have fx4 : w3.frozen? ⟨w.heap.size, 4, none⟩ = false := frozen_of (unhide HB) 4
    have x5 : w3.cell? ⟨w.heap.size, 5, none⟩ = some (.slice none 0 0) := cell_of (unhide HB) 5
    have fx5 : w3.frozen? ⟨w.heap.size, 5, none⟩ = false := frozen_of (unhide HB) 5
    have x6 : w3.cell? ⟨w.heap.size, 6, none⟩ = some (.bool false) := cell_of (unhide HB) 6
    have fx6 : w3.frozen? ⟨w.heap.size, 6, none⟩ = false := frozen_of (unhide HB) 6
    go_wp2
    obtain ⟨z1, z2⟩ := set7 (unhide HB) rfl (.int .i64 0) (.int .i64 0) (.int .i64 0) (.int .u64 0) (.int .i64 0) (.slice none 0 0) (.bool false)
    have BT : Hid (Below w.heap.size w (((((((w3.setCell ⟨w.heap.size, 0, none⟩ (.int .i64 0)).setCell ⟨w.heap.size, 1, none⟩ (.int .i64 0)).setCell ⟨w.heap.size, 2, none⟩ (.int .i64 0)).setCell ⟨w.heap.size, 3, none⟩ (.int .u64 0)).setCell ⟨w.heap.size, 4, none⟩ (.int .i64 0)).setCell ⟨w.heap.size, 5, none⟩ (.slice none 0 0)).setCell ⟨w.heap.size, 6, none⟩ (.bool false))) := below_touch (unhide BW) z2 (unhide BW).size (fun k hk => by omega)
    have TT := hide z2
    clear z2 HB x0 fx0 x1 fx1 x2 fx2 x3 fx3 x4 fx4 x5 fx5 x6 fx6
    generalize (((((((w3.setCell ⟨w.heap.size, 0, none⟩ (.int .i64 0)).setCell ⟨w.heap.size, 1, none⟩ (.int .i64 0)).setCell ⟨w.heap.size, 2, none⟩ (.int .i64 0)).setCell ⟨w.heap.size, 3, none⟩ (.int .u64 0)).setCell ⟨w.heap.size, 4, none⟩ (.int .i64 0)).setCell ⟨w.heap.size, 5, none⟩ (.slice none 0 0)).setCell ⟨w.heap.size, 6, none⟩ (.bool false)) = WW at *
    have y0 : WW.cell? ⟨w.heap.size, 0, none⟩ = some (.int .i64 0) := cell_of z1 0
    have y1 : WW.cell? ⟨w.heap.size, 1, none⟩ = some (.int .i64 0) := cell_of z1 1
    have y2 : WW.cell? ⟨w.heap.size, 2, none⟩ = some (.int .i64 0) := cell_of z1 2
    have y3 : WW.cell? ⟨w.heap.size, 3, none⟩ = some (.int .u64 0) := cell_of z1 3
    have y4 : WW.cell? ⟨w.heap.size, 4, none⟩ = some (.int .i64 0) := cell_of z1 4
    have y5 : WW.cell? ⟨w.heap.size, 5, none⟩ = some (.slice none 0 0) := cell_of z1 5
    have y6 : WW.cell? ⟨w.heap.size, 6, none⟩ = some (.bool false) := cell_of z1 6
    refine bodyPost_ret (by simp [results, Try.results25, go_sem, y0, y1, y2, y3, y4, y5, y6]; try rfl) rfl ?_
    rw [unhide HD]
    exact ⟨none, 0, rfl, IL.nil _, New.nil _, unhide BT⟩
  have KP2 : Hid (∀ W, Calls Try.prog 48 #[.int .i64 part] W fun e w' => e = .returned (.bool true) ∧ w' = W) := fun W => by have := unhide KP W; rw [decide_eq_true hp] at this; exact this
  have hp1 := hp.1
  have hp2 := hp.2
  clear hp KP
  go_wp2_with fail
  refine (unhide KP2 _).mono ?_
  rintro e w2 ⟨rfl, rfl⟩
  clear KP2
  by_cases h0 : st = 0
  · subst h0
    clear HR
    have HD : Hid (addD (getT K n) n pid epoch part = noneD (10)) := by show _ = _; rw [unhide XE]; unfold addD; simp [hn1, hn2, hp1, hp2]
    clear XE KB
    go_wp2_with fail
    refine (unhide KN _ _).mono ?_
    rintro e w3 ⟨rfl, b3⟩
    have HB3 : Hid (w3.heap[w.heap.size]? = some (.cells #[.int .i64 0, .int .i64 0, .int .i64 0, .int .u64 0, .int .i64 0, .slice none 0 0, .bool false] 25)) := below_keep b3 (heap_old _ (unhide HB))
    have BW3 : Hid (Below w.heap.size w w3) := ((unhide BW).alloc (unhide BW).size _).trans (b3.mono (by have := (unhide BW).size; simp; omega))
    clear b3 HB BW KN
    have HB := HB3
    have BW := BW3
    clear HB3 BW3
    have x0 : w3.cell? ⟨w.heap.size, 0, none⟩ = some (.int .i64 0) := cell_of (unhide HB) 0
    have fx0 : w3.frozen? ⟨w.heap.size, 0, none⟩ = false := frozen_of (unhide HB) 0
    have x1 : w3.cell? ⟨w.heap.size, 1, none⟩ = some (.int .i64 0) := cell_of (unhide HB) 1
    have fx1 : w3.frozen? ⟨w.heap.size, 1, none⟩ = false := frozen_of (unhide HB) 1
    have x2 : w3.cell? ⟨w.heap.size, 2, none⟩ = some (.int .i64 0) := cell_of (unhide HB) 2
    have fx2 : w3.frozen? ⟨w.heap.size, 2, none⟩ = false := frozen_of (unhide HB) 2
    have x3 : w3.cell? ⟨w.heap.size, 3, none⟩ = some (.int .u64 0) := cell_of (unhide HB) 3
    have fx3 : w3.frozen? ⟨w.heap.size, 3, none⟩ = false := frozen_of (unhide HB) 3
    have x4 : w3.cell? ⟨w.heap.size, 4, none⟩ = some (.int .i64 0) := cell_of (unhide HB) 4
    have fx4 : w3.frozen? ⟨w.heap.size, 4, none⟩ = false := frozen_of (unhide HB) 4
    have x5 : w3.cell? ⟨w.heap.size, 5, none⟩ = some (.slice none 0 0) := cell_of (unhide HB) 5
    have fx5 : w3.frozen? ⟨w.heap.size, 5, none⟩ = false := frozen_of (unhide HB) 5
    have x6 : w3.cell? ⟨w.heap.size, 6, none⟩ = some (.bool false) := cell_of (unhide HB) 6
    have fx6 : w3.frozen? ⟨w.heap.size, 6, none⟩ = false := frozen_of (unhide HB) 6
    go_wp2
    obtain ⟨z1, z2⟩ := set7 (unhide HB) rfl (.int .i64 0) (.int .i64 0) (.int .i64 0) (.int .u64 0) (.int .i64 0) (.slice none 0 0) (.bool false)
    have BT : Hid (Below w.heap.size w (((((((w3.setCell ⟨w.heap.size, 0, none⟩ (.int .i64 0)).setCell ⟨w.heap.size, 1, none⟩ (.int .i64 0)).setCell ⟨w.heap.size, 2, none⟩ (.int .i64 0)).setCell ⟨w.heap.size, 3, none⟩ (.int .u64 0)).setCell ⟨w.heap.size, 4, none⟩ (.int .i64 0)).setCell ⟨w.heap.size, 5, none⟩ (.slice none 0 0)).setCell ⟨w.heap.size, 6, none⟩ (.bool false))) := below_touch (unhide BW) z2 (unhide BW).size (fun k hk => by omega)
    have TT := hide z2
    clear z2 HB x0 fx0 x1 fx1 x2 fx2 x3 fx3 x4 fx4 x5 fx5 x6 fx6
    generalize (((((((w3.setCell ⟨w.heap.size, 0, none⟩ (.int .i64 0)).setCell ⟨w.heap.size, 1, none⟩ (.int .i64 0)).setCell ⟨w.heap.size, 2, none⟩ (.int .i64 0)).setCell ⟨w.heap.size, 3, none⟩ (.int .u64 0)).setCell ⟨w.heap.size, 4, none⟩ (.int .i64 0)).setCell ⟨w.heap.size, 5, none⟩ (.slice none 0 0)).setCell ⟨w.heap.size, 6, none⟩ (.bool false)) = WW at *
    have y0 : WW.cell? ⟨w.heap.size, 0, none⟩ = some (.int .i64 0) := cell_of z1 0
    have y1 : WW.cell? ⟨w.heap.size, 1, none⟩ = some (.int .i64 0) := cell_of z1 1
    have y2 : WW.cell? ⟨w.heap.size, 2, none⟩ = some (.int .i64 0) := cell_of z1 2
    have y3 : WW.cell? ⟨w.heap.size, 3, none⟩ = some (.int .u64 0) := cell_of z1 3
    have y4 : WW.cell? ⟨w.heap.size, 4, none⟩ = some (.int .i64 0) := cell_of z1 4
    have y5 : WW.cell? ⟨w.heap.size, 5, none⟩ = some (.slice none 0 0) := cell_of z1 5
    have y6 : WW.cell? ⟨w.heap.size, 6, none⟩ = some (.bool false) := cell_of z1 6
    refine bodyPost_ret (by simp [results, Try.results25, go_sem, y0, y1, y2, y3, y4, y5, y6]; try rfl) rfl ?_
    rw [unhide HD]
    exact ⟨none, 0, rfl, IL.nil _, New.nil _, unhide BT⟩
  by_cases h1 : px = pid
  rotate_left
  · clear HR
    have HD : Hid (addD (getT K n) n pid epoch part = noneD (10)) := by show _ = _; rw [unhide XE]; unfold addD; simp [hn1, hn2, hp1, hp2, h0, h1]
    clear XE KB
    go_wp2_with fail
    refine (unhide KN _ _).mono ?_
    rintro e w3 ⟨rfl, b3⟩
    have HB3 : Hid (w3.heap[w.heap.size]? = some (.cells #[.int .i64 0, .int .i64 0, .int .i64 0, .int .u64 0, .int .i64 0, .slice none 0 0, .bool false] 25)) := below_keep b3 (heap_old _ (unhide HB))
    have BW3 : Hid (Below w.heap.size w w3) := ((unhide BW).alloc (unhide BW).size _).trans (b3.mono (by have := (unhide BW).size; simp; omega))
    clear b3 HB BW KN
    have HB := HB3
    have BW := BW3
    clear HB3 BW3
    have x0 : w3.cell? ⟨w.heap.size, 0, none⟩ = some (.int .i64 0) := cell_of (unhide HB) 0
    have fx0 : w3.frozen? ⟨w.heap.size, 0, none⟩ = false := frozen_of (unhide HB) 0
    have x1 : w3.cell? ⟨w.heap.size, 1, none⟩ = some (.int .i64 0) := cell_of (unhide HB) 1
    have fx1 : w3.frozen? ⟨w.heap.size, 1, none⟩ = false := frozen_of (unhide HB) 1
    have x2 : w3.cell? ⟨w.heap.size, 2, none⟩ = some (.int .i64 0) := cell_of (unhide HB) 2
    have fx2 : w3.frozen? ⟨w.heap.size, 2, none⟩ = false := frozen_of (unhide HB) 2
    have x3 : w3.cell? ⟨w.heap.size, 3, none⟩ = some (.int .u64 0) := cell_of (unhide HB) 3
    have fx3 : w3.frozen? ⟨w.heap.size, 3, none⟩ = false := frozen_of (unhide HB) 3
    have x4 : w3.cell? ⟨w.heap.size, 4, none⟩ = some (.int .i64 0) := cell_of (unhide HB) 4
    have fx4 : w3.frozen? ⟨w.heap.size, 4, none⟩ = false := frozen_of (unhide HB) 4
    have x5 : w3.cell? ⟨w.heap.size, 5, none⟩ = some (.slice none 0 0) := cell_of (unhide HB) 5
    have fx5 : w3.frozen? ⟨w.heap.size, 5, none⟩ = false := frozen_of (unhide HB) 5
    have x6 : w3.cell? ⟨w.heap.size, 6, none⟩ = some (.bool false) := cell_of (unhide HB) 6
    have fx6 : w3.frozen? ⟨w.heap.size, 6, none⟩ = false := frozen_of (unhide HB) 6
    go_wp2
    obtain ⟨z1, z2⟩ := set7 (unhide HB) rfl (.int .i64 0) (.int .i64 0) (.int .i64 0) (.int .u64 0) (.int .i64 0) (.slice none 0 0) (.bool false)
    have BT : Hid (Below w.heap.size w (((((((w3.setCell ⟨w.heap.size, 0, none⟩ (.int .i64 0)).setCell ⟨w.heap.size, 1, none⟩ (.int .i64 0)).setCell ⟨w.heap.size, 2, none⟩ (.int .i64 0)).setCell ⟨w.heap.size, 3, none⟩ (.int .u64 0)).setCell ⟨w.heap.size, 4, none⟩ (.int .i64 0)).setCell ⟨w.heap.size, 5, none⟩ (.slice none 0 0)).setCell ⟨w.heap.size, 6, none⟩ (.bool false))) := below_touch (unhide BW) z2 (unhide BW).size (fun k hk => by omega)
    have TT := hide z2
    clear z2 HB x0 fx0 x1 fx1 x2 fx2 x3 fx3 x4 fx4 x5 fx5 x6 fx6
    generalize (((((((w3.setCell ⟨w.heap.size, 0, none⟩ (.int .i64 0)).setCell ⟨w.heap.size, 1, none⟩ (.int .i64 0)).setCell ⟨w.heap.size, 2, none⟩ (.int .i64 0)).setCell ⟨w.heap.size, 3, none⟩ (.int .u64 0)).setCell ⟨w.heap.size, 4, none⟩ (.int .i64 0)).setCell ⟨w.heap.size, 5, none⟩ (.slice none 0 0)).setCell ⟨w.heap.size, 6, none⟩ (.bool false)) = WW at *
    have y0 : WW.cell? ⟨w.heap.size, 0, none⟩ = some (.int .i64 0) := cell_of z1 0
    have y1 : WW.cell? ⟨w.heap.size, 1, none⟩ = some (.int .i64 0) := cell_of z1 1
    have y2 : WW.cell? ⟨w.heap.size, 2, none⟩ = some (.int .i64 0) := cell_of z1 2
    have y3 : WW.cell? ⟨w.heap.size, 3, none⟩ = some (.int .u64 0) := cell_of z1 3
    have y4 : WW.cell? ⟨w.heap.size, 4, none⟩ = some (.int .i64 0) := cell_of z1 4
    have y5 : WW.cell? ⟨w.heap.size, 5, none⟩ = some (.slice none 0 0) := cell_of z1 5
    have y6 : WW.cell? ⟨w.heap.size, 6, none⟩ = some (.bool false) := cell_of z1 6
    refine bodyPost_ret (by simp [results, Try.results25, go_sem, y0, y1, y2, y3, y4, y5, y6]; try rfl) rfl ?_
    rw [unhide HD]
    exact ⟨none, 0, rfl, IL.nil _, New.nil _, unhide BT⟩
  obtain rfl := h1.symm
  clear h1
  by_cases h2 : ep = epoch
  rotate_left
  · clear HR
    have h2b : (ep == epoch) = false := by simpa using h2
    have h2c : (ep != epoch) = true := by simpa using h2
    have HD : Hid (addD (getT K n) n pid epoch part = noneD (10)) := by show _ = _; rw [unhide XE]; unfold addD; simp [hn1, hn2, hp1, hp2, h0, h2]
    clear XE KB
    go_wp2_with fail
    refine (unhide KN _ _).mono ?_
    rintro e w3 ⟨rfl, b3⟩
    have HB3 : Hid (w3.heap[w.heap.size]? = some (.cells #[.int .i64 0, .int .i64 0, .int .i64 0, .int .u64 0, .int .i64 0, .slice none 0 0, .bool false] 25)) := below_keep b3 (heap_old _ (unhide HB))
    have BW3 : Hid (Below w.heap.size w w3) := ((unhide BW).alloc (unhide BW).size _).trans (b3.mono (by have := (unhide BW).size; simp; omega))
    clear b3 HB BW KN
    have HB := HB3
    have BW := BW3
    clear HB3 BW3
    have x0 : w3.cell? ⟨w.heap.size, 0, none⟩ = some (.int .i64 0) := cell_of (unhide HB) 0
    have fx0 : w3.frozen? ⟨w.heap.size, 0, none⟩ = false := frozen_of (unhide HB) 0
    have x1 : w3.cell? ⟨w.heap.size, 1, none⟩ = some (.int .i64 0) := cell_of (unhide HB) 1
    have fx1 : w3.frozen? ⟨w.heap.size, 1, none⟩ = false := frozen_of (unhide HB) 1
    have x2 : w3.cell? ⟨w.heap.size, 2, none⟩ = some (.int .i64 0) := cell_of (unhide HB) 2
    have fx2 : w3.frozen? ⟨w.heap.size, 2, none⟩ = false := frozen_of (unhide HB) 2
    have x3 : w3.cell? ⟨w.heap.size, 3, none⟩ = some (.int .u64 0) := cell_of (unhide HB) 3
    have fx3 : w3.frozen? ⟨w.heap.size, 3, none⟩ = false := frozen_of (unhide HB) 3
    have x4 : w3.cell? ⟨w.heap.size, 4, none⟩ = some (.int .i64 0) := cell_of (unhide HB) 4
    have fx4 : w3.frozen? ⟨w.heap.size, 4, none⟩ = false := frozen_of (unhide HB) 4
    have x5 : w3.cell? ⟨w.heap.size, 5, none⟩ = some (.slice none 0 0) := cell_of (unhide HB) 5
    have fx5 : w3.frozen? ⟨w.heap.size, 5, none⟩ = false := frozen_of (unhide HB) 5
    have x6 : w3.cell? ⟨w.heap.size, 6, none⟩ = some (.bool false) := cell_of (unhide HB) 6
    have fx6 : w3.frozen? ⟨w.heap.size, 6, none⟩ = false := frozen_of (unhide HB) 6
    go_wp2
    obtain ⟨z1, z2⟩ := set7 (unhide HB) rfl (.int .i64 0) (.int .i64 0) (.int .i64 0) (.int .u64 0) (.int .i64 0) (.slice none 0 0) (.bool false)
    have BT : Hid (Below w.heap.size w (((((((w3.setCell ⟨w.heap.size, 0, none⟩ (.int .i64 0)).setCell ⟨w.heap.size, 1, none⟩ (.int .i64 0)).setCell ⟨w.heap.size, 2, none⟩ (.int .i64 0)).setCell ⟨w.heap.size, 3, none⟩ (.int .u64 0)).setCell ⟨w.heap.size, 4, none⟩ (.int .i64 0)).setCell ⟨w.heap.size, 5, none⟩ (.slice none 0 0)).setCell ⟨w.heap.size, 6, none⟩ (.bool false))) := below_touch (unhide BW) z2 (unhide BW).size (fun k hk => by omega)
    have TT := hide z2
    clear z2 HB x0 fx0 x1 fx1 x2 fx2 x3 fx3 x4 fx4 x5 fx5 x6 fx6
    generalize (((((((w3.setCell ⟨w.heap.size, 0, none⟩ (.int .i64 0)).setCell ⟨w.heap.size, 1, none⟩ (.int .i64 0)).setCell ⟨w.heap.size, 2, none⟩ (.int .i64 0)).setCell ⟨w.heap.size, 3, none⟩ (.int .u64 0)).setCell ⟨w.heap.size, 4, none⟩ (.int .i64 0)).setCell ⟨w.heap.size, 5, none⟩ (.slice none 0 0)).setCell ⟨w.heap.size, 6, none⟩ (.bool false)) = WW at *
    have y0 : WW.cell? ⟨w.heap.size, 0, none⟩ = some (.int .i64 0) := cell_of z1 0
    have y1 : WW.cell? ⟨w.heap.size, 1, none⟩ = some (.int .i64 0) := cell_of z1 1
    have y2 : WW.cell? ⟨w.heap.size, 2, none⟩ = some (.int .i64 0) := cell_of z1 2
    have y3 : WW.cell? ⟨w.heap.size, 3, none⟩ = some (.int .u64 0) := cell_of z1 3
    have y4 : WW.cell? ⟨w.heap.size, 4, none⟩ = some (.int .i64 0) := cell_of z1 4
    have y5 : WW.cell? ⟨w.heap.size, 5, none⟩ = some (.slice none 0 0) := cell_of z1 5
    have y6 : WW.cell? ⟨w.heap.size, 6, none⟩ = some (.bool false) := cell_of z1 6
    refine bodyPost_ret (by simp [results, Try.results25, go_sem, y0, y1, y2, y3, y4, y5, y6]; try rfl) rfl ?_
    rw [unhide HD]
    exact ⟨none, 0, rfl, IL.nil _, New.nil _, unhide BT⟩
  obtain rfl := h2.symm
  clear h2
  by_cases h3 : st = 3
  · subst h3
    clear HR h0
    have HD : Hid (addD (getT K n) n pid epoch part = noneD (16)) := by show _ = _; rw [unhide XE]; unfold addD; simp [hn1, hn2, hp1, hp2]
    clear XE KB
    go_wp2_with fail
    refine (unhide KN _ _).mono ?_
    rintro e w3 ⟨rfl, b3⟩
    have HB3 : Hid (w3.heap[w.heap.size]? = some (.cells #[.int .i64 0, .int .i64 0, .int .i64 0, .int .u64 0, .int .i64 0, .slice none 0 0, .bool false] 25)) := below_keep b3 (heap_old _ (unhide HB))
    have BW3 : Hid (Below w.heap.size w w3) := ((unhide BW).alloc (unhide BW).size _).trans (b3.mono (by have := (unhide BW).size; simp; omega))
    clear b3 HB BW KN
    have HB := HB3
    have BW := BW3
    clear HB3 BW3
    have x0 : w3.cell? ⟨w.heap.size, 0, none⟩ = some (.int .i64 0) := cell_of (unhide HB) 0
    have fx0 : w3.frozen? ⟨w.heap.size, 0, none⟩ = false := frozen_of (unhide HB) 0
    have x1 : w3.cell? ⟨w.heap.size, 1, none⟩ = some (.int .i64 0) := cell_of (unhide HB) 1
    have fx1 : w3.frozen? ⟨w.heap.size, 1, none⟩ = false := frozen_of (unhide HB) 1
    have x2 : w3.cell? ⟨w.heap.size, 2, none⟩ = some (.int .i64 0) := cell_of (unhide HB) 2
    have fx2 : w3.frozen? ⟨w.heap.size, 2, none⟩ = false := frozen_of (unhide HB) 2
    have x3 : w3.cell? ⟨w.heap.size, 3, none⟩ = some (.int .u64 0) := cell_of (unhide HB) 3
    have fx3 : w3.frozen? ⟨w.heap.size, 3, none⟩ = false := frozen_of (unhide HB) 3
    have x4 : w3.cell? ⟨w.heap.size, 4, none⟩ = some (.int .i64 0) := cell_of (unhide HB) 4
    have fx4 : w3.frozen? ⟨w.heap.size, 4, none⟩ = false := frozen_of (unhide HB) 4
    have x5 : w3.cell? ⟨w.heap.size, 5, none⟩ = some (.slice none 0 0) := cell_of (unhide HB) 5
    have fx5 : w3.frozen? ⟨w.heap.size, 5, none⟩ = false := frozen_of (unhide HB) 5
    have x6 : w3.cell? ⟨w.heap.size, 6, none⟩ = some (.bool false) := cell_of (unhide HB) 6
    have fx6 : w3.frozen? ⟨w.heap.size, 6, none⟩ = false := frozen_of (unhide HB) 6
    go_wp2
    obtain ⟨z1, z2⟩ := set7 (unhide HB) rfl (.int .i64 0) (.int .i64 0) (.int .i64 0) (.int .u64 0) (.int .i64 0) (.slice none 0 0) (.bool false)
    have BT : Hid (Below w.heap.size w (((((((w3.setCell ⟨w.heap.size, 0, none⟩ (.int .i64 0)).setCell ⟨w.heap.size, 1, none⟩ (.int .i64 0)).setCell ⟨w.heap.size, 2, none⟩ (.int .i64 0)).setCell ⟨w.heap.size, 3, none⟩ (.int .u64 0)).setCell ⟨w.heap.size, 4, none⟩ (.int .i64 0)).setCell ⟨w.heap.size, 5, none⟩ (.slice none 0 0)).setCell ⟨w.heap.size, 6, none⟩ (.bool false))) := below_touch (unhide BW) z2 (unhide BW).size (fun k hk => by omega)
    have TT := hide z2
    clear z2 HB x0 fx0 x1 fx1 x2 fx2 x3 fx3 x4 fx4 x5 fx5 x6 fx6
    generalize (((((((w3.setCell ⟨w.heap.size, 0, none⟩ (.int .i64 0)).setCell ⟨w.heap.size, 1, none⟩ (.int .i64 0)).setCell ⟨w.heap.size, 2, none⟩ (.int .i64 0)).setCell ⟨w.heap.size, 3, none⟩ (.int .u64 0)).setCell ⟨w.heap.size, 4, none⟩ (.int .i64 0)).setCell ⟨w.heap.size, 5, none⟩ (.slice none 0 0)).setCell ⟨w.heap.size, 6, none⟩ (.bool false)) = WW at *
    have y0 : WW.cell? ⟨w.heap.size, 0, none⟩ = some (.int .i64 0) := cell_of z1 0
    have y1 : WW.cell? ⟨w.heap.size, 1, none⟩ = some (.int .i64 0) := cell_of z1 1
    have y2 : WW.cell? ⟨w.heap.size, 2, none⟩ = some (.int .i64 0) := cell_of z1 2
    have y3 : WW.cell? ⟨w.heap.size, 3, none⟩ = some (.int .u64 0) := cell_of z1 3
    have y4 : WW.cell? ⟨w.heap.size, 4, none⟩ = some (.int .i64 0) := cell_of z1 4
    have y5 : WW.cell? ⟨w.heap.size, 5, none⟩ = some (.slice none 0 0) := cell_of z1 5
    have y6 : WW.cell? ⟨w.heap.size, 6, none⟩ = some (.bool false) := cell_of z1 6
    refine bodyPost_ret (by simp [results, Try.results25, go_sem, y0, y1, y2, y3, y4, y5, y6]; try rfl) rfl ?_
    rw [unhide HD]
    exact ⟨none, 0, rfl, IL.nil _, New.nil _, unhide BT⟩
  by_cases h5 : 999 ≤ epoch
  · clear HR
    have HD : Hid (addD (getT K n) n pid epoch part = noneD (17)) := by show _ = _; rw [unhide XE]; unfold addD; simp [hn1, hn2, hp1, hp2, h0, h3, h5]
    clear XE KB
    go_wp2_with fail
    refine (unhide KN _ _).mono ?_
    rintro e w3 ⟨rfl, b3⟩
    have HB3 : Hid (w3.heap[w.heap.size]? = some (.cells #[.int .i64 0, .int .i64 0, .int .i64 0, .int .u64 0, .int .i64 0, .slice none 0 0, .bool false] 25)) := below_keep b3 (heap_old _ (unhide HB))
    have BW3 : Hid (Below w.heap.size w w3) := ((unhide BW).alloc (unhide BW).size _).trans (b3.mono (by have := (unhide BW).size; simp; omega))
    clear b3 HB BW KN
    have HB := HB3
    have BW := BW3
    clear HB3 BW3
    have x0 : w3.cell? ⟨w.heap.size, 0, none⟩ = some (.int .i64 0) := cell_of (unhide HB) 0
    have fx0 : w3.frozen? ⟨w.heap.size, 0, none⟩ = false := frozen_of (unhide HB) 0
    have x1 : w3.cell? ⟨w.heap.size, 1, none⟩ = some (.int .i64 0) := cell_of (unhide HB) 1
    have fx1 : w3.frozen? ⟨w.heap.size, 1, none⟩ = false := frozen_of (unhide HB) 1
    have x2 : w3.cell? ⟨w.heap.size, 2, none⟩ = some (.int .i64 0) := cell_of (unhide HB) 2
    have fx2 : w3.frozen? ⟨w.heap.size, 2, none⟩ = false := frozen_of (unhide HB) 2
    have x3 : w3.cell? ⟨w.heap.size, 3, none⟩ = some (.int .u64 0) := cell_of (unhide HB) 3
    have fx3 : w3.frozen? ⟨w.heap.size, 3, none⟩ = false := frozen_of (unhide HB) 3
    have x4 : w3.cell? ⟨w.heap.size, 4, none⟩ = some (.int .i64 0) := cell_of (unhide HB) 4
    have fx4 : w3.frozen? ⟨w.heap.size, 4, none⟩ = false := frozen_of (unhide HB) 4
    have x5 : w3.cell? ⟨w.heap.size, 5, none⟩ = some (.slice none 0 0) := cell_of (unhide HB) 5
    have fx5 : w3.frozen? ⟨w.heap.size, 5, none⟩ = false := frozen_of (unhide HB) 5
    have x6 : w3.cell? ⟨w.heap.size, 6, none⟩ = some (.bool false) := cell_of (unhide HB) 6
    have fx6 : w3.frozen? ⟨w.heap.size, 6, none⟩ = false := frozen_of (unhide HB) 6
    go_wp2
    obtain ⟨z1, z2⟩ := set7 (unhide HB) rfl (.int .i64 0) (.int .i64 0) (.int .i64 0) (.int .u64 0) (.int .i64 0) (.slice none 0 0) (.bool false)
    have BT : Hid (Below w.heap.size w (((((((w3.setCell ⟨w.heap.size, 0, none⟩ (.int .i64 0)).setCell ⟨w.heap.size, 1, none⟩ (.int .i64 0)).setCell ⟨w.heap.size, 2, none⟩ (.int .i64 0)).setCell ⟨w.heap.size, 3, none⟩ (.int .u64 0)).setCell ⟨w.heap.size, 4, none⟩ (.int .i64 0)).setCell ⟨w.heap.size, 5, none⟩ (.slice none 0 0)).setCell ⟨w.heap.size, 6, none⟩ (.bool false))) := below_touch (unhide BW) z2 (unhide BW).size (fun k hk => by omega)
    have TT := hide z2
    clear z2 HB x0 fx0 x1 fx1 x2 fx2 x3 fx3 x4 fx4 x5 fx5 x6 fx6
    generalize (((((((w3.setCell ⟨w.heap.size, 0, none⟩ (.int .i64 0)).setCell ⟨w.heap.size, 1, none⟩ (.int .i64 0)).setCell ⟨w.heap.size, 2, none⟩ (.int .i64 0)).setCell ⟨w.heap.size, 3, none⟩ (.int .u64 0)).setCell ⟨w.heap.size, 4, none⟩ (.int .i64 0)).setCell ⟨w.heap.size, 5, none⟩ (.slice none 0 0)).setCell ⟨w.heap.size, 6, none⟩ (.bool false)) = WW at *
    have y0 : WW.cell? ⟨w.heap.size, 0, none⟩ = some (.int .i64 0) := cell_of z1 0
    have y1 : WW.cell? ⟨w.heap.size, 1, none⟩ = some (.int .i64 0) := cell_of z1 1
    have y2 : WW.cell? ⟨w.heap.size, 2, none⟩ = some (.int .i64 0) := cell_of z1 2
    have y3 : WW.cell? ⟨w.heap.size, 3, none⟩ = some (.int .u64 0) := cell_of z1 3
    have y4 : WW.cell? ⟨w.heap.size, 4, none⟩ = some (.int .i64 0) := cell_of z1 4
    have y5 : WW.cell? ⟨w.heap.size, 5, none⟩ = some (.slice none 0 0) := cell_of z1 5
    have y6 : WW.cell? ⟨w.heap.size, 6, none⟩ = some (.bool false) := cell_of z1 6
    refine bodyPost_ret (by simp [results, Try.results25, go_sem, y0, y1, y2, y3, y4, y5, y6]; try rfl) rfl ?_
    rw [unhide HD]
    exact ⟨none, 0, rfl, IL.nil _, New.nil _, unhide BT⟩
  obtain ⟨ra, rc, re, rI, rl, rm, rn, _⟩ := (unhide HR).iat
  injection re with re1 re2 re3
  have KC := contains_any (c := c) part (rI.later ((Below.refl _ w1).alloc (Nat.le_refl _) (.cells #[.int .i64 st, .int .i64 ix, .int .u64 pid, .int .i64 epoch, .slice sa n' c, .int .i64 la, .int .u64 lp, .bool co] 76))) (Nat.le_trans rl rm)
  rw [← re1, ← re2] at KC
  cases hcn : ps.contains part
  rotate_left
  · rw [hcn] at KC
    have KCH := hide KC
    clear KC rI rl rm rn re1 re2 re3 HR
    have HD0 : Hid (addD (getT K n) n pid epoch part = noneD 0) := by show _ = _; rw [unhide XE]; unfold addD; rw [if_neg (not_not_intro ⟨hn1, hn2⟩), if_neg (not_not_intro ⟨hp1, hp2⟩), if_neg h0, if_neg (fun h => h rfl), if_neg (fun h => h rfl), if_neg h3, if_neg h5, if_pos hcn]
    clear hcn
    go_wp2_with fail
    refine (unhide KCH).mono ?_
    rintro e w2 ⟨rfl, rfl⟩
    clear KCH
    have HD := HD0
    clear XE KB
    go_wp2_with fail
    refine (unhide KN _ _).mono ?_
    rintro e w3 ⟨rfl, b3⟩
    have HB3 : Hid (w3.heap[w.heap.size]? = some (.cells #[.int .i64 0, .int .i64 0, .int .i64 0, .int .u64 0, .int .i64 0, .slice none 0 0, .bool false] 25)) := below_keep b3 (heap_old _ (unhide HB))
    have BW3 : Hid (Below w.heap.size w w3) := ((unhide BW).alloc (unhide BW).size _).trans (b3.mono (by have := (unhide BW).size; simp; omega))
    clear b3 HB BW KN
    have HB := HB3
    have BW := BW3
    clear HB3 BW3
    have x0 : w3.cell? ⟨w.heap.size, 0, none⟩ = some (.int .i64 0) := cell_of (unhide HB) 0
    have fx0 : w3.frozen? ⟨w.heap.size, 0, none⟩ = false := frozen_of (unhide HB) 0
    have x1 : w3.cell? ⟨w.heap.size, 1, none⟩ = some (.int .i64 0) := cell_of (unhide HB) 1
    have fx1 : w3.frozen? ⟨w.heap.size, 1, none⟩ = false := frozen_of (unhide HB) 1
    have x2 : w3.cell? ⟨w.heap.size, 2, none⟩ = some (.int .i64 0) := cell_of (unhide HB) 2
    have fx2 : w3.frozen? ⟨w.heap.size, 2, none⟩ = false := frozen_of (unhide HB) 2
    have x3 : w3.cell? ⟨w.heap.size, 3, none⟩ = some (.int .u64 0) := cell_of (unhide HB) 3
    have fx3 : w3.frozen? ⟨w.heap.size, 3, none⟩ = false := frozen_of (unhide HB) 3
    have x4 : w3.cell? ⟨w.heap.size, 4, none⟩ = some (.int .i64 0) := cell_of (unhide HB) 4
    have fx4 : w3.frozen? ⟨w.heap.size, 4, none⟩ = false := frozen_of (unhide HB) 4
    have x5 : w3.cell? ⟨w.heap.size, 5, none⟩ = some (.slice none 0 0) := cell_of (unhide HB) 5
    have fx5 : w3.frozen? ⟨w.heap.size, 5, none⟩ = false := frozen_of (unhide HB) 5
    have x6 : w3.cell? ⟨w.heap.size, 6, none⟩ = some (.bool false) := cell_of (unhide HB) 6
    have fx6 : w3.frozen? ⟨w.heap.size, 6, none⟩ = false := frozen_of (unhide HB) 6
    go_wp2
    obtain ⟨z1, z2⟩ := set7 (unhide HB) rfl (.int .i64 0) (.int .i64 0) (.int .i64 0) (.int .u64 0) (.int .i64 0) (.slice none 0 0) (.bool false)
    have BT : Hid (Below w.heap.size w (((((((w3.setCell ⟨w.heap.size, 0, none⟩ (.int .i64 0)).setCell ⟨w.heap.size, 1, none⟩ (.int .i64 0)).setCell ⟨w.heap.size, 2, none⟩ (.int .i64 0)).setCell ⟨w.heap.size, 3, none⟩ (.int .u64 0)).setCell ⟨w.heap.size, 4, none⟩ (.int .i64 0)).setCell ⟨w.heap.size, 5, none⟩ (.slice none 0 0)).setCell ⟨w.heap.size, 6, none⟩ (.bool false))) := below_touch (unhide BW) z2 (unhide BW).size (fun k hk => by omega)
    have TT := hide z2
    clear z2 HB x0 fx0 x1 fx1 x2 fx2 x3 fx3 x4 fx4 x5 fx5 x6 fx6
    generalize (((((((w3.setCell ⟨w.heap.size, 0, none⟩ (.int .i64 0)).setCell ⟨w.heap.size, 1, none⟩ (.int .i64 0)).setCell ⟨w.heap.size, 2, none⟩ (.int .i64 0)).setCell ⟨w.heap.size, 3, none⟩ (.int .u64 0)).setCell ⟨w.heap.size, 4, none⟩ (.int .i64 0)).setCell ⟨w.heap.size, 5, none⟩ (.slice none 0 0)).setCell ⟨w.heap.size, 6, none⟩ (.bool false)) = WW at *
    have y0 : WW.cell? ⟨w.heap.size, 0, none⟩ = some (.int .i64 0) := cell_of z1 0
    have y1 : WW.cell? ⟨w.heap.size, 1, none⟩ = some (.int .i64 0) := cell_of z1 1
    have y2 : WW.cell? ⟨w.heap.size, 2, none⟩ = some (.int .i64 0) := cell_of z1 2
    have y3 : WW.cell? ⟨w.heap.size, 3, none⟩ = some (.int .u64 0) := cell_of z1 3
    have y4 : WW.cell? ⟨w.heap.size, 4, none⟩ = some (.int .i64 0) := cell_of z1 4
    have y5 : WW.cell? ⟨w.heap.size, 5, none⟩ = some (.slice none 0 0) := cell_of z1 5
    have y6 : WW.cell? ⟨w.heap.size, 6, none⟩ = some (.bool false) := cell_of z1 6
    refine bodyPost_ret (by simp [results, Try.results25, go_sem, y0, y1, y2, y3, y4, y5, y6]; try rfl) rfl ?_
    rw [unhide HD]
    exact ⟨none, 0, rfl, IL.nil _, New.nil _, unhide BT⟩
  · rw [hcn] at KC
    have KCH := hide KC
    clear KC rI rl rm rn re1 re2 re3 HR
    have HD0 : Hid (addD (getT K n) n pid epoch part = ⟨⟨2, n, 0, 0, 0, [part], false⟩, true, 0⟩) := by show _ = _; rw [unhide XE]; unfold addD; rw [if_neg (not_not_intro ⟨hn1, hn2⟩), if_neg (not_not_intro ⟨hp1, hp2⟩), if_neg h0, if_neg (fun h => h rfl), if_neg (fun h => h rfl), if_neg h3, if_neg h5]; exact if_neg (fun h => by rw [show ps.contains part = true from h] at hcn; cases hcn)
    clear hcn
    go_wp2_with fail
    refine (unhide KCH).mono ?_
    rintro e w2 ⟨rfl, rfl⟩
    clear KCH
    have HD := HD0
    clear XE KB KN
    go_upto_region 14 with fail
    have HB3 : Hid ((w1.alloc (.cells #[.int .i64 st, .int .i64 ix, .int .u64 pid, .int .i64 epoch, .slice sa n' c, .int .i64 la, .int .u64 lp, .bool co] 76)).heap[w.heap.size]? = some (.cells #[.int .i64 0, .int .i64 0, .int .i64 0, .int .u64 0, .int .i64 0, .slice none 0 0, .bool false] 25)) := heap_old _ (unhide HB)
    have BW3 : Hid (Below w.heap.size w (w1.alloc (.cells #[.int .i64 st, .int .i64 ix, .int .u64 pid, .int .i64 epoch, .slice sa n' c, .int .i64 la, .int .u64 lp, .bool co] 76))) := (unhide BW).alloc (unhide BW).size _
    generalize w1.alloc (.cells #[.int .i64 st, .int .i64 ix, .int .u64 pid, .int .i64 epoch, .slice sa n' c, .int .i64 la, .int .u64 lp, .bool co] 76) = w3 at *
    clear HB BW
    have HB := HB3
    have BW := BW3
    clear HB3 BW3
    have HB4 : Hid ((w3.alloc (.cells #[.int .i64 part] 3)).heap[w.heap.size]? = some (.cells #[.int .i64 0, .int .i64 0, .int .i64 0, .int .u64 0, .int .i64 0, .slice none 0 0, .bool false] 25)) := heap_old _ (unhide HB)
    have BW4 : Hid (Below w.heap.size w (w3.alloc (.cells #[.int .i64 part] 3))) := (unhide BW).alloc (unhide BW).size _
    have hle := (unhide BW).size
    have hlt : Hid (w.heap.size < w3.heap.size) := lt_of_heap (unhide HB)
    clear HB BW
    have HB := HB4
    have BW := BW4
    clear HB4 BW4
    have x0 : (w3.alloc (.cells #[.int .i64 part] 3)).cell? ⟨w.heap.size, 0, none⟩ = some (.int .i64 0) := cell_of (unhide HB) 0
    have fx0 : (w3.alloc (.cells #[.int .i64 part] 3)).frozen? ⟨w.heap.size, 0, none⟩ = false := frozen_of (unhide HB) 0
    have x1 : (w3.alloc (.cells #[.int .i64 part] 3)).cell? ⟨w.heap.size, 1, none⟩ = some (.int .i64 0) := cell_of (unhide HB) 1
    have fx1 : (w3.alloc (.cells #[.int .i64 part] 3)).frozen? ⟨w.heap.size, 1, none⟩ = false := frozen_of (unhide HB) 1
    have x2 : (w3.alloc (.cells #[.int .i64 part] 3)).cell? ⟨w.heap.size, 2, none⟩ = some (.int .i64 0) := cell_of (unhide HB) 2
    have fx2 : (w3.alloc (.cells #[.int .i64 part] 3)).frozen? ⟨w.heap.size, 2, none⟩ = false := frozen_of (unhide HB) 2
    have x3 : (w3.alloc (.cells #[.int .i64 part] 3)).cell? ⟨w.heap.size, 3, none⟩ = some (.int .u64 0) := cell_of (unhide HB) 3
    have fx3 : (w3.alloc (.cells #[.int .i64 part] 3)).frozen? ⟨w.heap.size, 3, none⟩ = false := frozen_of (unhide HB) 3
    have x4 : (w3.alloc (.cells #[.int .i64 part] 3)).cell? ⟨w.heap.size, 4, none⟩ = some (.int .i64 0) := cell_of (unhide HB) 4
    have fx4 : (w3.alloc (.cells #[.int .i64 part] 3)).frozen? ⟨w.heap.size, 4, none⟩ = false := frozen_of (unhide HB) 4
    have x5 : (w3.alloc (.cells #[.int .i64 part] 3)).cell? ⟨w.heap.size, 5, none⟩ = some (.slice none 0 0) := cell_of (unhide HB) 5
    have fx5 : (w3.alloc (.cells #[.int .i64 part] 3)).frozen? ⟨w.heap.size, 5, none⟩ = false := frozen_of (unhide HB) 5
    have x6 : (w3.alloc (.cells #[.int .i64 part] 3)).cell? ⟨w.heap.size, 6, none⟩ = some (.bool false) := cell_of (unhide HB) 6
    have fx6 : (w3.alloc (.cells #[.int .i64 part] 3)).frozen? ⟨w.heap.size, 6, none⟩ = false := frozen_of (unhide HB) 6
    go_wp2
    have RW : Hid (IL ((((((((w3.alloc (.cells #[.int .i64 part] 3)).setCell ⟨w.heap.size, 0, none⟩ (.int .i64 2)).setCell ⟨w.heap.size, 1, none⟩ (.int .i64 n)).setCell ⟨w.heap.size, 2, none⟩ (.int .i64 0)).setCell ⟨w.heap.size, 3, none⟩ (.int .u64 0)).setCell ⟨w.heap.size, 4, none⟩ (.int .i64 0)).setCell ⟨w.heap.size, 5, none⟩ (.slice (some ⟨w3.heap.size, 0, none⟩) 1 1)).setCell ⟨w.heap.size, 6, none⟩ (.bool false)) (.slice (some ⟨w3.heap.size, 0, none⟩) 1 1) [part]) := IL.keep (S := (· = w.heap.size)) (IL.one _ _ rfl) (set7 (unhide HB) rfl (.int .i64 2) (.int .i64 n) (.int .i64 0) (.int .u64 0) (.int .i64 0) (.slice (some ⟨w3.heap.size, 0, none⟩) 1 1) (.bool false)).2 (fun k hk e => by have hk' : some w3.heap.size = some k := hk; injection hk' with hk'; have := unhide hlt; omega)
    obtain ⟨z1, z2⟩ := set7 (unhide HB) rfl (.int .i64 2) (.int .i64 n) (.int .i64 0) (.int .u64 0) (.int .i64 0) (.slice (some ⟨w3.heap.size, 0, none⟩) 1 1) (.bool false)
    have BT : Hid (Below w.heap.size w ((((((((w3.alloc (.cells #[.int .i64 part] 3)).setCell ⟨w.heap.size, 0, none⟩ (.int .i64 2)).setCell ⟨w.heap.size, 1, none⟩ (.int .i64 n)).setCell ⟨w.heap.size, 2, none⟩ (.int .i64 0)).setCell ⟨w.heap.size, 3, none⟩ (.int .u64 0)).setCell ⟨w.heap.size, 4, none⟩ (.int .i64 0)).setCell ⟨w.heap.size, 5, none⟩ (.slice (some ⟨w3.heap.size, 0, none⟩) 1 1)).setCell ⟨w.heap.size, 6, none⟩ (.bool false))) := below_touch (unhide BW) z2 (unhide BW).size (fun k hk => by omega)
    have TT := hide z2
    clear z2 HB x0 fx0 x1 fx1 x2 fx2 x3 fx3 x4 fx4 x5 fx5 x6 fx6
    generalize ((((((((w3.alloc (.cells #[.int .i64 part] 3)).setCell ⟨w.heap.size, 0, none⟩ (.int .i64 2)).setCell ⟨w.heap.size, 1, none⟩ (.int .i64 n)).setCell ⟨w.heap.size, 2, none⟩ (.int .i64 0)).setCell ⟨w.heap.size, 3, none⟩ (.int .u64 0)).setCell ⟨w.heap.size, 4, none⟩ (.int .i64 0)).setCell ⟨w.heap.size, 5, none⟩ (.slice (some ⟨w3.heap.size, 0, none⟩) 1 1)).setCell ⟨w.heap.size, 6, none⟩ (.bool false)) = WW at *
    have y0 : WW.cell? ⟨w.heap.size, 0, none⟩ = some (.int .i64 2) := cell_of z1 0
    have y1 : WW.cell? ⟨w.heap.size, 1, none⟩ = some (.int .i64 n) := cell_of z1 1
    have y2 : WW.cell? ⟨w.heap.size, 2, none⟩ = some (.int .i64 0) := cell_of z1 2
    have y3 : WW.cell? ⟨w.heap.size, 3, none⟩ = some (.int .u64 0) := cell_of z1 3
    have y4 : WW.cell? ⟨w.heap.size, 4, none⟩ = some (.int .i64 0) := cell_of z1 4
    have y5 : WW.cell? ⟨w.heap.size, 5, none⟩ = some (.slice (some ⟨w3.heap.size, 0, none⟩) 1 1) := cell_of z1 5
    have y6 : WW.cell? ⟨w.heap.size, 6, none⟩ = some (.bool false) := cell_of z1 6
    refine bodyPost_ret (by simp [results, Try.results25, go_sem, y0, y1, y2, y3, y4, y5, y6]; try rfl) rfl ?_
    rw [unhide HD]
    exact ⟨_, 1, rfl, unhide RW, (fun k hk => by have hk' : some w3.heap.size = some k := hk; injection hk' with hk'; omega), unhide BT⟩
end Go.Proofs.Ytbgccnnomgeniaa
