/-
  txn's Init, of any state. Conditions: none but the state's own.
-/
import Derived.Test.YtbgccnnomgeniaaTx2
namespace Go.Proofs.Ytbgccnnomgeniaa
open Go.RowKit Go.Maps
set_option linter.unusedVariables false

set_option maxRecDepth 100000 in
set_option maxHeartbeats 4000000 in
theorem init_bad {sb : Nat} (n inc pid : Int) (w : World) (hn : ¬ (0 ≤ n ∧ n < 8)) : Calls Try.prog 23 #[.pointer (some ⟨sb, 0, none⟩), .int .i64 n, .int .i64 inc, .int .u64 pid] w fun e w' => DnP w (noneD 1) e w' := by
  have KN : Hid (∀ er W, Calls Try.prog 44 #[.int .i64 er] W fun e w' => NoneP W er e w') := fun er W => tnone_any er W
  have KM := hide (named_bad sb n (w.alloc (.cells #[.int .i64 0, .int .i64 0, .int .i64 0, .int .u64 0, .int .i64 0, .slice none 0 0, .bool false] 25)) hn)
  have B0 : Hid (Below w.heap.size w (w.alloc (.cells #[.int .i64 0, .int .i64 0, .int .i64 0, .int .u64 0, .int .i64 0, .slice none 0 0, .bool false] 25))) := (Below.refl _ _).alloc (Nat.le_refl _) _
  have H0 := hide (heap_new w (.cells #[.int .i64 0, .int .i64 0, .int .i64 0, .int .u64 0, .int .i64 0, .slice none 0 0, .bool false] 25))
  go_enter Try.func23, Try.ntmps23
  go_wp2_with fail
  refine (unhide KM).mono ?_
  rintro e w1 ⟨rfl, b1⟩
  have HB : Hid (w1.heap[w.heap.size]? = some (.cells #[.int .i64 0, .int .i64 0, .int .i64 0, .int .u64 0, .int .i64 0, .slice none 0 0, .bool false] 25)) := below_keep b1 (unhide H0)
  have BW : Hid (Below w.heap.size w w1) := (unhide B0).trans (b1.mono (by simp))
  clear b1 KM B0 H0
  go_wp2_with fail
  refine (unhide KN _ _).mono ?_
  rintro e w3 ⟨rfl, b3⟩
  have HB3 : Hid (w3.heap[w.heap.size]? = some (.cells #[.int .i64 0, .int .i64 0, .int .i64 0, .int .u64 0, .int .i64 0, .slice none 0 0, .bool false] 25)) := below_keep b3 (heap_old _ (unhide HB))
  have BW3 : Hid (Below w.heap.size w w3) := ((unhide BW).alloc (unhide BW).size _).trans (b3.mono (by have := (unhide BW).size; simp; omega))
  clear b3 HB BW KN
  have HB := HB3
  have BW := BW3
  clear HB3 BW3
  have x0 : w3.cell? ⟨w.heap.size, 0, none⟩ = some (.int .i64 0) := cell_of (unhide HB) 0
  have fx0 : w3.frozen? ⟨w.heap.size, 0, none⟩ = false := frozen_of (unhide HB) 0
  have x1 : w3.cell? ⟨w.heap.size, 1, none⟩ = some (.int .i64 0) := cell_of (unhide HB) 1
  have fx1 : w3.frozen? ⟨w.heap.size, 1, none⟩ = false := frozen_of (unhide HB) 1
  have x2 : w3.cell? ⟨w.heap.size, 2, none⟩ = some (.int .i64 0) := cell_of (unhide HB) 2
  have fx2 : w3.frozen? ⟨w.heap.size, 2, none⟩ = false := frozen_of (unhide HB) 2
  have x3 : w3.cell? ⟨w.heap.size, 3, none⟩ = some (.int .u64 0) := cell_of (unhide HB) 3
  have fx3 : w3.frozen? ⟨w.heap.size, 3, none⟩ = false := frozen_of (unhide HB) 3
  have x4 : w3.cell? ⟨w.heap.size, 4, none⟩ = some (.int .i64 0) := cell_of (unhide HB) 4
  have fx4 : w3.frozen? ⟨w.heap.size, 4, none⟩ = false := frozen_of (unhide HB) 4
  have x5 : w3.cell? ⟨w.heap.size, 5, none⟩ = some (.slice none 0 0) := cell_of (unhide HB) 5
  have fx5 : w3.frozen? ⟨w.heap.size, 5, none⟩ = false := frozen_of (unhide HB) 5
  have x6 : w3.cell? ⟨w.heap.size, 6, none⟩ = some (.bool false) := cell_of (unhide HB) 6
  have fx6 : w3.frozen? ⟨w.heap.size, 6, none⟩ = false := frozen_of (unhide HB) 6
  go_wp2
  obtain ⟨z1, z2⟩ := set7 (unhide HB) rfl (.int .i64 0) (.int .i64 0) (.int .i64 0) (.int .u64 0) (.int .i64 0) (.slice none 0 0) (.bool false)
  have BT : Hid (Below w.heap.size w (((((((w3.setCell ⟨w.heap.size, 0, none⟩ (.int .i64 0)).setCell ⟨w.heap.size, 1, none⟩ (.int .i64 0)).setCell ⟨w.heap.size, 2, none⟩ (.int .i64 0)).setCell ⟨w.heap.size, 3, none⟩ (.int .u64 0)).setCell ⟨w.heap.size, 4, none⟩ (.int .i64 0)).setCell ⟨w.heap.size, 5, none⟩ (.slice none 0 0)).setCell ⟨w.heap.size, 6, none⟩ (.bool false))) := below_touch (unhide BW) z2 (unhide BW).size (fun k hk => by omega)
  have TT := hide z2
  clear z2 HB x0 fx0 x1 fx1 x2 fx2 x3 fx3 x4 fx4 x5 fx5 x6 fx6
  generalize (((((((w3.setCell ⟨w.heap.size, 0, none⟩ (.int .i64 0)).setCell ⟨w.heap.size, 1, none⟩ (.int .i64 0)).setCell ⟨w.heap.size, 2, none⟩ (.int .i64 0)).setCell ⟨w.heap.size, 3, none⟩ (.int .u64 0)).setCell ⟨w.heap.size, 4, none⟩ (.int .i64 0)).setCell ⟨w.heap.size, 5, none⟩ (.slice none 0 0)).setCell ⟨w.heap.size, 6, none⟩ (.bool false)) = WW at *
  have y0 : WW.cell? ⟨w.heap.size, 0, none⟩ = some (.int .i64 0) := cell_of z1 0
  have y1 : WW.cell? ⟨w.heap.size, 1, none⟩ = some (.int .i64 0) := cell_of z1 1
  have y2 : WW.cell? ⟨w.heap.size, 2, none⟩ = some (.int .i64 0) := cell_of z1 2
  have y3 : WW.cell? ⟨w.heap.size, 3, none⟩ = some (.int .u64 0) := cell_of z1 3
  have y4 : WW.cell? ⟨w.heap.size, 4, none⟩ = some (.int .i64 0) := cell_of z1 4
  have y5 : WW.cell? ⟨w.heap.size, 5, none⟩ = some (.slice none 0 0) := cell_of z1 5
  have y6 : WW.cell? ⟨w.heap.size, 6, none⟩ = some (.bool false) := cell_of z1 6
  refine bodyPost_ret (by simp [results, Try.results23, go_sem, y0, y1, y2, y3, y4, y5, y6]; try rfl) rfl ?_
  exact ⟨none, 0, rfl, IL.nil _, New.nil _, unhide BT⟩
set_option maxRecDepth 100000 in
set_option maxHeartbeats 4000000 in
theorem init_nil (n inc pid : Int) (w : World) : Calls Try.prog 23 #[.pointer none, .int .i64 n, .int .i64 inc, .int .u64 pid] w fun e w' => DnP w (noneD 5) e w' := by
  have KN : Hid (∀ er W, Calls Try.prog 44 #[.int .i64 er] W fun e w' => NoneP W er e w') := fun er W => tnone_any er W
  have KM := hide (named_nil n (w.alloc (.cells #[.int .i64 0, .int .i64 0, .int .i64 0, .int .u64 0, .int .i64 0, .slice none 0 0, .bool false] 25)))
  have B0 : Hid (Below w.heap.size w (w.alloc (.cells #[.int .i64 0, .int .i64 0, .int .i64 0, .int .u64 0, .int .i64 0, .slice none 0 0, .bool false] 25))) := (Below.refl _ _).alloc (Nat.le_refl _) _
  have H0 := hide (heap_new w (.cells #[.int .i64 0, .int .i64 0, .int .i64 0, .int .u64 0, .int .i64 0, .slice none 0 0, .bool false] 25))
  go_enter Try.func23, Try.ntmps23
  go_wp2_with fail
  refine (unhide KM).mono ?_
  rintro e w1 ⟨rfl, b1⟩
  have HB : Hid (w1.heap[w.heap.size]? = some (.cells #[.int .i64 0, .int .i64 0, .int .i64 0, .int .u64 0, .int .i64 0, .slice none 0 0, .bool false] 25)) := below_keep b1 (unhide H0)
  have BW : Hid (Below w.heap.size w w1) := (unhide B0).trans (b1.mono (by simp))
  clear b1 KM B0 H0
  go_wp2_with fail
  refine (unhide KN _ _).mono ?_
  rintro e w3 ⟨rfl, b3⟩
  have HB3 : Hid (w3.heap[w.heap.size]? = some (.cells #[.int .i64 0, .int .i64 0, .int .i64 0, .int .u64 0, .int .i64 0, .slice none 0 0, .bool false] 25)) := below_keep b3 (heap_old _ (unhide HB))
  have BW3 : Hid (Below w.heap.size w w3) := ((unhide BW).alloc (unhide BW).size _).trans (b3.mono (by have := (unhide BW).size; simp; omega))
  clear b3 HB BW KN
  have HB := HB3
  have BW := BW3
  clear HB3 BW3
  have x0 : w3.cell? ⟨w.heap.size, 0, none⟩ = some (.int .i64 0) := cell_of (unhide HB) 0
  have fx0 : w3.frozen? ⟨w.heap.size, 0, none⟩ = false := frozen_of (unhide HB) 0
  have x1 : w3.cell? ⟨w.heap.size, 1, none⟩ = some (.int .i64 0) := cell_of (unhide HB) 1
  have fx1 : w3.frozen? ⟨w.heap.size, 1, none⟩ = false := frozen_of (unhide HB) 1
  have x2 : w3.cell? ⟨w.heap.size, 2, none⟩ = some (.int .i64 0) := cell_of (unhide HB) 2
  have fx2 : w3.frozen? ⟨w.heap.size, 2, none⟩ = false := frozen_of (unhide HB) 2
  have x3 : w3.cell? ⟨w.heap.size, 3, none⟩ = some (.int .u64 0) := cell_of (unhide HB) 3
  have fx3 : w3.frozen? ⟨w.heap.size, 3, none⟩ = false := frozen_of (unhide HB) 3
  have x4 : w3.cell? ⟨w.heap.size, 4, none⟩ = some (.int .i64 0) := cell_of (unhide HB) 4
  have fx4 : w3.frozen? ⟨w.heap.size, 4, none⟩ = false := frozen_of (unhide HB) 4
  have x5 : w3.cell? ⟨w.heap.size, 5, none⟩ = some (.slice none 0 0) := cell_of (unhide HB) 5
  have fx5 : w3.frozen? ⟨w.heap.size, 5, none⟩ = false := frozen_of (unhide HB) 5
  have x6 : w3.cell? ⟨w.heap.size, 6, none⟩ = some (.bool false) := cell_of (unhide HB) 6
  have fx6 : w3.frozen? ⟨w.heap.size, 6, none⟩ = false := frozen_of (unhide HB) 6
  go_wp2
  obtain ⟨z1, z2⟩ := set7 (unhide HB) rfl (.int .i64 0) (.int .i64 0) (.int .i64 0) (.int .u64 0) (.int .i64 0) (.slice none 0 0) (.bool false)
  have BT : Hid (Below w.heap.size w (((((((w3.setCell ⟨w.heap.size, 0, none⟩ (.int .i64 0)).setCell ⟨w.heap.size, 1, none⟩ (.int .i64 0)).setCell ⟨w.heap.size, 2, none⟩ (.int .i64 0)).setCell ⟨w.heap.size, 3, none⟩ (.int .u64 0)).setCell ⟨w.heap.size, 4, none⟩ (.int .i64 0)).setCell ⟨w.heap.size, 5, none⟩ (.slice none 0 0)).setCell ⟨w.heap.size, 6, none⟩ (.bool false))) := below_touch (unhide BW) z2 (unhide BW).size (fun k hk => by omega)
  have TT := hide z2
  clear z2 HB x0 fx0 x1 fx1 x2 fx2 x3 fx3 x4 fx4 x5 fx5 x6 fx6
  generalize (((((((w3.setCell ⟨w.heap.size, 0, none⟩ (.int .i64 0)).setCell ⟨w.heap.size, 1, none⟩ (.int .i64 0)).setCell ⟨w.heap.size, 2, none⟩ (.int .i64 0)).setCell ⟨w.heap.size, 3, none⟩ (.int .u64 0)).setCell ⟨w.heap.size, 4, none⟩ (.int .i64 0)).setCell ⟨w.heap.size, 5, none⟩ (.slice none 0 0)).setCell ⟨w.heap.size, 6, none⟩ (.bool false)) = WW at *
  have y0 : WW.cell? ⟨w.heap.size, 0, none⟩ = some (.int .i64 0) := cell_of z1 0
  have y1 : WW.cell? ⟨w.heap.size, 1, none⟩ = some (.int .i64 0) := cell_of z1 1
  have y2 : WW.cell? ⟨w.heap.size, 2, none⟩ = some (.int .i64 0) := cell_of z1 2
  have y3 : WW.cell? ⟨w.heap.size, 3, none⟩ = some (.int .u64 0) := cell_of z1 3
  have y4 : WW.cell? ⟨w.heap.size, 4, none⟩ = some (.int .i64 0) := cell_of z1 4
  have y5 : WW.cell? ⟨w.heap.size, 5, none⟩ = some (.slice none 0 0) := cell_of z1 5
  have y6 : WW.cell? ⟨w.heap.size, 6, none⟩ = some (.bool false) := cell_of z1 6
  refine bodyPost_ret (by simp [results, Try.results23, go_sem, y0, y1, y2, y3, y4, y5, y6]; try rfl) rfl ?_
  exact ⟨none, 0, rfl, IL.nil _, New.nil _, unhide BT⟩
set_option maxRecDepth 100000 in
set_option maxHeartbeats 4000000 in
theorem init_any {w : World} {sb : Nat} {mv : Value} {m : List (Int × Td)} {K : Int → Option Tx} {R : Nat → Prop} (n inc pid : Int) (h : TS w sb mv m K R) :
    Calls Try.prog 23 #[.pointer (some ⟨sb, 0, none⟩), .int .i64 n, .int .i64 inc, .int .u64 pid] w fun e w' => DnP w (initD (getT K n) n inc pid) e w' := by
  by_cases hn : 0 ≤ n ∧ n < 8
  rotate_left
  · have hd : initD (getT K n) n inc pid = noneD 1 := by unfold initD; rw [if_pos hn]
    rw [hd]
    exact init_bad n inc pid w hn
  have KN : Hid (∀ er W, Calls Try.prog 44 #[.int .i64 er] W fun e w' => NoneP W er e w') := fun er W => tnone_any er W
  have b0 : Below w.heap.size w (w.alloc (.cells #[.int .i64 0, .int .i64 0, .int .i64 0, .int .u64 0, .int .i64 0, .slice none 0 0, .bool false] 25)) := (Below.refl _ _).alloc (Nat.le_refl _) _
  have KM := hide (named_ok (h.later b0) hn)
  have B0 := hide b0
  have H0 := hide (heap_new w (.cells #[.int .i64 0, .int .i64 0, .int .i64 0, .int .u64 0, .int .i64 0, .slice none 0 0, .bool false] 25))
  have hn1 := hn.1
  have hn2 := hn.2
  clear h b0 hn
  have KB : Hid (∀ W, Calls Try.prog 45 #[.int .i64 n, .int .i64 inc, .int .u64 pid] W fun e w' => DnP W (beginD n inc pid) e w') := fun W => begin_any n inc pid W
  go_enter Try.func23, Try.ntmps23
  go_wp2_with fail
  refine (unhide KM).mono ?_
  rintro e w1 ⟨q, rfl, f1, f2, b1⟩
  have HB : Hid (w1.heap[w.heap.size]? = some (.cells #[.int .i64 0, .int .i64 0, .int .i64 0, .int .u64 0, .int .i64 0, .slice none 0 0, .bool false] 25)) := below_keep b1 (unhide H0)
  have BW : Hid (Below w.heap.size w w1) := (unhide B0).trans (b1.mono (by simp))
  clear b1 KM B0 H0 f2
  obtain ⟨x, hx⟩ : ∃ x, getT K n = x := ⟨_, rfl⟩
  rw [hx] at f1
  obtain ⟨xst, xinc, xpid, xep, ps, xla, xlp, xco⟩ := x
  obtain ⟨st, ix, px, ep, g, n', c, la, lp, co⟩ := q
  obtain ⟨e1, e2, e3, e4, e5, e6, e7, row⟩ := f1
  simp only at e1 e2 e3 e4 e5 e6 e7 row
  subst e1 e2 e3 e4 e5 e6 e7
  simp only [tdV, tdC, tdS] at row ⊢
  generalize hsa : g.map (fun g => (⟨g, 0, none⟩ : Addr)) = sa at *
  clear hsa
  have HR := hide row
  have XE := hide hx
  clear row hx
  by_cases h0 : st = 0
  · subst h0
    clear HR
    have HD : Hid (initD (getT K n) n inc pid = beginD n inc pid) := by show _ = _; rw [unhide XE]; unfold initD; simp [hn1, hn2]
    clear XE
    generalize beginD n inc pid = dd at *
    obtain ⟨⟨kd, tx, ic, pi, eq, pl, cm⟩, ok, er⟩ := dd
    go_wp2_with fail
    refine (unhide KB _).mono ?_
    rintro e w3 ⟨sa2, c2, rfl, i1, i2, b3⟩
    have I1 := hide i1
    have I2 : Hid (New w (.slice sa2 pl.length c2)) := i2.mono (by have := (unhide BW).size; simp; omega)
    have I3 : Hid (∀ k, (Value.slice sa2 pl.length c2).ownBlock = some k → w.heap.size < k) := fun k hk => by have h1 := i2 k hk; have h2 := lt_of_heap (unhide HB); simp at h1; omega
    clear i1 i2 KB
    have HB3 : Hid (w3.heap[w.heap.size]? = some (.cells #[.int .i64 0, .int .i64 0, .int .i64 0, .int .u64 0, .int .i64 0, .slice none 0 0, .bool false] 25)) := below_keep b3 (heap_old _ (unhide HB))
    have BW3 : Hid (Below w.heap.size w w3) := ((unhide BW).alloc (unhide BW).size _).trans (b3.mono (by have := (unhide BW).size; simp; omega))
    clear b3 HB BW KN
    have HB := HB3
    have BW := BW3
    clear HB3 BW3
    have x0 : w3.cell? ⟨w.heap.size, 0, none⟩ = some (.int .i64 0) := cell_of (unhide HB) 0
    have fx0 : w3.frozen? ⟨w.heap.size, 0, none⟩ = false := frozen_of (unhide HB) 0
    have x1 : w3.cell? ⟨w.heap.size, 1, none⟩ = some (.int .i64 0) := cell_of (unhide HB) 1
    have fx1 : w3.frozen? ⟨w.heap.size, 1, none⟩ = false := frozen_of (unhide HB) 1
    have x2 : w3.cell? ⟨w.heap.size, 2, none⟩ = some (.int .i64 0) := cell_of (unhide HB) 2
    have fx2 : w3.frozen? ⟨w.heap.size, 2, none⟩ = false := frozen_of (unhide HB) 2
    have x3 : w3.cell? ⟨w.heap.size, 3, none⟩ = some (.int .u64 0) := cell_of (unhide HB) 3
    have fx3 : w3.frozen? ⟨w.heap.size, 3, none⟩ = false := frozen_of (unhide HB) 3
    have x4 : w3.cell? ⟨w.heap.size, 4, none⟩ = some (.int .i64 0) := cell_of (unhide HB) 4
    have fx4 : w3.frozen? ⟨w.heap.size, 4, none⟩ = false := frozen_of (unhide HB) 4
    have x5 : w3.cell? ⟨w.heap.size, 5, none⟩ = some (.slice none 0 0) := cell_of (unhide HB) 5
    have fx5 : w3.frozen? ⟨w.heap.size, 5, none⟩ = false := frozen_of (unhide HB) 5
    have x6 : w3.cell? ⟨w.heap.size, 6, none⟩ = some (.bool false) := cell_of (unhide HB) 6
    have fx6 : w3.frozen? ⟨w.heap.size, 6, none⟩ = false := frozen_of (unhide HB) 6
    simp only [reC]
    generalize hpn : pl.length = pn at *
    have PN := hide hpn
    clear hpn
    go_wp2
    obtain ⟨z1, z2⟩ := set7 (unhide HB) rfl (.int .i64 kd) (.int .i64 tx) (.int .i64 ic) (.int .u64 pi) (.int .i64 eq) (.slice sa2 pn c2) (.bool cm)
    have BT : Hid (Below w.heap.size w (((((((w3.setCell ⟨w.heap.size, 0, none⟩ (.int .i64 kd)).setCell ⟨w.heap.size, 1, none⟩ (.int .i64 tx)).setCell ⟨w.heap.size, 2, none⟩ (.int .i64 ic)).setCell ⟨w.heap.size, 3, none⟩ (.int .u64 pi)).setCell ⟨w.heap.size, 4, none⟩ (.int .i64 eq)).setCell ⟨w.heap.size, 5, none⟩ (.slice sa2 pn c2)).setCell ⟨w.heap.size, 6, none⟩ (.bool cm))) := below_touch (unhide BW) z2 (unhide BW).size (fun k hk => by omega)
    have TT := hide z2
    clear z2 HB x0 fx0 x1 fx1 x2 fx2 x3 fx3 x4 fx4 x5 fx5 x6 fx6
    generalize (((((((w3.setCell ⟨w.heap.size, 0, none⟩ (.int .i64 kd)).setCell ⟨w.heap.size, 1, none⟩ (.int .i64 tx)).setCell ⟨w.heap.size, 2, none⟩ (.int .i64 ic)).setCell ⟨w.heap.size, 3, none⟩ (.int .u64 pi)).setCell ⟨w.heap.size, 4, none⟩ (.int .i64 eq)).setCell ⟨w.heap.size, 5, none⟩ (.slice sa2 pn c2)).setCell ⟨w.heap.size, 6, none⟩ (.bool cm)) = WW at *
    have y0 : WW.cell? ⟨w.heap.size, 0, none⟩ = some (.int .i64 kd) := cell_of z1 0
    have y1 : WW.cell? ⟨w.heap.size, 1, none⟩ = some (.int .i64 tx) := cell_of z1 1
    have y2 : WW.cell? ⟨w.heap.size, 2, none⟩ = some (.int .i64 ic) := cell_of z1 2
    have y3 : WW.cell? ⟨w.heap.size, 3, none⟩ = some (.int .u64 pi) := cell_of z1 3
    have y4 : WW.cell? ⟨w.heap.size, 4, none⟩ = some (.int .i64 eq) := cell_of z1 4
    have y5 : WW.cell? ⟨w.heap.size, 5, none⟩ = some (.slice sa2 pn c2) := cell_of z1 5
    have y6 : WW.cell? ⟨w.heap.size, 6, none⟩ = some (.bool cm) := cell_of z1 6
    refine bodyPost_ret (by simp [results, Try.results23, go_sem, y0, y1, y2, y3, y4, y5, y6]; try rfl) rfl ?_
    rw [unhide HD]
    refine ⟨sa2, c2, ?_, ?_, ?_, unhide BT⟩
    · simp only [reC]; rw [unhide PN]
    · show IL WW (.slice sa2 pl.length c2) pl
      rw [unhide PN]; exact (unhide I1).keep (unhide TT) (fun k hk e => by have := unhide I3 k hk; omega)
    · show New w (.slice sa2 pl.length c2)
      rw [unhide PN]; exact unhide I2
  by_cases h1 : inc < ix
  · clear HR
    have HD : Hid (initD (getT K n) n inc pid = noneD (10)) := by show _ = _; rw [unhide XE]; unfold initD; simp [hn1, hn2, h0, h1]
    clear XE KB
    go_wp2_with fail
    refine (unhide KN _ _).mono ?_
    rintro e w3 ⟨rfl, b3⟩
    have HB3 : Hid (w3.heap[w.heap.size]? = some (.cells #[.int .i64 0, .int .i64 0, .int .i64 0, .int .u64 0, .int .i64 0, .slice none 0 0, .bool false] 25)) := below_keep b3 (heap_old _ (unhide HB))
    have BW3 : Hid (Below w.heap.size w w3) := ((unhide BW).alloc (unhide BW).size _).trans (b3.mono (by have := (unhide BW).size; simp; omega))
    clear b3 HB BW KN
    have HB := HB3
    have BW := BW3
    clear HB3 BW3
    have x0 : w3.cell? ⟨w.heap.size, 0, none⟩ = some (.int .i64 0) := cell_of (unhide HB) 0
    have fx0 : w3.frozen? ⟨w.heap.size, 0, none⟩ = false := frozen_of (unhide HB) 0
    have x1 : w3.cell? ⟨w.heap.size, 1, none⟩ = some (.int .i64 0) := cell_of (unhide HB) 1
    have fx1 : w3.frozen? ⟨w.heap.size, 1, none⟩ = false := frozen_of (unhide HB) 1
    have x2 : w3.cell? ⟨w.heap.size, 2, none⟩ = some (.int .i64 0) := cell_of (unhide HB) 2
    have fx2 : w3.frozen? ⟨w.heap.size, 2, none⟩ = false := frozen_of (unhide HB) 2
    have x3 : w3.cell? ⟨w.heap.size, 3, none⟩ = some (.int .u64 0) := cell_of (unhide HB) 3
    have fx3 : w3.frozen? ⟨w.heap.size, 3, none⟩ = false := frozen_of (unhide HB) 3
    have x4 : w3.cell? ⟨w.heap.size, 4, none⟩ = some (.int .i64 0) := cell_of (unhide HB) 4
    have fx4 : w3.frozen? ⟨w.heap.size, 4, none⟩ = false := frozen_of (unhide HB) 4
    have x5 : w3.cell? ⟨w.heap.size, 5, none⟩ = some (.slice none 0 0) := cell_of (unhide HB) 5
    have fx5 : w3.frozen? ⟨w.heap.size, 5, none⟩ = false := frozen_of (unhide HB) 5
    have x6 : w3.cell? ⟨w.heap.size, 6, none⟩ = some (.bool false) := cell_of (unhide HB) 6
    have fx6 : w3.frozen? ⟨w.heap.size, 6, none⟩ = false := frozen_of (unhide HB) 6
    go_wp2
    obtain ⟨z1, z2⟩ := set7 (unhide HB) rfl (.int .i64 0) (.int .i64 0) (.int .i64 0) (.int .u64 0) (.int .i64 0) (.slice none 0 0) (.bool false)
    have BT : Hid (Below w.heap.size w (((((((w3.setCell ⟨w.heap.size, 0, none⟩ (.int .i64 0)).setCell ⟨w.heap.size, 1, none⟩ (.int .i64 0)).setCell ⟨w.heap.size, 2, none⟩ (.int .i64 0)).setCell ⟨w.heap.size, 3, none⟩ (.int .u64 0)).setCell ⟨w.heap.size, 4, none⟩ (.int .i64 0)).setCell ⟨w.heap.size, 5, none⟩ (.slice none 0 0)).setCell ⟨w.heap.size, 6, none⟩ (.bool false))) := below_touch (unhide BW) z2 (unhide BW).size (fun k hk => by omega)
    have TT := hide z2
    clear z2 HB x0 fx0 x1 fx1 x2 fx2 x3 fx3 x4 fx4 x5 fx5 x6 fx6
    generalize (((((((w3.setCell ⟨w.heap.size, 0, none⟩ (.int .i64 0)).setCell ⟨w.heap.size, 1, none⟩ (.int .i64 0)).setCell ⟨w.heap.size, 2, none⟩ (.int .i64 0)).setCell ⟨w.heap.size, 3, none⟩ (.int .u64 0)).setCell ⟨w.heap.size, 4, none⟩ (.int .i64 0)).setCell ⟨w.heap.size, 5, none⟩ (.slice none 0 0)).setCell ⟨w.heap.size, 6, none⟩ (.bool false)) = WW at *
    have y0 : WW.cell? ⟨w.heap.size, 0, none⟩ = some (.int .i64 0) := cell_of z1 0
    have y1 : WW.cell? ⟨w.heap.size, 1, none⟩ = some (.int .i64 0) := cell_of z1 1
    have y2 : WW.cell? ⟨w.heap.size, 2, none⟩ = some (.int .i64 0) := cell_of z1 2
    have y3 : WW.cell? ⟨w.heap.size, 3, none⟩ = some (.int .u64 0) := cell_of z1 3
    have y4 : WW.cell? ⟨w.heap.size, 4, none⟩ = some (.int .i64 0) := cell_of z1 4
    have y5 : WW.cell? ⟨w.heap.size, 5, none⟩ = some (.slice none 0 0) := cell_of z1 5
    have y6 : WW.cell? ⟨w.heap.size, 6, none⟩ = some (.bool false) := cell_of z1 6
    refine bodyPost_ret (by simp [results, Try.results23, go_sem, y0, y1, y2, y3, y4, y5, y6]; try rfl) rfl ?_
    rw [unhide HD]
    exact ⟨none, 0, rfl, IL.nil _, New.nil _, unhide BT⟩
  by_cases h3 : st = 3
  · subst h3
    clear HR h0
    have HD : Hid (initD (getT K n) n inc pid = noneD (16)) := by show _ = _; rw [unhide XE]; unfold initD; simp [hn1, hn2, h1]
    clear XE KB
    go_wp2_with fail
    refine (unhide KN _ _).mono ?_
    rintro e w3 ⟨rfl, b3⟩
    have HB3 : Hid (w3.heap[w.heap.size]? = some (.cells #[.int .i64 0, .int .i64 0, .int .i64 0, .int .u64 0, .int .i64 0, .slice none 0 0, .bool false] 25)) := below_keep b3 (heap_old _ (unhide HB))
    have BW3 : Hid (Below w.heap.size w w3) := ((unhide BW).alloc (unhide BW).size _).trans (b3.mono (by have := (unhide BW).size; simp; omega))
    clear b3 HB BW KN
    have HB := HB3
    have BW := BW3
    clear HB3 BW3
    have x0 : w3.cell? ⟨w.heap.size, 0, none⟩ = some (.int .i64 0) := cell_of (unhide HB) 0
    have fx0 : w3.frozen? ⟨w.heap.size, 0, none⟩ = false := frozen_of (unhide HB) 0
    have x1 : w3.cell? ⟨w.heap.size, 1, none⟩ = some (.int .i64 0) := cell_of (unhide HB) 1
    have fx1 : w3.frozen? ⟨w.heap.size, 1, none⟩ = false := frozen_of (unhide HB) 1
    have x2 : w3.cell? ⟨w.heap.size, 2, none⟩ = some (.int .i64 0) := cell_of (unhide HB) 2
    have fx2 : w3.frozen? ⟨w.heap.size, 2, none⟩ = false := frozen_of (unhide HB) 2
    have x3 : w3.cell? ⟨w.heap.size, 3, none⟩ = some (.int .u64 0) := cell_of (unhide HB) 3
    have fx3 : w3.frozen? ⟨w.heap.size, 3, none⟩ = false := frozen_of (unhide HB) 3
    have x4 : w3.cell? ⟨w.heap.size, 4, none⟩ = some (.int .i64 0) := cell_of (unhide HB) 4
    have fx4 : w3.frozen? ⟨w.heap.size, 4, none⟩ = false := frozen_of (unhide HB) 4
    have x5 : w3.cell? ⟨w.heap.size, 5, none⟩ = some (.slice none 0 0) := cell_of (unhide HB) 5
    have fx5 : w3.frozen? ⟨w.heap.size, 5, none⟩ = false := frozen_of (unhide HB) 5
    have x6 : w3.cell? ⟨w.heap.size, 6, none⟩ = some (.bool false) := cell_of (unhide HB) 6
    have fx6 : w3.frozen? ⟨w.heap.size, 6, none⟩ = false := frozen_of (unhide HB) 6
    go_wp2
    obtain ⟨z1, z2⟩ := set7 (unhide HB) rfl (.int .i64 0) (.int .i64 0) (.int .i64 0) (.int .u64 0) (.int .i64 0) (.slice none 0 0) (.bool false)
    have BT : Hid (Below w.heap.size w (((((((w3.setCell ⟨w.heap.size, 0, none⟩ (.int .i64 0)).setCell ⟨w.heap.size, 1, none⟩ (.int .i64 0)).setCell ⟨w.heap.size, 2, none⟩ (.int .i64 0)).setCell ⟨w.heap.size, 3, none⟩ (.int .u64 0)).setCell ⟨w.heap.size, 4, none⟩ (.int .i64 0)).setCell ⟨w.heap.size, 5, none⟩ (.slice none 0 0)).setCell ⟨w.heap.size, 6, none⟩ (.bool false))) := below_touch (unhide BW) z2 (unhide BW).size (fun k hk => by omega)
    have TT := hide z2
    clear z2 HB x0 fx0 x1 fx1 x2 fx2 x3 fx3 x4 fx4 x5 fx5 x6 fx6
    generalize (((((((w3.setCell ⟨w.heap.size, 0, none⟩ (.int .i64 0)).setCell ⟨w.heap.size, 1, none⟩ (.int .i64 0)).setCell ⟨w.heap.size, 2, none⟩ (.int .i64 0)).setCell ⟨w.heap.size, 3, none⟩ (.int .u64 0)).setCell ⟨w.heap.size, 4, none⟩ (.int .i64 0)).setCell ⟨w.heap.size, 5, none⟩ (.slice none 0 0)).setCell ⟨w.heap.size, 6, none⟩ (.bool false)) = WW at *
    have y0 : WW.cell? ⟨w.heap.size, 0, none⟩ = some (.int .i64 0) := cell_of z1 0
    have y1 : WW.cell? ⟨w.heap.size, 1, none⟩ = some (.int .i64 0) := cell_of z1 1
    have y2 : WW.cell? ⟨w.heap.size, 2, none⟩ = some (.int .i64 0) := cell_of z1 2
    have y3 : WW.cell? ⟨w.heap.size, 3, none⟩ = some (.int .u64 0) := cell_of z1 3
    have y4 : WW.cell? ⟨w.heap.size, 4, none⟩ = some (.int .i64 0) := cell_of z1 4
    have y5 : WW.cell? ⟨w.heap.size, 5, none⟩ = some (.slice none 0 0) := cell_of z1 5
    have y6 : WW.cell? ⟨w.heap.size, 6, none⟩ = some (.bool false) := cell_of z1 6
    refine bodyPost_ret (by simp [results, Try.results23, go_sem, y0, y1, y2, y3, y4, y5, y6]; try rfl) rfl ?_
    rw [unhide HD]
    exact ⟨none, 0, rfl, IL.nil _, New.nil _, unhide BT⟩
  by_cases h4 : inc = ix
  · subst h4
    clear HR
    have HD : Hid (initD (getT K n) n inc pid = noneD (0)) := by show _ = _; rw [unhide XE]; unfold initD; simp [hn1, hn2, h0, h3]
    clear XE KB
    go_wp2_with fail
    refine (unhide KN _ _).mono ?_
    rintro e w3 ⟨rfl, b3⟩
    have HB3 : Hid (w3.heap[w.heap.size]? = some (.cells #[.int .i64 0, .int .i64 0, .int .i64 0, .int .u64 0, .int .i64 0, .slice none 0 0, .bool false] 25)) := below_keep b3 (heap_old _ (unhide HB))
    have BW3 : Hid (Below w.heap.size w w3) := ((unhide BW).alloc (unhide BW).size _).trans (b3.mono (by have := (unhide BW).size; simp; omega))
    clear b3 HB BW KN
    have HB := HB3
    have BW := BW3
    clear HB3 BW3
    have x0 : w3.cell? ⟨w.heap.size, 0, none⟩ = some (.int .i64 0) := cell_of (unhide HB) 0
    have fx0 : w3.frozen? ⟨w.heap.size, 0, none⟩ = false := frozen_of (unhide HB) 0
    have x1 : w3.cell? ⟨w.heap.size, 1, none⟩ = some (.int .i64 0) := cell_of (unhide HB) 1
    have fx1 : w3.frozen? ⟨w.heap.size, 1, none⟩ = false := frozen_of (unhide HB) 1
    have x2 : w3.cell? ⟨w.heap.size, 2, none⟩ = some (.int .i64 0) := cell_of (unhide HB) 2
    have fx2 : w3.frozen? ⟨w.heap.size, 2, none⟩ = false := frozen_of (unhide HB) 2
    have x3 : w3.cell? ⟨w.heap.size, 3, none⟩ = some (.int .u64 0) := cell_of (unhide HB) 3
    have fx3 : w3.frozen? ⟨w.heap.size, 3, none⟩ = false := frozen_of (unhide HB) 3
    have x4 : w3.cell? ⟨w.heap.size, 4, none⟩ = some (.int .i64 0) := cell_of (unhide HB) 4
    have fx4 : w3.frozen? ⟨w.heap.size, 4, none⟩ = false := frozen_of (unhide HB) 4
    have x5 : w3.cell? ⟨w.heap.size, 5, none⟩ = some (.slice none 0 0) := cell_of (unhide HB) 5
    have fx5 : w3.frozen? ⟨w.heap.size, 5, none⟩ = false := frozen_of (unhide HB) 5
    have x6 : w3.cell? ⟨w.heap.size, 6, none⟩ = some (.bool false) := cell_of (unhide HB) 6
    have fx6 : w3.frozen? ⟨w.heap.size, 6, none⟩ = false := frozen_of (unhide HB) 6
    go_wp2
    obtain ⟨z1, z2⟩ := set7 (unhide HB) rfl (.int .i64 0) (.int .i64 0) (.int .i64 0) (.int .u64 0) (.int .i64 0) (.slice none 0 0) (.bool false)
    have BT : Hid (Below w.heap.size w (((((((w3.setCell ⟨w.heap.size, 0, none⟩ (.int .i64 0)).setCell ⟨w.heap.size, 1, none⟩ (.int .i64 0)).setCell ⟨w.heap.size, 2, none⟩ (.int .i64 0)).setCell ⟨w.heap.size, 3, none⟩ (.int .u64 0)).setCell ⟨w.heap.size, 4, none⟩ (.int .i64 0)).setCell ⟨w.heap.size, 5, none⟩ (.slice none 0 0)).setCell ⟨w.heap.size, 6, none⟩ (.bool false))) := below_touch (unhide BW) z2 (unhide BW).size (fun k hk => by omega)
    have TT := hide z2
    clear z2 HB x0 fx0 x1 fx1 x2 fx2 x3 fx3 x4 fx4 x5 fx5 x6 fx6
    generalize (((((((w3.setCell ⟨w.heap.size, 0, none⟩ (.int .i64 0)).setCell ⟨w.heap.size, 1, none⟩ (.int .i64 0)).setCell ⟨w.heap.size, 2, none⟩ (.int .i64 0)).setCell ⟨w.heap.size, 3, none⟩ (.int .u64 0)).setCell ⟨w.heap.size, 4, none⟩ (.int .i64 0)).setCell ⟨w.heap.size, 5, none⟩ (.slice none 0 0)).setCell ⟨w.heap.size, 6, none⟩ (.bool false)) = WW at *
    have y0 : WW.cell? ⟨w.heap.size, 0, none⟩ = some (.int .i64 0) := cell_of z1 0
    have y1 : WW.cell? ⟨w.heap.size, 1, none⟩ = some (.int .i64 0) := cell_of z1 1
    have y2 : WW.cell? ⟨w.heap.size, 2, none⟩ = some (.int .i64 0) := cell_of z1 2
    have y3 : WW.cell? ⟨w.heap.size, 3, none⟩ = some (.int .u64 0) := cell_of z1 3
    have y4 : WW.cell? ⟨w.heap.size, 4, none⟩ = some (.int .i64 0) := cell_of z1 4
    have y5 : WW.cell? ⟨w.heap.size, 5, none⟩ = some (.slice none 0 0) := cell_of z1 5
    have y6 : WW.cell? ⟨w.heap.size, 6, none⟩ = some (.bool false) := cell_of z1 6
    refine bodyPost_ret (by simp [results, Try.results23, go_sem, y0, y1, y2, y3, y4, y5, y6]; try rfl) rfl ?_
    rw [unhide HD]
    exact ⟨none, 0, rfl, IL.nil _, New.nil _, unhide BT⟩
  by_cases h2 : st = 2
  · subst h2
    clear HR h0 h3
    have HD : Hid (initD (getT K n) n inc pid = ⟨⟨3, n, 0, 0, 0, [], false⟩, true, 16⟩) := by show _ = _; rw [unhide XE]; unfold initD; simp [hn1, hn2, h1, h4]
    clear XE KB KN
    go_upto_region 13 with fail
    have HB3 : Hid ((w1.alloc (.cells #[.int .i64 2, .int .i64 ix, .int .u64 px, .int .i64 ep, .slice sa n' c, .int .i64 la, .int .u64 lp, .bool co] 76)).heap[w.heap.size]? = some (.cells #[.int .i64 0, .int .i64 0, .int .i64 0, .int .u64 0, .int .i64 0, .slice none 0 0, .bool false] 25)) := heap_old _ (unhide HB)
    have BW3 : Hid (Below w.heap.size w (w1.alloc (.cells #[.int .i64 2, .int .i64 ix, .int .u64 px, .int .i64 ep, .slice sa n' c, .int .i64 la, .int .u64 lp, .bool co] 76))) := (unhide BW).alloc (unhide BW).size _
    generalize w1.alloc (.cells #[.int .i64 2, .int .i64 ix, .int .u64 px, .int .i64 ep, .slice sa n' c, .int .i64 la, .int .u64 lp, .bool co] 76) = w3 at *
    clear HB BW
    have HB := HB3
    have BW := BW3
    clear HB3 BW3
    have x0 : w3.cell? ⟨w.heap.size, 0, none⟩ = some (.int .i64 0) := cell_of (unhide HB) 0
    have fx0 : w3.frozen? ⟨w.heap.size, 0, none⟩ = false := frozen_of (unhide HB) 0
    have x1 : w3.cell? ⟨w.heap.size, 1, none⟩ = some (.int .i64 0) := cell_of (unhide HB) 1
    have fx1 : w3.frozen? ⟨w.heap.size, 1, none⟩ = false := frozen_of (unhide HB) 1
    have x2 : w3.cell? ⟨w.heap.size, 2, none⟩ = some (.int .i64 0) := cell_of (unhide HB) 2
    have fx2 : w3.frozen? ⟨w.heap.size, 2, none⟩ = false := frozen_of (unhide HB) 2
    have x3 : w3.cell? ⟨w.heap.size, 3, none⟩ = some (.int .u64 0) := cell_of (unhide HB) 3
    have fx3 : w3.frozen? ⟨w.heap.size, 3, none⟩ = false := frozen_of (unhide HB) 3
    have x4 : w3.cell? ⟨w.heap.size, 4, none⟩ = some (.int .i64 0) := cell_of (unhide HB) 4
    have fx4 : w3.frozen? ⟨w.heap.size, 4, none⟩ = false := frozen_of (unhide HB) 4
    have x5 : w3.cell? ⟨w.heap.size, 5, none⟩ = some (.slice none 0 0) := cell_of (unhide HB) 5
    have fx5 : w3.frozen? ⟨w.heap.size, 5, none⟩ = false := frozen_of (unhide HB) 5
    have x6 : w3.cell? ⟨w.heap.size, 6, none⟩ = some (.bool false) := cell_of (unhide HB) 6
    have fx6 : w3.frozen? ⟨w.heap.size, 6, none⟩ = false := frozen_of (unhide HB) 6
    go_wp2
    obtain ⟨z1, z2⟩ := set7 (unhide HB) rfl (.int .i64 3) (.int .i64 n) (.int .i64 0) (.int .u64 0) (.int .i64 0) (.slice none 0 0) (.bool false)
    have BT : Hid (Below w.heap.size w (((((((w3.setCell ⟨w.heap.size, 0, none⟩ (.int .i64 3)).setCell ⟨w.heap.size, 1, none⟩ (.int .i64 n)).setCell ⟨w.heap.size, 2, none⟩ (.int .i64 0)).setCell ⟨w.heap.size, 3, none⟩ (.int .u64 0)).setCell ⟨w.heap.size, 4, none⟩ (.int .i64 0)).setCell ⟨w.heap.size, 5, none⟩ (.slice none 0 0)).setCell ⟨w.heap.size, 6, none⟩ (.bool false))) := below_touch (unhide BW) z2 (unhide BW).size (fun k hk => by omega)
    have TT := hide z2
    clear z2 HB x0 fx0 x1 fx1 x2 fx2 x3 fx3 x4 fx4 x5 fx5 x6 fx6
    generalize (((((((w3.setCell ⟨w.heap.size, 0, none⟩ (.int .i64 3)).setCell ⟨w.heap.size, 1, none⟩ (.int .i64 n)).setCell ⟨w.heap.size, 2, none⟩ (.int .i64 0)).setCell ⟨w.heap.size, 3, none⟩ (.int .u64 0)).setCell ⟨w.heap.size, 4, none⟩ (.int .i64 0)).setCell ⟨w.heap.size, 5, none⟩ (.slice none 0 0)).setCell ⟨w.heap.size, 6, none⟩ (.bool false)) = WW at *
    have y0 : WW.cell? ⟨w.heap.size, 0, none⟩ = some (.int .i64 3) := cell_of z1 0
    have y1 : WW.cell? ⟨w.heap.size, 1, none⟩ = some (.int .i64 n) := cell_of z1 1
    have y2 : WW.cell? ⟨w.heap.size, 2, none⟩ = some (.int .i64 0) := cell_of z1 2
    have y3 : WW.cell? ⟨w.heap.size, 3, none⟩ = some (.int .u64 0) := cell_of z1 3
    have y4 : WW.cell? ⟨w.heap.size, 4, none⟩ = some (.int .i64 0) := cell_of z1 4
    have y5 : WW.cell? ⟨w.heap.size, 5, none⟩ = some (.slice none 0 0) := cell_of z1 5
    have y6 : WW.cell? ⟨w.heap.size, 6, none⟩ = some (.bool false) := cell_of z1 6
    refine bodyPost_ret (by simp [results, Try.results23, go_sem, y0, y1, y2, y3, y4, y5, y6]; try rfl) rfl ?_
    rw [unhide HD]
    exact ⟨none, 0, rfl, IL.nil _, New.nil _, unhide BT⟩
  by_cases h5 : 999 ≤ wrap64 (ep + 2)
  · clear HR
    have HD : Hid (initD (getT K n) n inc pid = beginD n inc pid) := by show _ = _; rw [unhide XE]; unfold initD; simp [hn1, hn2, h0, h1, h3, h4, h2, h5]
    clear XE
    generalize beginD n inc pid = dd at *
    obtain ⟨⟨kd, tx, ic, pi, eq, pl, cm⟩, ok, er⟩ := dd
    go_wp2_with fail
    refine (unhide KB _).mono ?_
    rintro e w3 ⟨sa2, c2, rfl, i1, i2, b3⟩
    have I1 := hide i1
    have I2 : Hid (New w (.slice sa2 pl.length c2)) := i2.mono (by have := (unhide BW).size; simp; omega)
    have I3 : Hid (∀ k, (Value.slice sa2 pl.length c2).ownBlock = some k → w.heap.size < k) := fun k hk => by have h1 := i2 k hk; have h2 := lt_of_heap (unhide HB); simp at h1; omega
    clear i1 i2 KB
    have HB3 : Hid (w3.heap[w.heap.size]? = some (.cells #[.int .i64 0, .int .i64 0, .int .i64 0, .int .u64 0, .int .i64 0, .slice none 0 0, .bool false] 25)) := below_keep b3 (heap_old _ (unhide HB))
    have BW3 : Hid (Below w.heap.size w w3) := ((unhide BW).alloc (unhide BW).size _).trans (b3.mono (by have := (unhide BW).size; simp; omega))
    clear b3 HB BW KN
    have HB := HB3
    have BW := BW3
    clear HB3 BW3
    have x0 : w3.cell? ⟨w.heap.size, 0, none⟩ = some (.int .i64 0) := cell_of (unhide HB) 0
    have fx0 : w3.frozen? ⟨w.heap.size, 0, none⟩ = false := frozen_of (unhide HB) 0
    have x1 : w3.cell? ⟨w.heap.size, 1, none⟩ = some (.int .i64 0) := cell_of (unhide HB) 1
    have fx1 : w3.frozen? ⟨w.heap.size, 1, none⟩ = false := frozen_of (unhide HB) 1
    have x2 : w3.cell? ⟨w.heap.size, 2, none⟩ = some (.int .i64 0) := cell_of (unhide HB) 2
    have fx2 : w3.frozen? ⟨w.heap.size, 2, none⟩ = false := frozen_of (unhide HB) 2
    have x3 : w3.cell? ⟨w.heap.size, 3, none⟩ = some (.int .u64 0) := cell_of (unhide HB) 3
    have fx3 : w3.frozen? ⟨w.heap.size, 3, none⟩ = false := frozen_of (unhide HB) 3
    have x4 : w3.cell? ⟨w.heap.size, 4, none⟩ = some (.int .i64 0) := cell_of (unhide HB) 4
    have fx4 : w3.frozen? ⟨w.heap.size, 4, none⟩ = false := frozen_of (unhide HB) 4
    have x5 : w3.cell? ⟨w.heap.size, 5, none⟩ = some (.slice none 0 0) := cell_of (unhide HB) 5
    have fx5 : w3.frozen? ⟨w.heap.size, 5, none⟩ = false := frozen_of (unhide HB) 5
    have x6 : w3.cell? ⟨w.heap.size, 6, none⟩ = some (.bool false) := cell_of (unhide HB) 6
    have fx6 : w3.frozen? ⟨w.heap.size, 6, none⟩ = false := frozen_of (unhide HB) 6
    simp only [reC]
    generalize hpn : pl.length = pn at *
    have PN := hide hpn
    clear hpn
    go_wp2
    obtain ⟨z1, z2⟩ := set7 (unhide HB) rfl (.int .i64 kd) (.int .i64 tx) (.int .i64 ic) (.int .u64 pi) (.int .i64 eq) (.slice sa2 pn c2) (.bool cm)
    have BT : Hid (Below w.heap.size w (((((((w3.setCell ⟨w.heap.size, 0, none⟩ (.int .i64 kd)).setCell ⟨w.heap.size, 1, none⟩ (.int .i64 tx)).setCell ⟨w.heap.size, 2, none⟩ (.int .i64 ic)).setCell ⟨w.heap.size, 3, none⟩ (.int .u64 pi)).setCell ⟨w.heap.size, 4, none⟩ (.int .i64 eq)).setCell ⟨w.heap.size, 5, none⟩ (.slice sa2 pn c2)).setCell ⟨w.heap.size, 6, none⟩ (.bool cm))) := below_touch (unhide BW) z2 (unhide BW).size (fun k hk => by omega)
    have TT := hide z2
    clear z2 HB x0 fx0 x1 fx1 x2 fx2 x3 fx3 x4 fx4 x5 fx5 x6 fx6
    generalize (((((((w3.setCell ⟨w.heap.size, 0, none⟩ (.int .i64 kd)).setCell ⟨w.heap.size, 1, none⟩ (.int .i64 tx)).setCell ⟨w.heap.size, 2, none⟩ (.int .i64 ic)).setCell ⟨w.heap.size, 3, none⟩ (.int .u64 pi)).setCell ⟨w.heap.size, 4, none⟩ (.int .i64 eq)).setCell ⟨w.heap.size, 5, none⟩ (.slice sa2 pn c2)).setCell ⟨w.heap.size, 6, none⟩ (.bool cm)) = WW at *
    have y0 : WW.cell? ⟨w.heap.size, 0, none⟩ = some (.int .i64 kd) := cell_of z1 0
    have y1 : WW.cell? ⟨w.heap.size, 1, none⟩ = some (.int .i64 tx) := cell_of z1 1
    have y2 : WW.cell? ⟨w.heap.size, 2, none⟩ = some (.int .i64 ic) := cell_of z1 2
    have y3 : WW.cell? ⟨w.heap.size, 3, none⟩ = some (.int .u64 pi) := cell_of z1 3
    have y4 : WW.cell? ⟨w.heap.size, 4, none⟩ = some (.int .i64 eq) := cell_of z1 4
    have y5 : WW.cell? ⟨w.heap.size, 5, none⟩ = some (.slice sa2 pn c2) := cell_of z1 5
    have y6 : WW.cell? ⟨w.heap.size, 6, none⟩ = some (.bool cm) := cell_of z1 6
    refine bodyPost_ret (by simp [results, Try.results23, go_sem, y0, y1, y2, y3, y4, y5, y6]; try rfl) rfl ?_
    rw [unhide HD]
    refine ⟨sa2, c2, ?_, ?_, ?_, unhide BT⟩
    · simp only [reC]; rw [unhide PN]
    · show IL WW (.slice sa2 pl.length c2) pl
      rw [unhide PN]; exact (unhide I1).keep (unhide TT) (fun k hk e => by have := unhide I3 k hk; omega)
    · show New w (.slice sa2 pl.length c2)
      rw [unhide PN]; exact unhide I2
  · clear HR
    have HD : Hid (initD (getT K n) n inc pid = ⟨⟨1, n, inc, px, wrap64 (ep + 2), [], false⟩, true, 0⟩) := by show _ = _; rw [unhide XE]; unfold initD; simp [hn1, hn2, h0, h1, h3, h4, h2, h5]
    clear XE KB KN
    go_upto_region 16 with fail
    have HB3 : Hid ((w1.alloc (.cells #[.int .i64 st, .int .i64 ix, .int .u64 px, .int .i64 ep, .slice sa n' c, .int .i64 la, .int .u64 lp, .bool co] 76)).heap[w.heap.size]? = some (.cells #[.int .i64 0, .int .i64 0, .int .i64 0, .int .u64 0, .int .i64 0, .slice none 0 0, .bool false] 25)) := heap_old _ (unhide HB)
    have BW3 : Hid (Below w.heap.size w (w1.alloc (.cells #[.int .i64 st, .int .i64 ix, .int .u64 px, .int .i64 ep, .slice sa n' c, .int .i64 la, .int .u64 lp, .bool co] 76))) := (unhide BW).alloc (unhide BW).size _
    have q2 : (w1.alloc (.cells #[.int .i64 st, .int .i64 ix, .int .u64 px, .int .i64 ep, .slice sa n' c, .int .i64 la, .int .u64 lp, .bool co] 76)).cell? ⟨w1.heap.size, 2, none⟩ = some (.int .u64 px) := cell_of (heap_new w1 _) 2
    have q3 : (w1.alloc (.cells #[.int .i64 st, .int .i64 ix, .int .u64 px, .int .i64 ep, .slice sa n' c, .int .i64 la, .int .u64 lp, .bool co] 76)).cell? ⟨w1.heap.size, 3, none⟩ = some (.int .i64 ep) := cell_of (heap_new w1 _) 3
    generalize w1.alloc (.cells #[.int .i64 st, .int .i64 ix, .int .u64 px, .int .i64 ep, .slice sa n' c, .int .i64 la, .int .u64 lp, .bool co] 76) = w3 at *
    clear HB BW
    have HB := HB3
    have BW := BW3
    clear HB3 BW3
    have x0 : w3.cell? ⟨w.heap.size, 0, none⟩ = some (.int .i64 0) := cell_of (unhide HB) 0
    have fx0 : w3.frozen? ⟨w.heap.size, 0, none⟩ = false := frozen_of (unhide HB) 0
    have x1 : w3.cell? ⟨w.heap.size, 1, none⟩ = some (.int .i64 0) := cell_of (unhide HB) 1
    have fx1 : w3.frozen? ⟨w.heap.size, 1, none⟩ = false := frozen_of (unhide HB) 1
    have x2 : w3.cell? ⟨w.heap.size, 2, none⟩ = some (.int .i64 0) := cell_of (unhide HB) 2
    have fx2 : w3.frozen? ⟨w.heap.size, 2, none⟩ = false := frozen_of (unhide HB) 2
    have x3 : w3.cell? ⟨w.heap.size, 3, none⟩ = some (.int .u64 0) := cell_of (unhide HB) 3
    have fx3 : w3.frozen? ⟨w.heap.size, 3, none⟩ = false := frozen_of (unhide HB) 3
    have x4 : w3.cell? ⟨w.heap.size, 4, none⟩ = some (.int .i64 0) := cell_of (unhide HB) 4
    have fx4 : w3.frozen? ⟨w.heap.size, 4, none⟩ = false := frozen_of (unhide HB) 4
    have x5 : w3.cell? ⟨w.heap.size, 5, none⟩ = some (.slice none 0 0) := cell_of (unhide HB) 5
    have fx5 : w3.frozen? ⟨w.heap.size, 5, none⟩ = false := frozen_of (unhide HB) 5
    have x6 : w3.cell? ⟨w.heap.size, 6, none⟩ = some (.bool false) := cell_of (unhide HB) 6
    have fx6 : w3.frozen? ⟨w.heap.size, 6, none⟩ = false := frozen_of (unhide HB) 6
    go_wp2
    obtain ⟨z1, z2⟩ := set7 (unhide HB) rfl (.int .i64 1) (.int .i64 n) (.int .i64 inc) (.int .u64 px) (.int .i64 (wrap64 (ep + 2))) (.slice none 0 0) (.bool false)
    have BT : Hid (Below w.heap.size w (((((((w3.setCell ⟨w.heap.size, 0, none⟩ (.int .i64 1)).setCell ⟨w.heap.size, 1, none⟩ (.int .i64 n)).setCell ⟨w.heap.size, 2, none⟩ (.int .i64 inc)).setCell ⟨w.heap.size, 3, none⟩ (.int .u64 px)).setCell ⟨w.heap.size, 4, none⟩ (.int .i64 (wrap64 (ep + 2)))).setCell ⟨w.heap.size, 5, none⟩ (.slice none 0 0)).setCell ⟨w.heap.size, 6, none⟩ (.bool false))) := below_touch (unhide BW) z2 (unhide BW).size (fun k hk => by omega)
    have TT := hide z2
    clear z2 HB x0 fx0 x1 fx1 x2 fx2 x3 fx3 x4 fx4 x5 fx5 x6 fx6
    generalize (((((((w3.setCell ⟨w.heap.size, 0, none⟩ (.int .i64 1)).setCell ⟨w.heap.size, 1, none⟩ (.int .i64 n)).setCell ⟨w.heap.size, 2, none⟩ (.int .i64 inc)).setCell ⟨w.heap.size, 3, none⟩ (.int .u64 px)).setCell ⟨w.heap.size, 4, none⟩ (.int .i64 (wrap64 (ep + 2)))).setCell ⟨w.heap.size, 5, none⟩ (.slice none 0 0)).setCell ⟨w.heap.size, 6, none⟩ (.bool false)) = WW at *
    have y0 : WW.cell? ⟨w.heap.size, 0, none⟩ = some (.int .i64 1) := cell_of z1 0
    have y1 : WW.cell? ⟨w.heap.size, 1, none⟩ = some (.int .i64 n) := cell_of z1 1
    have y2 : WW.cell? ⟨w.heap.size, 2, none⟩ = some (.int .i64 inc) := cell_of z1 2
    have y3 : WW.cell? ⟨w.heap.size, 3, none⟩ = some (.int .u64 px) := cell_of z1 3
    have y4 : WW.cell? ⟨w.heap.size, 4, none⟩ = some (.int .i64 (wrap64 (ep + 2))) := cell_of z1 4
    have y5 : WW.cell? ⟨w.heap.size, 5, none⟩ = some (.slice none 0 0) := cell_of z1 5
    have y6 : WW.cell? ⟨w.heap.size, 6, none⟩ = some (.bool false) := cell_of z1 6
    refine bodyPost_ret (by simp [results, Try.results23, go_sem, y0, y1, y2, y3, y4, y5, y6]; try rfl) rfl ?_
    rw [unhide HD]
    exact ⟨none, 0, rfl, IL.nil _, New.nil _, unhide BT⟩
end Go.Proofs.Ytbgccnnomgeniaa
