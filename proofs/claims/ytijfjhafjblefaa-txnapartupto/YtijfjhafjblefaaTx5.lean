/-
  txn's End, of any state. Conditions: none but the state's own.
-/
import Derived.Test.YtijfjhafjblefaaTx2
namespace Go.Proofs.Ytijfjhafjblefaa
open Go.RowKit Go.Maps
set_option linter.unusedVariables false

set_option maxRecDepth 100000 in
theorem decided_any' (st ix px ep : Int) (sa : Option Addr) (n' c : Nat) (la lp : Int) (co : Bool) (commit : Bool) (w : World) {x : Tx} (h1 : st = x.st) (h2 : co = x.co) : Calls Try.prog 62 #[.agg #[.int .i64 st, .int .i64 ix, .int .u64 px, .int .i64 ep, .slice sa n' c, .int .i64 la, .int .u64 lp, .bool co], .bool commit] w fun e w' => e = .returned (.int .i64 (decE x commit)) ∧ Below w.heap.size w w' := by
  have hE : decE x commit = if commit ≠ co then 14 else if st = 3 then 16 else 0 := by unfold decE; rw [← h1, ← h2]
  rw [hE]
  clear hE h1 h2 x
  have B : Hid (Below w.heap.size w (w.alloc (.cells #[.int .i64 st, .int .i64 ix, .int .u64 px, .int .i64 ep, .slice sa n' c, .int .i64 la, .int .u64 lp, .bool co] 57))) := (Below.refl _ _).alloc (Nat.le_refl _) _
  by_cases hc : commit = co
  · subst hc
    by_cases hs : st = 3
    · subst hs
      have e2 : (if commit ≠ commit then (14 : Int) else if (3 : Int) = 3 then 16 else 0) = 16 := by simp
      rw [e2]
      go_enter Try.func62, Try.ntmps62
      go_wp2
      go_ret
      exact ⟨rfl, unhide B⟩
    · have e2 : (if commit ≠ commit then (14 : Int) else if st = 3 then 16 else 0) = 0 := by simp [hs]
      rw [e2]
      clear e2
      go_enter Try.func62, Try.ntmps62
      go_wp2
      go_ret
      exact ⟨rfl, unhide B⟩
  · have e2 : (if commit ≠ co then (14 : Int) else if st = 3 then 16 else 0) = 14 := by simp [hc]
    rw [e2]
    clear e2
    have hc2 : (commit == co) = false := by simpa using hc
    go_enter Try.func62, Try.ntmps62
    go_wp2
    go_ret
    exact ⟨rfl, unhide B⟩
set_option maxRecDepth 100000 in
set_option maxHeartbeats 4000000 in
theorem end_bad {sb : Nat} (n pid epoch : Int) (commit : Bool) (w : World) (hn : ¬ (0 ≤ n ∧ n < 8)) : Calls Try.prog 23 #[.pointer (some ⟨sb, 0, none⟩), .int .i64 n, .int .u64 pid, .int .i64 epoch, .bool commit] w fun e w' => DnP w (noneD 1) e w' := by
  have KN : Hid (∀ er W, Calls Try.prog 58 #[.int .i64 er] W fun e w' => NoneP W er e w') := fun er W => tnone_any er W
  have KM := hide (named_bad sb n (w.alloc (.cells #[.int .i64 0, .int .i64 0, .int .i64 0, .int .u64 0, .int .i64 0, .slice none 0 0, .bool false] 25)) hn)
  have B0 : Hid (Below w.heap.size w (w.alloc (.cells #[.int .i64 0, .int .i64 0, .int .i64 0, .int .u64 0, .int .i64 0, .slice none 0 0, .bool false] 25))) := (Below.refl _ _).alloc (Nat.le_refl _) _
  have H0 := hide (heap_new w (.cells #[.int .i64 0, .int .i64 0, .int .i64 0, .int .u64 0, .int .i64 0, .slice none 0 0, .bool false] 25))
  go_enter Try.func23, Try.ntmps23
  go_wp2_with fail
  refine (unhide KM).mono ?_
  rintro e w1 ⟨rfl, b1⟩
  have HB : Hid (w1.heap[w.heap.size]? = some (.cells #[.int .i64 0, .int .i64 0, .int .i64 0, .int .u64 0, .int .i64 0, .slice none 0 0, .bool false] 25)) := below_keep b1 (unhide H0)
  have BW : Hid (Below w.heap.size w w1) := (unhide B0).trans (b1.mono (by simp))
  clear b1 KM B0 H0
  go_wp2_with fail
  refine (unhide KN _ _).mono ?_
  rintro e w3 ⟨rfl, b3⟩
  have HB3 : Hid (w3.heap[w.heap.size]? = some (.cells #[.int .i64 0, .int .i64 0, .int .i64 0, .int .u64 0, .int .i64 0, .slice none 0 0, .bool false] 25)) := below_keep b3 (heap_old _ (unhide HB))
  have BW3 : Hid (Below w.heap.size w w3) := ((unhide BW).alloc (unhide BW).size _).trans (b3.mono (by have := (unhide BW).size; simp; omega))
  clear b3 HB BW KN
  have HB := HB3
  have BW := BW3
  clear HB3 BW3
  have x0 : w3.cell? ⟨w.heap.size, 0, none⟩ = some (.int .i64 0) := cell_of (unhide HB) 0
  have fx0 : w3.frozen? ⟨w.heap.size, 0, none⟩ = false := frozen_of (unhide HB) 0
  have x1 : w3.cell? ⟨w.heap.size, 1, none⟩ = some (.int .i64 0) := cell_of (unhide HB) 1
  have fx1 : w3.frozen? ⟨w.heap.size, 1, none⟩ = false := frozen_of (unhide HB) 1
  have x2 : w3.cell? ⟨w.heap.size, 2, none⟩ = some (.int .i64 0) := cell_of (unhide HB) 2
  have fx2 : w3.frozen? ⟨w.heap.size, 2, none⟩ = false := frozen_of (unhide HB) 2
  have x3 : w3.cell? ⟨w.heap.size, 3, none⟩ = some (.int .u64 0) := cell_of (unhide HB) 3
  have fx3 : w3.frozen? ⟨w.heap.size, 3, none⟩ = false := frozen_of (unhide HB) 3
  have x4 : w3.cell? ⟨w.heap.size, 4, none⟩ = some (.int .i64 0) := cell_of (unhide HB) 4
  have fx4 : w3.frozen? ⟨w.heap.size, 4, none⟩ = false := frozen_of (unhide HB) 4
  have x5 : w3.cell? ⟨w.heap.size, 5, none⟩ = some (.slice none 0 0) := cell_of (unhide HB) 5
  have fx5 : w3.frozen? ⟨w.heap.size, 5, none⟩ = false := frozen_of (unhide HB) 5
  have x6 : w3.cell? ⟨w.heap.size, 6, none⟩ = some (.bool false) := cell_of (unhide HB) 6
  have fx6 : w3.frozen? ⟨w.heap.size, 6, none⟩ = false := frozen_of (unhide HB) 6
  go_wp2
  obtain ⟨z1, z2⟩ := set7 (unhide HB) rfl (.int .i64 0) (.int .i64 0) (.int .i64 0) (.int .u64 0) (.int .i64 0) (.slice none 0 0) (.bool false)
  have BT : Hid (Below w.heap.size w (((((((w3.setCell ⟨w.heap.size, 0, none⟩ (.int .i64 0)).setCell ⟨w.heap.size, 1, none⟩ (.int .i64 0)).setCell ⟨w.heap.size, 2, none⟩ (.int .i64 0)).setCell ⟨w.heap.size, 3, none⟩ (.int .u64 0)).setCell ⟨w.heap.size, 4, none⟩ (.int .i64 0)).setCell ⟨w.heap.size, 5, none⟩ (.slice none 0 0)).setCell ⟨w.heap.size, 6, none⟩ (.bool false))) := below_touch (unhide BW) z2 (unhide BW).size (fun k hk => by omega)
  have TT := hide z2
  clear z2 HB x0 fx0 x1 fx1 x2 fx2 x3 fx3 x4 fx4 x5 fx5 x6 fx6
  generalize (((((((w3.setCell ⟨w.heap.size, 0, none⟩ (.int .i64 0)).setCell ⟨w.heap.size, 1, none⟩ (.int .i64 0)).setCell ⟨w.heap.size, 2, none⟩ (.int .i64 0)).setCell ⟨w.heap.size, 3, none⟩ (.int .u64 0)).setCell ⟨w.heap.size, 4, none⟩ (.int .i64 0)).setCell ⟨w.heap.size, 5, none⟩ (.slice none 0 0)).setCell ⟨w.heap.size, 6, none⟩ (.bool false)) = WW at *
  have y0 : WW.cell? ⟨w.heap.size, 0, none⟩ = some (.int .i64 0) := cell_of z1 0
  have y1 : WW.cell? ⟨w.heap.size, 1, none⟩ = some (.int .i64 0) := cell_of z1 1
  have y2 : WW.cell? ⟨w.heap.size, 2, none⟩ = some (.int .i64 0) := cell_of z1 2
  have y3 : WW.cell? ⟨w.heap.size, 3, none⟩ = some (.int .u64 0) := cell_of z1 3
  have y4 : WW.cell? ⟨w.heap.size, 4, none⟩ = some (.int .i64 0) := cell_of z1 4
  have y5 : WW.cell? ⟨w.heap.size, 5, none⟩ = some (.slice none 0 0) := cell_of z1 5
  have y6 : WW.cell? ⟨w.heap.size, 6, none⟩ = some (.bool false) := cell_of z1 6
  refine bodyPost_ret (by simp [results, Try.results23, go_sem, y0, y1, y2, y3, y4, y5, y6]; try rfl) rfl ?_
  exact ⟨none, 0, rfl, IL.nil _, New.nil _, unhide BT⟩
set_option maxRecDepth 100000 in
set_option maxHeartbeats 4000000 in
theorem end_nil (n pid epoch : Int) (commit : Bool) (w : World) : Calls Try.prog 23 #[.pointer none, .int .i64 n, .int .u64 pid, .int .i64 epoch, .bool commit] w fun e w' => DnP w (noneD 5) e w' := by
  have KN : Hid (∀ er W, Calls Try.prog 58 #[.int .i64 er] W fun e w' => NoneP W er e w') := fun er W => tnone_any er W
  have KM := hide (named_nil n (w.alloc (.cells #[.int .i64 0, .int .i64 0, .int .i64 0, .int .u64 0, .int .i64 0, .slice none 0 0, .bool false] 25)))
  have B0 : Hid (Below w.heap.size w (w.alloc (.cells #[.int .i64 0, .int .i64 0, .int .i64 0, .int .u64 0, .int .i64 0, .slice none 0 0, .bool false] 25))) := (Below.refl _ _).alloc (Nat.le_refl _) _
  have H0 := hide (heap_new w (.cells #[.int .i64 0, .int .i64 0, .int .i64 0, .int .u64 0, .int .i64 0, .slice none 0 0, .bool false] 25))
  go_enter Try.func23, Try.ntmps23
  go_wp2_with fail
  refine (unhide KM).mono ?_
  rintro e w1 ⟨rfl, b1⟩
  have HB : Hid (w1.heap[w.heap.size]? = some (.cells #[.int .i64 0, .int .i64 0, .int .i64 0, .int .u64 0, .int .i64 0, .slice none 0 0, .bool false] 25)) := below_keep b1 (unhide H0)
  have BW : Hid (Below w.heap.size w w1) := (unhide B0).trans (b1.mono (by simp))
  clear b1 KM B0 H0
  go_wp2_with fail
  refine (unhide KN _ _).mono ?_
  rintro e w3 ⟨rfl, b3⟩
  have HB3 : Hid (w3.heap[w.heap.size]? = some (.cells #[.int .i64 0, .int .i64 0, .int .i64 0, .int .u64 0, .int .i64 0, .slice none 0 0, .bool false] 25)) := below_keep b3 (heap_old _ (unhide HB))
  have BW3 : Hid (Below w.heap.size w w3) := ((unhide BW).alloc (unhide BW).size _).trans (b3.mono (by have := (unhide BW).size; simp; omega))
  clear b3 HB BW KN
  have HB := HB3
  have BW := BW3
  clear HB3 BW3
  have x0 : w3.cell? ⟨w.heap.size, 0, none⟩ = some (.int .i64 0) := cell_of (unhide HB) 0
  have fx0 : w3.frozen? ⟨w.heap.size, 0, none⟩ = false := frozen_of (unhide HB) 0
  have x1 : w3.cell? ⟨w.heap.size, 1, none⟩ = some (.int .i64 0) := cell_of (unhide HB) 1
  have fx1 : w3.frozen? ⟨w.heap.size, 1, none⟩ = false := frozen_of (unhide HB) 1
  have x2 : w3.cell? ⟨w.heap.size, 2, none⟩ = some (.int .i64 0) := cell_of (unhide HB) 2
  have fx2 : w3.frozen? ⟨w.heap.size, 2, none⟩ = false := frozen_of (unhide HB) 2
  have x3 : w3.cell? ⟨w.heap.size, 3, none⟩ = some (.int .u64 0) := cell_of (unhide HB) 3
  have fx3 : w3.frozen? ⟨w.heap.size, 3, none⟩ = false := frozen_of (unhide HB) 3
  have x4 : w3.cell? ⟨w.heap.size, 4, none⟩ = some (.int .i64 0) := cell_of (unhide HB) 4
  have fx4 : w3.frozen? ⟨w.heap.size, 4, none⟩ = false := frozen_of (unhide HB) 4
  have x5 : w3.cell? ⟨w.heap.size, 5, none⟩ = some (.slice none 0 0) := cell_of (unhide HB) 5
  have fx5 : w3.frozen? ⟨w.heap.size, 5, none⟩ = false := frozen_of (unhide HB) 5
  have x6 : w3.cell? ⟨w.heap.size, 6, none⟩ = some (.bool false) := cell_of (unhide HB) 6
  have fx6 : w3.frozen? ⟨w.heap.size, 6, none⟩ = false := frozen_of (unhide HB) 6
  go_wp2
  obtain ⟨z1, z2⟩ := set7 (unhide HB) rfl (.int .i64 0) (.int .i64 0) (.int .i64 0) (.int .u64 0) (.int .i64 0) (.slice none 0 0) (.bool false)
  have BT : Hid (Below w.heap.size w (((((((w3.setCell ⟨w.heap.size, 0, none⟩ (.int .i64 0)).setCell ⟨w.heap.size, 1, none⟩ (.int .i64 0)).setCell ⟨w.heap.size, 2, none⟩ (.int .i64 0)).setCell ⟨w.heap.size, 3, none⟩ (.int .u64 0)).setCell ⟨w.heap.size, 4, none⟩ (.int .i64 0)).setCell ⟨w.heap.size, 5, none⟩ (.slice none 0 0)).setCell ⟨w.heap.size, 6, none⟩ (.bool false))) := below_touch (unhide BW) z2 (unhide BW).size (fun k hk => by omega)
  have TT := hide z2
  clear z2 HB x0 fx0 x1 fx1 x2 fx2 x3 fx3 x4 fx4 x5 fx5 x6 fx6
  generalize (((((((w3.setCell ⟨w.heap.size, 0, none⟩ (.int .i64 0)).setCell ⟨w.heap.size, 1, none⟩ (.int .i64 0)).setCell ⟨w.heap.size, 2, none⟩ (.int .i64 0)).setCell ⟨w.heap.size, 3, none⟩ (.int .u64 0)).setCell ⟨w.heap.size, 4, none⟩ (.int .i64 0)).setCell ⟨w.heap.size, 5, none⟩ (.slice none 0 0)).setCell ⟨w.heap.size, 6, none⟩ (.bool false)) = WW at *
  have y0 : WW.cell? ⟨w.heap.size, 0, none⟩ = some (.int .i64 0) := cell_of z1 0
  have y1 : WW.cell? ⟨w.heap.size, 1, none⟩ = some (.int .i64 0) := cell_of z1 1
  have y2 : WW.cell? ⟨w.heap.size, 2, none⟩ = some (.int .i64 0) := cell_of z1 2
  have y3 : WW.cell? ⟨w.heap.size, 3, none⟩ = some (.int .u64 0) := cell_of z1 3
  have y4 : WW.cell? ⟨w.heap.size, 4, none⟩ = some (.int .i64 0) := cell_of z1 4
  have y5 : WW.cell? ⟨w.heap.size, 5, none⟩ = some (.slice none 0 0) := cell_of z1 5
  have y6 : WW.cell? ⟨w.heap.size, 6, none⟩ = some (.bool false) := cell_of z1 6
  refine bodyPost_ret (by simp [results, Try.results23, go_sem, y0, y1, y2, y3, y4, y5, y6]; try rfl) rfl ?_
  exact ⟨none, 0, rfl, IL.nil _, New.nil _, unhide BT⟩
set_option maxRecDepth 100000 in
set_option maxHeartbeats 4000000 in
theorem end_any {w : World} {sb : Nat} {mv : Value} {m : List (Int × Td)} {K : Int → Option Tx} {R : Nat → Prop} (n pid epoch : Int) (commit : Bool) (h : TS w sb mv m K R) :
    Calls Try.prog 23 #[.pointer (some ⟨sb, 0, none⟩), .int .i64 n, .int .u64 pid, .int .i64 epoch, .bool commit] w fun e w' => DnP w (endD (getT K n) n pid epoch commit) e w' := by
  by_cases hn : 0 ≤ n ∧ n < 8
  rotate_left
  · have hd : endD (getT K n) n pid epoch commit = noneD 1 := by unfold endD; rw [if_pos hn]
    rw [hd]
    exact end_bad n pid epoch commit w hn
  have KN : Hid (∀ er W, Calls Try.prog 58 #[.int .i64 er] W fun e w' => NoneP W er e w') := fun er W => tnone_any er W
  have b0 : Below w.heap.size w (w.alloc (.cells #[.int .i64 0, .int .i64 0, .int .i64 0, .int .u64 0, .int .i64 0, .slice none 0 0, .bool false] 25)) := (Below.refl _ _).alloc (Nat.le_refl _) _
  have KM := hide (named_ok (h.later b0) hn)
  have B0 := hide b0
  have H0 := hide (heap_new w (.cells #[.int .i64 0, .int .i64 0, .int .i64 0, .int .u64 0, .int .i64 0, .slice none 0 0, .bool false] 25))
  have hn1 := hn.1
  have hn2 := hn.2
  clear h b0 hn
  have KB : Hid True := trivial
  go_enter Try.func23, Try.ntmps23
  go_wp2_with fail
  refine (unhide KM).mono ?_
  rintro e w1 ⟨q, rfl, f1, f2, b1⟩
  have HB : Hid (w1.heap[w.heap.size]? = some (.cells #[.int .i64 0, .int .i64 0, .int .i64 0, .int .u64 0, .int .i64 0, .slice none 0 0, .bool false] 25)) := below_keep b1 (unhide H0)
  have BW : Hid (Below w.heap.size w w1) := (unhide B0).trans (b1.mono (by simp))
  clear b1 KM B0 H0 f2
  obtain ⟨x, hx⟩ : ∃ x, getT K n = x := ⟨_, rfl⟩
  rw [hx] at f1
  obtain ⟨xst, xinc, xpid, xep, ps, xla, xlp, xco⟩ := x
  obtain ⟨st, ix, px, ep, g, n', c, la, lp, co⟩ := q
  obtain ⟨e1, e2, e3, e4, e5, e6, e7, row⟩ := f1
  simp only at e1 e2 e3 e4 e5 e6 e7 row
  subst e1 e2 e3 e4 e5 e6 e7
  simp only [tdV, tdC, tdS] at row ⊢
  generalize hsa : g.map (fun g => (⟨g, 0, none⟩ : Addr)) = sa at *
  clear hsa
  have HR := hide row
  have XE := hide hx
  clear row hx
  by_cases h0 : st = 0
  · subst h0
    clear HR
    have HD : Hid (endD (getT K n) n pid epoch commit = noneD (10)) := by show _ = _; rw [unhide XE]; unfold endD; simp [hn1, hn2]
    clear XE KB
    go_wp2_with fail
    refine (unhide KN _ _).mono ?_
    rintro e w3 ⟨rfl, b3⟩
    have HB3 : Hid (w3.heap[w.heap.size]? = some (.cells #[.int .i64 0, .int .i64 0, .int .i64 0, .int .u64 0, .int .i64 0, .slice none 0 0, .bool false] 25)) := below_keep b3 (heap_old _ (unhide HB))
    have BW3 : Hid (Below w.heap.size w w3) := ((unhide BW).alloc (unhide BW).size _).trans (b3.mono (by have := (unhide BW).size; simp; omega))
    clear b3 HB BW KN
    have HB := HB3
    have BW := BW3
    clear HB3 BW3
    have x0 : w3.cell? ⟨w.heap.size, 0, none⟩ = some (.int .i64 0) := cell_of (unhide HB) 0
    have fx0 : w3.frozen? ⟨w.heap.size, 0, none⟩ = false := frozen_of (unhide HB) 0
    have x1 : w3.cell? ⟨w.heap.size, 1, none⟩ = some (.int .i64 0) := cell_of (unhide HB) 1
    have fx1 : w3.frozen? ⟨w.heap.size, 1, none⟩ = false := frozen_of (unhide HB) 1
    have x2 : w3.cell? ⟨w.heap.size, 2, none⟩ = some (.int .i64 0) := cell_of (unhide HB) 2
    have fx2 : w3.frozen? ⟨w.heap.size, 2, none⟩ = false := frozen_of (unhide HB) 2
    have x3 : w3.cell? ⟨w.heap.size, 3, none⟩ = some (.int .u64 0) := cell_of (unhide HB) 3
    have fx3 : w3.frozen? ⟨w.heap.size, 3, none⟩ = false := frozen_of (unhide HB) 3
    have x4 : w3.cell? ⟨w.heap.size, 4, none⟩ = some (.int .i64 0) := cell_of (unhide HB) 4
    have fx4 : w3.frozen? ⟨w.heap.size, 4, none⟩ = false := frozen_of (unhide HB) 4
    have x5 : w3.cell? ⟨w.heap.size, 5, none⟩ = some (.slice none 0 0) := cell_of (unhide HB) 5
    have fx5 : w3.frozen? ⟨w.heap.size, 5, none⟩ = false := frozen_of (unhide HB) 5
    have x6 : w3.cell? ⟨w.heap.size, 6, none⟩ = some (.bool false) := cell_of (unhide HB) 6
    have fx6 : w3.frozen? ⟨w.heap.size, 6, none⟩ = false := frozen_of (unhide HB) 6
    go_wp2
    obtain ⟨z1, z2⟩ := set7 (unhide HB) rfl (.int .i64 0) (.int .i64 0) (.int .i64 0) (.int .u64 0) (.int .i64 0) (.slice none 0 0) (.bool false)
    have BT : Hid (Below w.heap.size w (((((((w3.setCell ⟨w.heap.size, 0, none⟩ (.int .i64 0)).setCell ⟨w.heap.size, 1, none⟩ (.int .i64 0)).setCell ⟨w.heap.size, 2, none⟩ (.int .i64 0)).setCell ⟨w.heap.size, 3, none⟩ (.int .u64 0)).setCell ⟨w.heap.size, 4, none⟩ (.int .i64 0)).setCell ⟨w.heap.size, 5, none⟩ (.slice none 0 0)).setCell ⟨w.heap.size, 6, none⟩ (.bool false))) := below_touch (unhide BW) z2 (unhide BW).size (fun k hk => by omega)
    have TT := hide z2
    clear z2 HB x0 fx0 x1 fx1 x2 fx2 x3 fx3 x4 fx4 x5 fx5 x6 fx6
    generalize (((((((w3.setCell ⟨w.heap.size, 0, none⟩ (.int .i64 0)).setCell ⟨w.heap.size, 1, none⟩ (.int .i64 0)).setCell ⟨w.heap.size, 2, none⟩ (.int .i64 0)).setCell ⟨w.heap.size, 3, none⟩ (.int .u64 0)).setCell ⟨w.heap.size, 4, none⟩ (.int .i64 0)).setCell ⟨w.heap.size, 5, none⟩ (.slice none 0 0)).setCell ⟨w.heap.size, 6, none⟩ (.bool false)) = WW at *
    have y0 : WW.cell? ⟨w.heap.size, 0, none⟩ = some (.int .i64 0) := cell_of z1 0
    have y1 : WW.cell? ⟨w.heap.size, 1, none⟩ = some (.int .i64 0) := cell_of z1 1
    have y2 : WW.cell? ⟨w.heap.size, 2, none⟩ = some (.int .i64 0) := cell_of z1 2
    have y3 : WW.cell? ⟨w.heap.size, 3, none⟩ = some (.int .u64 0) := cell_of z1 3
    have y4 : WW.cell? ⟨w.heap.size, 4, none⟩ = some (.int .i64 0) := cell_of z1 4
    have y5 : WW.cell? ⟨w.heap.size, 5, none⟩ = some (.slice none 0 0) := cell_of z1 5
    have y6 : WW.cell? ⟨w.heap.size, 6, none⟩ = some (.bool false) := cell_of z1 6
    refine bodyPost_ret (by simp [results, Try.results23, go_sem, y0, y1, y2, y3, y4, y5, y6]; try rfl) rfl ?_
    rw [unhide HD]
    exact ⟨none, 0, rfl, IL.nil _, New.nil _, unhide BT⟩
  by_cases h1 : px = pid
  rotate_left
  · clear HR
    have h1b : (px == pid) = false := by simpa using h1
    have h1c : (px != pid) = true := by simpa using h1
    have HD : Hid (endD (getT K n) n pid epoch commit = noneD (10)) := by show _ = _; rw [unhide XE]; unfold endD; simp [hn1, hn2, h0, h1]
    clear XE KB
    go_wp2_with fail
    refine (unhide KN _ _).mono ?_
    rintro e w3 ⟨rfl, b3⟩
    have HB3 : Hid (w3.heap[w.heap.size]? = some (.cells #[.int .i64 0, .int .i64 0, .int .i64 0, .int .u64 0, .int .i64 0, .slice none 0 0, .bool false] 25)) := below_keep b3 (heap_old _ (unhide HB))
    have BW3 : Hid (Below w.heap.size w w3) := ((unhide BW).alloc (unhide BW).size _).trans (b3.mono (by have := (unhide BW).size; simp; omega))
    clear b3 HB BW KN
    have HB := HB3
    have BW := BW3
    clear HB3 BW3
    have x0 : w3.cell? ⟨w.heap.size, 0, none⟩ = some (.int .i64 0) := cell_of (unhide HB) 0
    have fx0 : w3.frozen? ⟨w.heap.size, 0, none⟩ = false := frozen_of (unhide HB) 0
    have x1 : w3.cell? ⟨w.heap.size, 1, none⟩ = some (.int .i64 0) := cell_of (unhide HB) 1
    have fx1 : w3.frozen? ⟨w.heap.size, 1, none⟩ = false := frozen_of (unhide HB) 1
    have x2 : w3.cell? ⟨w.heap.size, 2, none⟩ = some (.int .i64 0) := cell_of (unhide HB) 2
    have fx2 : w3.frozen? ⟨w.heap.size, 2, none⟩ = false := frozen_of (unhide HB) 2
    have x3 : w3.cell? ⟨w.heap.size, 3, none⟩ = some (.int .u64 0) := cell_of (unhide HB) 3
    have fx3 : w3.frozen? ⟨w.heap.size, 3, none⟩ = false := frozen_of (unhide HB) 3
    have x4 : w3.cell? ⟨w.heap.size, 4, none⟩ = some (.int .i64 0) := cell_of (unhide HB) 4
    have fx4 : w3.frozen? ⟨w.heap.size, 4, none⟩ = false := frozen_of (unhide HB) 4
    have x5 : w3.cell? ⟨w.heap.size, 5, none⟩ = some (.slice none 0 0) := cell_of (unhide HB) 5
    have fx5 : w3.frozen? ⟨w.heap.size, 5, none⟩ = false := frozen_of (unhide HB) 5
    have x6 : w3.cell? ⟨w.heap.size, 6, none⟩ = some (.bool false) := cell_of (unhide HB) 6
    have fx6 : w3.frozen? ⟨w.heap.size, 6, none⟩ = false := frozen_of (unhide HB) 6
    go_wp2
    obtain ⟨z1, z2⟩ := set7 (unhide HB) rfl (.int .i64 0) (.int .i64 0) (.int .i64 0) (.int .u64 0) (.int .i64 0) (.slice none 0 0) (.bool false)
    have BT : Hid (Below w.heap.size w (((((((w3.setCell ⟨w.heap.size, 0, none⟩ (.int .i64 0)).setCell ⟨w.heap.size, 1, none⟩ (.int .i64 0)).setCell ⟨w.heap.size, 2, none⟩ (.int .i64 0)).setCell ⟨w.heap.size, 3, none⟩ (.int .u64 0)).setCell ⟨w.heap.size, 4, none⟩ (.int .i64 0)).setCell ⟨w.heap.size, 5, none⟩ (.slice none 0 0)).setCell ⟨w.heap.size, 6, none⟩ (.bool false))) := below_touch (unhide BW) z2 (unhide BW).size (fun k hk => by omega)
    have TT := hide z2
    clear z2 HB x0 fx0 x1 fx1 x2 fx2 x3 fx3 x4 fx4 x5 fx5 x6 fx6
    generalize (((((((w3.setCell ⟨w.heap.size, 0, none⟩ (.int .i64 0)).setCell ⟨w.heap.size, 1, none⟩ (.int .i64 0)).setCell ⟨w.heap.size, 2, none⟩ (.int .i64 0)).setCell ⟨w.heap.size, 3, none⟩ (.int .u64 0)).setCell ⟨w.heap.size, 4, none⟩ (.int .i64 0)).setCell ⟨w.heap.size, 5, none⟩ (.slice none 0 0)).setCell ⟨w.heap.size, 6, none⟩ (.bool false)) = WW at *
    have y0 : WW.cell? ⟨w.heap.size, 0, none⟩ = some (.int .i64 0) := cell_of z1 0
    have y1 : WW.cell? ⟨w.heap.size, 1, none⟩ = some (.int .i64 0) := cell_of z1 1
    have y2 : WW.cell? ⟨w.heap.size, 2, none⟩ = some (.int .i64 0) := cell_of z1 2
    have y3 : WW.cell? ⟨w.heap.size, 3, none⟩ = some (.int .u64 0) := cell_of z1 3
    have y4 : WW.cell? ⟨w.heap.size, 4, none⟩ = some (.int .i64 0) := cell_of z1 4
    have y5 : WW.cell? ⟨w.heap.size, 5, none⟩ = some (.slice none 0 0) := cell_of z1 5
    have y6 : WW.cell? ⟨w.heap.size, 6, none⟩ = some (.bool false) := cell_of z1 6
    refine bodyPost_ret (by simp [results, Try.results23, go_sem, y0, y1, y2, y3, y4, y5, y6]; try rfl) rfl ?_
    rw [unhide HD]
    exact ⟨none, 0, rfl, IL.nil _, New.nil _, unhide BT⟩
  obtain rfl := h1.symm
  clear h1
  by_cases h2 : epoch = la
  · obtain rfl := h2
    by_cases h3 : pid = lp
    · obtain rfl := h3
      clear HR
      have HD : Hid (endD (getT K n) n pid epoch commit = noneD (decE ⟨st, ix, pid, ep, ps, epoch, pid, co⟩ commit)) := by show _ = _; rw [unhide XE]; unfold endD; simp [hn1, hn2, h0]
      clear XE KB
      have KD : Hid (∀ W, Calls Try.prog 62 #[.agg #[.int .i64 st, .int .i64 ix, .int .u64 pid, .int .i64 ep, .slice sa n' c, .int .i64 epoch, .int .u64 pid, .bool co], .bool commit] W fun e w' => e = .returned (.int .i64 (decE ⟨st, ix, pid, ep, ps, epoch, pid, co⟩ commit)) ∧ Below W.heap.size W w') := fun W => decided_any' _ _ _ _ _ _ _ _ _ _ commit W rfl rfl
      generalize decE ⟨st, ix, pid, ep, ps, epoch, pid, co⟩ commit = de at *
      go_wp2_with fail
      refine (unhide KD _).mono ?_
      rintro e w4 ⟨rfl, b4⟩
      have HB4 : Hid (w4.heap[w.heap.size]? = some (.cells #[.int .i64 0, .int .i64 0, .int .i64 0, .int .u64 0, .int .i64 0, .slice none 0 0, .bool false] 25)) := below_keep b4 (heap_old _ (unhide HB))
      have BW4 : Hid (Below w.heap.size w w4) := ((unhide BW).alloc (unhide BW).size _).trans (b4.mono (by have := (unhide BW).size; simp; omega))
      clear b4 HB BW KD
      have HB := HB4
      have BW := BW4
      clear HB4 BW4
      go_wp2_with fail
      refine (unhide KN _ _).mono ?_
      rintro e w3 ⟨rfl, b3⟩
      have HB3 : Hid (w3.heap[w.heap.size]? = some (.cells #[.int .i64 0, .int .i64 0, .int .i64 0, .int .u64 0, .int .i64 0, .slice none 0 0, .bool false] 25)) := below_keep b3 (unhide HB)
      have BW3 : Hid (Below w.heap.size w w3) := (unhide BW).trans (b3.mono (unhide BW).size)
      clear b3 HB BW KN
      have HB := HB3
      have BW := BW3
      clear HB3 BW3
      have x0 : w3.cell? ⟨w.heap.size, 0, none⟩ = some (.int .i64 0) := cell_of (unhide HB) 0
      have fx0 : w3.frozen? ⟨w.heap.size, 0, none⟩ = false := frozen_of (unhide HB) 0
      have x1 : w3.cell? ⟨w.heap.size, 1, none⟩ = some (.int .i64 0) := cell_of (unhide HB) 1
      have fx1 : w3.frozen? ⟨w.heap.size, 1, none⟩ = false := frozen_of (unhide HB) 1
      have x2 : w3.cell? ⟨w.heap.size, 2, none⟩ = some (.int .i64 0) := cell_of (unhide HB) 2
      have fx2 : w3.frozen? ⟨w.heap.size, 2, none⟩ = false := frozen_of (unhide HB) 2
      have x3 : w3.cell? ⟨w.heap.size, 3, none⟩ = some (.int .u64 0) := cell_of (unhide HB) 3
      have fx3 : w3.frozen? ⟨w.heap.size, 3, none⟩ = false := frozen_of (unhide HB) 3
      have x4 : w3.cell? ⟨w.heap.size, 4, none⟩ = some (.int .i64 0) := cell_of (unhide HB) 4
      have fx4 : w3.frozen? ⟨w.heap.size, 4, none⟩ = false := frozen_of (unhide HB) 4
      have x5 : w3.cell? ⟨w.heap.size, 5, none⟩ = some (.slice none 0 0) := cell_of (unhide HB) 5
      have fx5 : w3.frozen? ⟨w.heap.size, 5, none⟩ = false := frozen_of (unhide HB) 5
      have x6 : w3.cell? ⟨w.heap.size, 6, none⟩ = some (.bool false) := cell_of (unhide HB) 6
      have fx6 : w3.frozen? ⟨w.heap.size, 6, none⟩ = false := frozen_of (unhide HB) 6
      go_wp2
      obtain ⟨z1, z2⟩ := set7 (unhide HB) rfl (.int .i64 0) (.int .i64 0) (.int .i64 0) (.int .u64 0) (.int .i64 0) (.slice none 0 0) (.bool false)
      have BT : Hid (Below w.heap.size w (((((((w3.setCell ⟨w.heap.size, 0, none⟩ (.int .i64 0)).setCell ⟨w.heap.size, 1, none⟩ (.int .i64 0)).setCell ⟨w.heap.size, 2, none⟩ (.int .i64 0)).setCell ⟨w.heap.size, 3, none⟩ (.int .u64 0)).setCell ⟨w.heap.size, 4, none⟩ (.int .i64 0)).setCell ⟨w.heap.size, 5, none⟩ (.slice none 0 0)).setCell ⟨w.heap.size, 6, none⟩ (.bool false))) := below_touch (unhide BW) z2 (unhide BW).size (fun k hk => by omega)
      have TT := hide z2
      clear z2 HB x0 fx0 x1 fx1 x2 fx2 x3 fx3 x4 fx4 x5 fx5 x6 fx6
      generalize (((((((w3.setCell ⟨w.heap.size, 0, none⟩ (.int .i64 0)).setCell ⟨w.heap.size, 1, none⟩ (.int .i64 0)).setCell ⟨w.heap.size, 2, none⟩ (.int .i64 0)).setCell ⟨w.heap.size, 3, none⟩ (.int .u64 0)).setCell ⟨w.heap.size, 4, none⟩ (.int .i64 0)).setCell ⟨w.heap.size, 5, none⟩ (.slice none 0 0)).setCell ⟨w.heap.size, 6, none⟩ (.bool false)) = WW at *
      have y0 : WW.cell? ⟨w.heap.size, 0, none⟩ = some (.int .i64 0) := cell_of z1 0
      have y1 : WW.cell? ⟨w.heap.size, 1, none⟩ = some (.int .i64 0) := cell_of z1 1
      have y2 : WW.cell? ⟨w.heap.size, 2, none⟩ = some (.int .i64 0) := cell_of z1 2
      have y3 : WW.cell? ⟨w.heap.size, 3, none⟩ = some (.int .u64 0) := cell_of z1 3
      have y4 : WW.cell? ⟨w.heap.size, 4, none⟩ = some (.int .i64 0) := cell_of z1 4
      have y5 : WW.cell? ⟨w.heap.size, 5, none⟩ = some (.slice none 0 0) := cell_of z1 5
      have y6 : WW.cell? ⟨w.heap.size, 6, none⟩ = some (.bool false) := cell_of z1 6
      refine bodyPost_ret (by simp [results, Try.results23, go_sem, y0, y1, y2, y3, y4, y5, y6]; try rfl) rfl ?_
      rw [unhide HD]
      exact ⟨none, 0, rfl, IL.nil _, New.nil _, unhide BT⟩
    · have h3b : (pid == lp) = false := by simpa using h3
      by_cases h4 : ep = epoch
      rotate_left
      · clear HR
        have h4b : (ep == epoch) = false := by simpa using h4
        have h4c : (ep != epoch) = true := by simpa using h4
        have HD : Hid (endD (getT K n) n pid epoch commit = noneD (10)) := by show _ = _; rw [unhide XE]; unfold endD; simp [hn1, hn2, h0, h4, h3]
        clear XE KB
        go_wp2_with fail
        refine (unhide KN _ _).mono ?_
        rintro e w3 ⟨rfl, b3⟩
        have HB3 : Hid (w3.heap[w.heap.size]? = some (.cells #[.int .i64 0, .int .i64 0, .int .i64 0, .int .u64 0, .int .i64 0, .slice none 0 0, .bool false] 25)) := below_keep b3 (heap_old _ (unhide HB))
        have BW3 : Hid (Below w.heap.size w w3) := ((unhide BW).alloc (unhide BW).size _).trans (b3.mono (by have := (unhide BW).size; simp; omega))
        clear b3 HB BW KN
        have HB := HB3
        have BW := BW3
        clear HB3 BW3
        have x0 : w3.cell? ⟨w.heap.size, 0, none⟩ = some (.int .i64 0) := cell_of (unhide HB) 0
        have fx0 : w3.frozen? ⟨w.heap.size, 0, none⟩ = false := frozen_of (unhide HB) 0
        have x1 : w3.cell? ⟨w.heap.size, 1, none⟩ = some (.int .i64 0) := cell_of (unhide HB) 1
        have fx1 : w3.frozen? ⟨w.heap.size, 1, none⟩ = false := frozen_of (unhide HB) 1
        have x2 : w3.cell? ⟨w.heap.size, 2, none⟩ = some (.int .i64 0) := cell_of (unhide HB) 2
        have fx2 : w3.frozen? ⟨w.heap.size, 2, none⟩ = false := frozen_of (unhide HB) 2
        have x3 : w3.cell? ⟨w.heap.size, 3, none⟩ = some (.int .u64 0) := cell_of (unhide HB) 3
        have fx3 : w3.frozen? ⟨w.heap.size, 3, none⟩ = false := frozen_of (unhide HB) 3
        have x4 : w3.cell? ⟨w.heap.size, 4, none⟩ = some (.int .i64 0) := cell_of (unhide HB) 4
        have fx4 : w3.frozen? ⟨w.heap.size, 4, none⟩ = false := frozen_of (unhide HB) 4
        have x5 : w3.cell? ⟨w.heap.size, 5, none⟩ = some (.slice none 0 0) := cell_of (unhide HB) 5
        have fx5 : w3.frozen? ⟨w.heap.size, 5, none⟩ = false := frozen_of (unhide HB) 5
        have x6 : w3.cell? ⟨w.heap.size, 6, none⟩ = some (.bool false) := cell_of (unhide HB) 6
        have fx6 : w3.frozen? ⟨w.heap.size, 6, none⟩ = false := frozen_of (unhide HB) 6
        go_wp2
        obtain ⟨z1, z2⟩ := set7 (unhide HB) rfl (.int .i64 0) (.int .i64 0) (.int .i64 0) (.int .u64 0) (.int .i64 0) (.slice none 0 0) (.bool false)
        have BT : Hid (Below w.heap.size w (((((((w3.setCell ⟨w.heap.size, 0, none⟩ (.int .i64 0)).setCell ⟨w.heap.size, 1, none⟩ (.int .i64 0)).setCell ⟨w.heap.size, 2, none⟩ (.int .i64 0)).setCell ⟨w.heap.size, 3, none⟩ (.int .u64 0)).setCell ⟨w.heap.size, 4, none⟩ (.int .i64 0)).setCell ⟨w.heap.size, 5, none⟩ (.slice none 0 0)).setCell ⟨w.heap.size, 6, none⟩ (.bool false))) := below_touch (unhide BW) z2 (unhide BW).size (fun k hk => by omega)
        have TT := hide z2
        clear z2 HB x0 fx0 x1 fx1 x2 fx2 x3 fx3 x4 fx4 x5 fx5 x6 fx6
        generalize (((((((w3.setCell ⟨w.heap.size, 0, none⟩ (.int .i64 0)).setCell ⟨w.heap.size, 1, none⟩ (.int .i64 0)).setCell ⟨w.heap.size, 2, none⟩ (.int .i64 0)).setCell ⟨w.heap.size, 3, none⟩ (.int .u64 0)).setCell ⟨w.heap.size, 4, none⟩ (.int .i64 0)).setCell ⟨w.heap.size, 5, none⟩ (.slice none 0 0)).setCell ⟨w.heap.size, 6, none⟩ (.bool false)) = WW at *
        have y0 : WW.cell? ⟨w.heap.size, 0, none⟩ = some (.int .i64 0) := cell_of z1 0
        have y1 : WW.cell? ⟨w.heap.size, 1, none⟩ = some (.int .i64 0) := cell_of z1 1
        have y2 : WW.cell? ⟨w.heap.size, 2, none⟩ = some (.int .i64 0) := cell_of z1 2
        have y3 : WW.cell? ⟨w.heap.size, 3, none⟩ = some (.int .u64 0) := cell_of z1 3
        have y4 : WW.cell? ⟨w.heap.size, 4, none⟩ = some (.int .i64 0) := cell_of z1 4
        have y5 : WW.cell? ⟨w.heap.size, 5, none⟩ = some (.slice none 0 0) := cell_of z1 5
        have y6 : WW.cell? ⟨w.heap.size, 6, none⟩ = some (.bool false) := cell_of z1 6
        refine bodyPost_ret (by simp [results, Try.results23, go_sem, y0, y1, y2, y3, y4, y5, y6]; try rfl) rfl ?_
        rw [unhide HD]
        exact ⟨none, 0, rfl, IL.nil _, New.nil _, unhide BT⟩
      obtain rfl := h4.symm
      clear h4
      by_cases h5 : st = 2
      rotate_left
      · clear HR
        have h5b : (st == 2) = false := by simpa using h5
        have h5c : (st != 2) = true := by simpa using h5
        have HD : Hid (endD (getT K n) n pid epoch commit = noneD (14)) := by show _ = _; rw [unhide XE]; unfold endD; simp [hn1, hn2, h0, h5, h3]
        clear XE KB
        go_wp2_with fail
        refine (unhide KN _ _).mono ?_
        rintro e w3 ⟨rfl, b3⟩
        have HB3 : Hid (w3.heap[w.heap.size]? = some (.cells #[.int .i64 0, .int .i64 0, .int .i64 0, .int .u64 0, .int .i64 0, .slice none 0 0, .bool false] 25)) := below_keep b3 (heap_old _ (unhide HB))
        have BW3 : Hid (Below w.heap.size w w3) := ((unhide BW).alloc (unhide BW).size _).trans (b3.mono (by have := (unhide BW).size; simp; omega))
        clear b3 HB BW KN
        have HB := HB3
        have BW := BW3
        clear HB3 BW3
        have x0 : w3.cell? ⟨w.heap.size, 0, none⟩ = some (.int .i64 0) := cell_of (unhide HB) 0
        have fx0 : w3.frozen? ⟨w.heap.size, 0, none⟩ = false := frozen_of (unhide HB) 0
        have x1 : w3.cell? ⟨w.heap.size, 1, none⟩ = some (.int .i64 0) := cell_of (unhide HB) 1
        have fx1 : w3.frozen? ⟨w.heap.size, 1, none⟩ = false := frozen_of (unhide HB) 1
        have x2 : w3.cell? ⟨w.heap.size, 2, none⟩ = some (.int .i64 0) := cell_of (unhide HB) 2
        have fx2 : w3.frozen? ⟨w.heap.size, 2, none⟩ = false := frozen_of (unhide HB) 2
        have x3 : w3.cell? ⟨w.heap.size, 3, none⟩ = some (.int .u64 0) := cell_of (unhide HB) 3
        have fx3 : w3.frozen? ⟨w.heap.size, 3, none⟩ = false := frozen_of (unhide HB) 3
        have x4 : w3.cell? ⟨w.heap.size, 4, none⟩ = some (.int .i64 0) := cell_of (unhide HB) 4
        have fx4 : w3.frozen? ⟨w.heap.size, 4, none⟩ = false := frozen_of (unhide HB) 4
        have x5 : w3.cell? ⟨w.heap.size, 5, none⟩ = some (.slice none 0 0) := cell_of (unhide HB) 5
        have fx5 : w3.frozen? ⟨w.heap.size, 5, none⟩ = false := frozen_of (unhide HB) 5
        have x6 : w3.cell? ⟨w.heap.size, 6, none⟩ = some (.bool false) := cell_of (unhide HB) 6
        have fx6 : w3.frozen? ⟨w.heap.size, 6, none⟩ = false := frozen_of (unhide HB) 6
        go_wp2
        obtain ⟨z1, z2⟩ := set7 (unhide HB) rfl (.int .i64 0) (.int .i64 0) (.int .i64 0) (.int .u64 0) (.int .i64 0) (.slice none 0 0) (.bool false)
        have BT : Hid (Below w.heap.size w (((((((w3.setCell ⟨w.heap.size, 0, none⟩ (.int .i64 0)).setCell ⟨w.heap.size, 1, none⟩ (.int .i64 0)).setCell ⟨w.heap.size, 2, none⟩ (.int .i64 0)).setCell ⟨w.heap.size, 3, none⟩ (.int .u64 0)).setCell ⟨w.heap.size, 4, none⟩ (.int .i64 0)).setCell ⟨w.heap.size, 5, none⟩ (.slice none 0 0)).setCell ⟨w.heap.size, 6, none⟩ (.bool false))) := below_touch (unhide BW) z2 (unhide BW).size (fun k hk => by omega)
        have TT := hide z2
        clear z2 HB x0 fx0 x1 fx1 x2 fx2 x3 fx3 x4 fx4 x5 fx5 x6 fx6
        generalize (((((((w3.setCell ⟨w.heap.size, 0, none⟩ (.int .i64 0)).setCell ⟨w.heap.size, 1, none⟩ (.int .i64 0)).setCell ⟨w.heap.size, 2, none⟩ (.int .i64 0)).setCell ⟨w.heap.size, 3, none⟩ (.int .u64 0)).setCell ⟨w.heap.size, 4, none⟩ (.int .i64 0)).setCell ⟨w.heap.size, 5, none⟩ (.slice none 0 0)).setCell ⟨w.heap.size, 6, none⟩ (.bool false)) = WW at *
        have y0 : WW.cell? ⟨w.heap.size, 0, none⟩ = some (.int .i64 0) := cell_of z1 0
        have y1 : WW.cell? ⟨w.heap.size, 1, none⟩ = some (.int .i64 0) := cell_of z1 1
        have y2 : WW.cell? ⟨w.heap.size, 2, none⟩ = some (.int .i64 0) := cell_of z1 2
        have y3 : WW.cell? ⟨w.heap.size, 3, none⟩ = some (.int .u64 0) := cell_of z1 3
        have y4 : WW.cell? ⟨w.heap.size, 4, none⟩ = some (.int .i64 0) := cell_of z1 4
        have y5 : WW.cell? ⟨w.heap.size, 5, none⟩ = some (.slice none 0 0) := cell_of z1 5
        have y6 : WW.cell? ⟨w.heap.size, 6, none⟩ = some (.bool false) := cell_of z1 6
        refine bodyPost_ret (by simp [results, Try.results23, go_sem, y0, y1, y2, y3, y4, y5, y6]; try rfl) rfl ?_
        rw [unhide HD]
        exact ⟨none, 0, rfl, IL.nil _, New.nil _, unhide BT⟩
      obtain rfl := h5
      clear h0 HR
      have HD : Hid (endD (getT K n) n pid epoch commit = ⟨⟨3, n, 0, 0, 0, [], commit⟩, true, 0⟩) := by show _ = _; rw [unhide XE]; unfold endD; simp [hn1, hn2, h3]
      clear XE KB KN
      go_upto_region 12 with fail
      have HB3 : Hid ((w1.alloc (.cells #[.int .i64 2, .int .i64 ix, .int .u64 pid, .int .i64 epoch, .slice sa n' c, .int .i64 epoch, .int .u64 lp, .bool co] 57)).heap[w.heap.size]? = some (.cells #[.int .i64 0, .int .i64 0, .int .i64 0, .int .u64 0, .int .i64 0, .slice none 0 0, .bool false] 25)) := heap_old _ (unhide HB)
      have BW3 : Hid (Below w.heap.size w (w1.alloc (.cells #[.int .i64 2, .int .i64 ix, .int .u64 pid, .int .i64 epoch, .slice sa n' c, .int .i64 epoch, .int .u64 lp, .bool co] 57))) := (unhide BW).alloc (unhide BW).size _
      generalize w1.alloc (.cells #[.int .i64 2, .int .i64 ix, .int .u64 pid, .int .i64 epoch, .slice sa n' c, .int .i64 epoch, .int .u64 lp, .bool co] 57) = w3 at *
      clear HB BW
      have HB := HB3
      have BW := BW3
      clear HB3 BW3
      have x0 : w3.cell? ⟨w.heap.size, 0, none⟩ = some (.int .i64 0) := cell_of (unhide HB) 0
      have fx0 : w3.frozen? ⟨w.heap.size, 0, none⟩ = false := frozen_of (unhide HB) 0
      have x1 : w3.cell? ⟨w.heap.size, 1, none⟩ = some (.int .i64 0) := cell_of (unhide HB) 1
      have fx1 : w3.frozen? ⟨w.heap.size, 1, none⟩ = false := frozen_of (unhide HB) 1
      have x2 : w3.cell? ⟨w.heap.size, 2, none⟩ = some (.int .i64 0) := cell_of (unhide HB) 2
      have fx2 : w3.frozen? ⟨w.heap.size, 2, none⟩ = false := frozen_of (unhide HB) 2
      have x3 : w3.cell? ⟨w.heap.size, 3, none⟩ = some (.int .u64 0) := cell_of (unhide HB) 3
      have fx3 : w3.frozen? ⟨w.heap.size, 3, none⟩ = false := frozen_of (unhide HB) 3
      have x4 : w3.cell? ⟨w.heap.size, 4, none⟩ = some (.int .i64 0) := cell_of (unhide HB) 4
      have fx4 : w3.frozen? ⟨w.heap.size, 4, none⟩ = false := frozen_of (unhide HB) 4
      have x5 : w3.cell? ⟨w.heap.size, 5, none⟩ = some (.slice none 0 0) := cell_of (unhide HB) 5
      have fx5 : w3.frozen? ⟨w.heap.size, 5, none⟩ = false := frozen_of (unhide HB) 5
      have x6 : w3.cell? ⟨w.heap.size, 6, none⟩ = some (.bool false) := cell_of (unhide HB) 6
      have fx6 : w3.frozen? ⟨w.heap.size, 6, none⟩ = false := frozen_of (unhide HB) 6
      go_wp2
      obtain ⟨z1, z2⟩ := set7 (unhide HB) rfl (.int .i64 3) (.int .i64 n) (.int .i64 0) (.int .u64 0) (.int .i64 0) (.slice none 0 0) (.bool commit)
      have BT : Hid (Below w.heap.size w (((((((w3.setCell ⟨w.heap.size, 0, none⟩ (.int .i64 3)).setCell ⟨w.heap.size, 1, none⟩ (.int .i64 n)).setCell ⟨w.heap.size, 2, none⟩ (.int .i64 0)).setCell ⟨w.heap.size, 3, none⟩ (.int .u64 0)).setCell ⟨w.heap.size, 4, none⟩ (.int .i64 0)).setCell ⟨w.heap.size, 5, none⟩ (.slice none 0 0)).setCell ⟨w.heap.size, 6, none⟩ (.bool commit))) := below_touch (unhide BW) z2 (unhide BW).size (fun k hk => by omega)
      have TT := hide z2
      clear z2 HB x0 fx0 x1 fx1 x2 fx2 x3 fx3 x4 fx4 x5 fx5 x6 fx6
      generalize (((((((w3.setCell ⟨w.heap.size, 0, none⟩ (.int .i64 3)).setCell ⟨w.heap.size, 1, none⟩ (.int .i64 n)).setCell ⟨w.heap.size, 2, none⟩ (.int .i64 0)).setCell ⟨w.heap.size, 3, none⟩ (.int .u64 0)).setCell ⟨w.heap.size, 4, none⟩ (.int .i64 0)).setCell ⟨w.heap.size, 5, none⟩ (.slice none 0 0)).setCell ⟨w.heap.size, 6, none⟩ (.bool commit)) = WW at *
      have y0 : WW.cell? ⟨w.heap.size, 0, none⟩ = some (.int .i64 3) := cell_of z1 0
      have y1 : WW.cell? ⟨w.heap.size, 1, none⟩ = some (.int .i64 n) := cell_of z1 1
      have y2 : WW.cell? ⟨w.heap.size, 2, none⟩ = some (.int .i64 0) := cell_of z1 2
      have y3 : WW.cell? ⟨w.heap.size, 3, none⟩ = some (.int .u64 0) := cell_of z1 3
      have y4 : WW.cell? ⟨w.heap.size, 4, none⟩ = some (.int .i64 0) := cell_of z1 4
      have y5 : WW.cell? ⟨w.heap.size, 5, none⟩ = some (.slice none 0 0) := cell_of z1 5
      have y6 : WW.cell? ⟨w.heap.size, 6, none⟩ = some (.bool commit) := cell_of z1 6
      refine bodyPost_ret (by simp [results, Try.results23, go_sem, y0, y1, y2, y3, y4, y5, y6]; try rfl) rfl ?_
      rw [unhide HD]
      exact ⟨none, 0, rfl, IL.nil _, New.nil _, unhide BT⟩
  · have h2b : (epoch == la) = false := by simpa using h2
    by_cases h4 : ep = epoch
    rotate_left
    · clear HR
      have h4b : (ep == epoch) = false := by simpa using h4
      have h4c : (ep != epoch) = true := by simpa using h4
      have HD : Hid (endD (getT K n) n pid epoch commit = noneD (10)) := by show _ = _; rw [unhide XE]; unfold endD; simp [hn1, hn2, h0, h4, h2]
      clear XE KB
      go_wp2_with fail
      refine (unhide KN _ _).mono ?_
      rintro e w3 ⟨rfl, b3⟩
      have HB3 : Hid (w3.heap[w.heap.size]? = some (.cells #[.int .i64 0, .int .i64 0, .int .i64 0, .int .u64 0, .int .i64 0, .slice none 0 0, .bool false] 25)) := below_keep b3 (heap_old _ (unhide HB))
      have BW3 : Hid (Below w.heap.size w w3) := ((unhide BW).alloc (unhide BW).size _).trans (b3.mono (by have := (unhide BW).size; simp; omega))
      clear b3 HB BW KN
      have HB := HB3
      have BW := BW3
      clear HB3 BW3
      have x0 : w3.cell? ⟨w.heap.size, 0, none⟩ = some (.int .i64 0) := cell_of (unhide HB) 0
      have fx0 : w3.frozen? ⟨w.heap.size, 0, none⟩ = false := frozen_of (unhide HB) 0
      have x1 : w3.cell? ⟨w.heap.size, 1, none⟩ = some (.int .i64 0) := cell_of (unhide HB) 1
      have fx1 : w3.frozen? ⟨w.heap.size, 1, none⟩ = false := frozen_of (unhide HB) 1
      have x2 : w3.cell? ⟨w.heap.size, 2, none⟩ = some (.int .i64 0) := cell_of (unhide HB) 2
      have fx2 : w3.frozen? ⟨w.heap.size, 2, none⟩ = false := frozen_of (unhide HB) 2
      have x3 : w3.cell? ⟨w.heap.size, 3, none⟩ = some (.int .u64 0) := cell_of (unhide HB) 3
      have fx3 : w3.frozen? ⟨w.heap.size, 3, none⟩ = false := frozen_of (unhide HB) 3
      have x4 : w3.cell? ⟨w.heap.size, 4, none⟩ = some (.int .i64 0) := cell_of (unhide HB) 4
      have fx4 : w3.frozen? ⟨w.heap.size, 4, none⟩ = false := frozen_of (unhide HB) 4
      have x5 : w3.cell? ⟨w.heap.size, 5, none⟩ = some (.slice none 0 0) := cell_of (unhide HB) 5
      have fx5 : w3.frozen? ⟨w.heap.size, 5, none⟩ = false := frozen_of (unhide HB) 5
      have x6 : w3.cell? ⟨w.heap.size, 6, none⟩ = some (.bool false) := cell_of (unhide HB) 6
      have fx6 : w3.frozen? ⟨w.heap.size, 6, none⟩ = false := frozen_of (unhide HB) 6
      go_wp2
      obtain ⟨z1, z2⟩ := set7 (unhide HB) rfl (.int .i64 0) (.int .i64 0) (.int .i64 0) (.int .u64 0) (.int .i64 0) (.slice none 0 0) (.bool false)
      have BT : Hid (Below w.heap.size w (((((((w3.setCell ⟨w.heap.size, 0, none⟩ (.int .i64 0)).setCell ⟨w.heap.size, 1, none⟩ (.int .i64 0)).setCell ⟨w.heap.size, 2, none⟩ (.int .i64 0)).setCell ⟨w.heap.size, 3, none⟩ (.int .u64 0)).setCell ⟨w.heap.size, 4, none⟩ (.int .i64 0)).setCell ⟨w.heap.size, 5, none⟩ (.slice none 0 0)).setCell ⟨w.heap.size, 6, none⟩ (.bool false))) := below_touch (unhide BW) z2 (unhide BW).size (fun k hk => by omega)
      have TT := hide z2
      clear z2 HB x0 fx0 x1 fx1 x2 fx2 x3 fx3 x4 fx4 x5 fx5 x6 fx6
      generalize (((((((w3.setCell ⟨w.heap.size, 0, none⟩ (.int .i64 0)).setCell ⟨w.heap.size, 1, none⟩ (.int .i64 0)).setCell ⟨w.heap.size, 2, none⟩ (.int .i64 0)).setCell ⟨w.heap.size, 3, none⟩ (.int .u64 0)).setCell ⟨w.heap.size, 4, none⟩ (.int .i64 0)).setCell ⟨w.heap.size, 5, none⟩ (.slice none 0 0)).setCell ⟨w.heap.size, 6, none⟩ (.bool false)) = WW at *
      have y0 : WW.cell? ⟨w.heap.size, 0, none⟩ = some (.int .i64 0) := cell_of z1 0
      have y1 : WW.cell? ⟨w.heap.size, 1, none⟩ = some (.int .i64 0) := cell_of z1 1
      have y2 : WW.cell? ⟨w.heap.size, 2, none⟩ = some (.int .i64 0) := cell_of z1 2
      have y3 : WW.cell? ⟨w.heap.size, 3, none⟩ = some (.int .u64 0) := cell_of z1 3
      have y4 : WW.cell? ⟨w.heap.size, 4, none⟩ = some (.int .i64 0) := cell_of z1 4
      have y5 : WW.cell? ⟨w.heap.size, 5, none⟩ = some (.slice none 0 0) := cell_of z1 5
      have y6 : WW.cell? ⟨w.heap.size, 6, none⟩ = some (.bool false) := cell_of z1 6
      refine bodyPost_ret (by simp [results, Try.results23, go_sem, y0, y1, y2, y3, y4, y5, y6]; try rfl) rfl ?_
      rw [unhide HD]
      exact ⟨none, 0, rfl, IL.nil _, New.nil _, unhide BT⟩
    obtain rfl := h4.symm
    clear h4
    by_cases h5 : st = 2
    rotate_left
    · clear HR
      have h5b : (st == 2) = false := by simpa using h5
      have h5c : (st != 2) = true := by simpa using h5
      have HD : Hid (endD (getT K n) n pid epoch commit = noneD (14)) := by show _ = _; rw [unhide XE]; unfold endD; simp [hn1, hn2, h0, h5, h2]
      clear XE KB
      go_wp2_with fail
      refine (unhide KN _ _).mono ?_
      rintro e w3 ⟨rfl, b3⟩
      have HB3 : Hid (w3.heap[w.heap.size]? = some (.cells #[.int .i64 0, .int .i64 0, .int .i64 0, .int .u64 0, .int .i64 0, .slice none 0 0, .bool false] 25)) := below_keep b3 (heap_old _ (unhide HB))
      have BW3 : Hid (Below w.heap.size w w3) := ((unhide BW).alloc (unhide BW).size _).trans (b3.mono (by have := (unhide BW).size; simp; omega))
      clear b3 HB BW KN
      have HB := HB3
      have BW := BW3
      clear HB3 BW3
      have x0 : w3.cell? ⟨w.heap.size, 0, none⟩ = some (.int .i64 0) := cell_of (unhide HB) 0
      have fx0 : w3.frozen? ⟨w.heap.size, 0, none⟩ = false := frozen_of (unhide HB) 0
      have x1 : w3.cell? ⟨w.heap.size, 1, none⟩ = some (.int .i64 0) := cell_of (unhide HB) 1
      have fx1 : w3.frozen? ⟨w.heap.size, 1, none⟩ = false := frozen_of (unhide HB) 1
      have x2 : w3.cell? ⟨w.heap.size, 2, none⟩ = some (.int .i64 0) := cell_of (unhide HB) 2
      have fx2 : w3.frozen? ⟨w.heap.size, 2, none⟩ = false := frozen_of (unhide HB) 2
      have x3 : w3.cell? ⟨w.heap.size, 3, none⟩ = some (.int .u64 0) := cell_of (unhide HB) 3
      have fx3 : w3.frozen? ⟨w.heap.size, 3, none⟩ = false := frozen_of (unhide HB) 3
      have x4 : w3.cell? ⟨w.heap.size, 4, none⟩ = some (.int .i64 0) := cell_of (unhide HB) 4
      have fx4 : w3.frozen? ⟨w.heap.size, 4, none⟩ = false := frozen_of (unhide HB) 4
      have x5 : w3.cell? ⟨w.heap.size, 5, none⟩ = some (.slice none 0 0) := cell_of (unhide HB) 5
      have fx5 : w3.frozen? ⟨w.heap.size, 5, none⟩ = false := frozen_of (unhide HB) 5
      have x6 : w3.cell? ⟨w.heap.size, 6, none⟩ = some (.bool false) := cell_of (unhide HB) 6
      have fx6 : w3.frozen? ⟨w.heap.size, 6, none⟩ = false := frozen_of (unhide HB) 6
      go_wp2
      obtain ⟨z1, z2⟩ := set7 (unhide HB) rfl (.int .i64 0) (.int .i64 0) (.int .i64 0) (.int .u64 0) (.int .i64 0) (.slice none 0 0) (.bool false)
      have BT : Hid (Below w.heap.size w (((((((w3.setCell ⟨w.heap.size, 0, none⟩ (.int .i64 0)).setCell ⟨w.heap.size, 1, none⟩ (.int .i64 0)).setCell ⟨w.heap.size, 2, none⟩ (.int .i64 0)).setCell ⟨w.heap.size, 3, none⟩ (.int .u64 0)).setCell ⟨w.heap.size, 4, none⟩ (.int .i64 0)).setCell ⟨w.heap.size, 5, none⟩ (.slice none 0 0)).setCell ⟨w.heap.size, 6, none⟩ (.bool false))) := below_touch (unhide BW) z2 (unhide BW).size (fun k hk => by omega)
      have TT := hide z2
      clear z2 HB x0 fx0 x1 fx1 x2 fx2 x3 fx3 x4 fx4 x5 fx5 x6 fx6
      generalize (((((((w3.setCell ⟨w.heap.size, 0, none⟩ (.int .i64 0)).setCell ⟨w.heap.size, 1, none⟩ (.int .i64 0)).setCell ⟨w.heap.size, 2, none⟩ (.int .i64 0)).setCell ⟨w.heap.size, 3, none⟩ (.int .u64 0)).setCell ⟨w.heap.size, 4, none⟩ (.int .i64 0)).setCell ⟨w.heap.size, 5, none⟩ (.slice none 0 0)).setCell ⟨w.heap.size, 6, none⟩ (.bool false)) = WW at *
      have y0 : WW.cell? ⟨w.heap.size, 0, none⟩ = some (.int .i64 0) := cell_of z1 0
      have y1 : WW.cell? ⟨w.heap.size, 1, none⟩ = some (.int .i64 0) := cell_of z1 1
      have y2 : WW.cell? ⟨w.heap.size, 2, none⟩ = some (.int .i64 0) := cell_of z1 2
      have y3 : WW.cell? ⟨w.heap.size, 3, none⟩ = some (.int .u64 0) := cell_of z1 3
      have y4 : WW.cell? ⟨w.heap.size, 4, none⟩ = some (.int .i64 0) := cell_of z1 4
      have y5 : WW.cell? ⟨w.heap.size, 5, none⟩ = some (.slice none 0 0) := cell_of z1 5
      have y6 : WW.cell? ⟨w.heap.size, 6, none⟩ = some (.bool false) := cell_of z1 6
      refine bodyPost_ret (by simp [results, Try.results23, go_sem, y0, y1, y2, y3, y4, y5, y6]; try rfl) rfl ?_
      rw [unhide HD]
      exact ⟨none, 0, rfl, IL.nil _, New.nil _, unhide BT⟩
    obtain rfl := h5
    clear h0 HR
    have HD : Hid (endD (getT K n) n pid epoch commit = ⟨⟨3, n, 0, 0, 0, [], commit⟩, true, 0⟩) := by show _ = _; rw [unhide XE]; unfold endD; simp [hn1, hn2, h2]
    clear XE KB KN
    go_upto_region 12 with fail
    have HB3 : Hid ((w1.alloc (.cells #[.int .i64 2, .int .i64 ix, .int .u64 pid, .int .i64 epoch, .slice sa n' c, .int .i64 la, .int .u64 lp, .bool co] 57)).heap[w.heap.size]? = some (.cells #[.int .i64 0, .int .i64 0, .int .i64 0, .int .u64 0, .int .i64 0, .slice none 0 0, .bool false] 25)) := heap_old _ (unhide HB)
    have BW3 : Hid (Below w.heap.size w (w1.alloc (.cells #[.int .i64 2, .int .i64 ix, .int .u64 pid, .int .i64 epoch, .slice sa n' c, .int .i64 la, .int .u64 lp, .bool co] 57))) := (unhide BW).alloc (unhide BW).size _
    generalize w1.alloc (.cells #[.int .i64 2, .int .i64 ix, .int .u64 pid, .int .i64 epoch, .slice sa n' c, .int .i64 la, .int .u64 lp, .bool co] 57) = w3 at *
    clear HB BW
    have HB := HB3
    have BW := BW3
    clear HB3 BW3
    have x0 : w3.cell? ⟨w.heap.size, 0, none⟩ = some (.int .i64 0) := cell_of (unhide HB) 0
    have fx0 : w3.frozen? ⟨w.heap.size, 0, none⟩ = false := frozen_of (unhide HB) 0
    have x1 : w3.cell? ⟨w.heap.size, 1, none⟩ = some (.int .i64 0) := cell_of (unhide HB) 1
    have fx1 : w3.frozen? ⟨w.heap.size, 1, none⟩ = false := frozen_of (unhide HB) 1
    have x2 : w3.cell? ⟨w.heap.size, 2, none⟩ = some (.int .i64 0) := cell_of (unhide HB) 2
    have fx2 : w3.frozen? ⟨w.heap.size, 2, none⟩ = false := frozen_of (unhide HB) 2
    have x3 : w3.cell? ⟨w.heap.size, 3, none⟩ = some (.int .u64 0) := cell_of (unhide HB) 3
    have fx3 : w3.frozen? ⟨w.heap.size, 3, none⟩ = false := frozen_of (unhide HB) 3
    have x4 : w3.cell? ⟨w.heap.size, 4, none⟩ = some (.int .i64 0) := cell_of (unhide HB) 4
    have fx4 : w3.frozen? ⟨w.heap.size, 4, none⟩ = false := frozen_of (unhide HB) 4
    have x5 : w3.cell? ⟨w.heap.size, 5, none⟩ = some (.slice none 0 0) := cell_of (unhide HB) 5
    have fx5 : w3.frozen? ⟨w.heap.size, 5, none⟩ = false := frozen_of (unhide HB) 5
    have x6 : w3.cell? ⟨w.heap.size, 6, none⟩ = some (.bool false) := cell_of (unhide HB) 6
    have fx6 : w3.frozen? ⟨w.heap.size, 6, none⟩ = false := frozen_of (unhide HB) 6
    go_wp2
    obtain ⟨z1, z2⟩ := set7 (unhide HB) rfl (.int .i64 3) (.int .i64 n) (.int .i64 0) (.int .u64 0) (.int .i64 0) (.slice none 0 0) (.bool commit)
    have BT : Hid (Below w.heap.size w (((((((w3.setCell ⟨w.heap.size, 0, none⟩ (.int .i64 3)).setCell ⟨w.heap.size, 1, none⟩ (.int .i64 n)).setCell ⟨w.heap.size, 2, none⟩ (.int .i64 0)).setCell ⟨w.heap.size, 3, none⟩ (.int .u64 0)).setCell ⟨w.heap.size, 4, none⟩ (.int .i64 0)).setCell ⟨w.heap.size, 5, none⟩ (.slice none 0 0)).setCell ⟨w.heap.size, 6, none⟩ (.bool commit))) := below_touch (unhide BW) z2 (unhide BW).size (fun k hk => by omega)
    have TT := hide z2
    clear z2 HB x0 fx0 x1 fx1 x2 fx2 x3 fx3 x4 fx4 x5 fx5 x6 fx6
    generalize (((((((w3.setCell ⟨w.heap.size, 0, none⟩ (.int .i64 3)).setCell ⟨w.heap.size, 1, none⟩ (.int .i64 n)).setCell ⟨w.heap.size, 2, none⟩ (.int .i64 0)).setCell ⟨w.heap.size, 3, none⟩ (.int .u64 0)).setCell ⟨w.heap.size, 4, none⟩ (.int .i64 0)).setCell ⟨w.heap.size, 5, none⟩ (.slice none 0 0)).setCell ⟨w.heap.size, 6, none⟩ (.bool commit)) = WW at *
    have y0 : WW.cell? ⟨w.heap.size, 0, none⟩ = some (.int .i64 3) := cell_of z1 0
    have y1 : WW.cell? ⟨w.heap.size, 1, none⟩ = some (.int .i64 n) := cell_of z1 1
    have y2 : WW.cell? ⟨w.heap.size, 2, none⟩ = some (.int .i64 0) := cell_of z1 2
    have y3 : WW.cell? ⟨w.heap.size, 3, none⟩ = some (.int .u64 0) := cell_of z1 3
    have y4 : WW.cell? ⟨w.heap.size, 4, none⟩ = some (.int .i64 0) := cell_of z1 4
    have y5 : WW.cell? ⟨w.heap.size, 5, none⟩ = some (.slice none 0 0) := cell_of z1 5
    have y6 : WW.cell? ⟨w.heap.size, 6, none⟩ = some (.bool commit) := cell_of z1 6
    refine bodyPost_ret (by simp [results, Try.results23, go_sem, y0, y1, y2, y3, y4, y5, y6]; try rfl) rfl ?_
    rw [unhide HD]
    exact ⟨none, 0, rfl, IL.nil _, New.nil _, unhide BT⟩
end Go.Proofs.Ytijfjhafjblefaa
