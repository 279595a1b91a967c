/-
  txn's begin, decided, named, Tx, Init, Add and End, of any state. Conditions: names, epochs and partitions are ints.
-/
import Derived.Test.YtbgccnnomgeniaaTx1
namespace Go.Proofs.Ytbgccnnomgeniaa
open Go.RowKit Go.Maps
set_option linter.unusedVariables false

theorem below_keepL {n : Nat} {w w' : World} (h : Below n w w') {k : Nat} {o : Obj} (hk : w.heap[k]? = some o) (hn : k < n) : w'.heap[k]? = some o := by rw [h.block k hn]; exact hk
set_option maxRecDepth 100000 in
set_option maxHeartbeats 1000000 in
theorem begin_any (n inc pid : Int) (w : World) : Calls Try.prog 45 #[.int .i64 n, .int .i64 inc, .int .u64 pid] w fun e w' => DnP w (beginD n inc pid) e w' := by
  have b0 : Below w.heap.size w (w.alloc (.cells #[.int .i64 0, .int .i64 0, .int .i64 0, .int .u64 0, .int .i64 0, .slice none 0 0, .bool false] 25)) := (Below.refl _ _).alloc (Nat.le_refl _) _
  have h0 := heap_new w (.cells #[.int .i64 0, .int .i64 0, .int .i64 0, .int .u64 0, .int .i64 0, .slice none 0 0, .bool false] 25)
  by_cases hp : pid = 0
  · subst hp
    have KN := hide (tnone_any 16 (w.alloc (.cells #[.int .i64 0, .int .i64 0, .int .i64 0, .int .u64 0, .int .i64 0, .slice none 0 0, .bool false] 25)))
    have B0 := hide b0
    have H0 := hide h0
    clear b0 h0
    go_enter Try.func45, Try.ntmps45
    go_wp2_with fail
    refine (unhide KN).mono ?_
    rintro e w1 ⟨rfl, b1⟩
    have HB : Hid (w1.heap[w.heap.size]? = some (.cells #[.int .i64 0, .int .i64 0, .int .i64 0, .int .u64 0, .int .i64 0, .slice none 0 0, .bool false] 25)) := below_keep b1 (unhide H0)
    have BW : Hid (Below w.heap.size w w1) := (unhide B0).trans (b1.mono (by simp))
    clear b1 KN B0 H0
    have x0 : w1.cell? ⟨w.heap.size, 0, none⟩ = some (.int .i64 0) := cell_of (unhide HB) 0
    have fx0 : w1.frozen? ⟨w.heap.size, 0, none⟩ = false := frozen_of (unhide HB) 0
    have x1 : w1.cell? ⟨w.heap.size, 1, none⟩ = some (.int .i64 0) := cell_of (unhide HB) 1
    have fx1 : w1.frozen? ⟨w.heap.size, 1, none⟩ = false := frozen_of (unhide HB) 1
    have x2 : w1.cell? ⟨w.heap.size, 2, none⟩ = some (.int .i64 0) := cell_of (unhide HB) 2
    have fx2 : w1.frozen? ⟨w.heap.size, 2, none⟩ = false := frozen_of (unhide HB) 2
    have x3 : w1.cell? ⟨w.heap.size, 3, none⟩ = some (.int .u64 0) := cell_of (unhide HB) 3
    have fx3 : w1.frozen? ⟨w.heap.size, 3, none⟩ = false := frozen_of (unhide HB) 3
    have x4 : w1.cell? ⟨w.heap.size, 4, none⟩ = some (.int .i64 0) := cell_of (unhide HB) 4
    have fx4 : w1.frozen? ⟨w.heap.size, 4, none⟩ = false := frozen_of (unhide HB) 4
    have x5 : w1.cell? ⟨w.heap.size, 5, none⟩ = some (.slice none 0 0) := cell_of (unhide HB) 5
    have fx5 : w1.frozen? ⟨w.heap.size, 5, none⟩ = false := frozen_of (unhide HB) 5
    have x6 : w1.cell? ⟨w.heap.size, 6, none⟩ = some (.bool false) := cell_of (unhide HB) 6
    have fx6 : w1.frozen? ⟨w.heap.size, 6, none⟩ = false := frozen_of (unhide HB) 6
    go_wp2
    obtain ⟨z1, z2⟩ := set7 (unhide HB) rfl (.int .i64 0) (.int .i64 0) (.int .i64 0) (.int .u64 0) (.int .i64 0) (.slice none 0 0) (.bool false)
    have BT : Hid (Below w.heap.size w (((((((w1.setCell ⟨w.heap.size, 0, none⟩ (.int .i64 0)).setCell ⟨w.heap.size, 1, none⟩ (.int .i64 0)).setCell ⟨w.heap.size, 2, none⟩ (.int .i64 0)).setCell ⟨w.heap.size, 3, none⟩ (.int .u64 0)).setCell ⟨w.heap.size, 4, none⟩ (.int .i64 0)).setCell ⟨w.heap.size, 5, none⟩ (.slice none 0 0)).setCell ⟨w.heap.size, 6, none⟩ (.bool false))) := below_touch (unhide BW) z2 (unhide BW).size (fun k hk => by omega)
    have TT := hide z2
    clear z2 HB x0 fx0 x1 fx1 x2 fx2 x3 fx3 x4 fx4 x5 fx5 x6 fx6
    generalize (((((((w1.setCell ⟨w.heap.size, 0, none⟩ (.int .i64 0)).setCell ⟨w.heap.size, 1, none⟩ (.int .i64 0)).setCell ⟨w.heap.size, 2, none⟩ (.int .i64 0)).setCell ⟨w.heap.size, 3, none⟩ (.int .u64 0)).setCell ⟨w.heap.size, 4, none⟩ (.int .i64 0)).setCell ⟨w.heap.size, 5, none⟩ (.slice none 0 0)).setCell ⟨w.heap.size, 6, none⟩ (.bool false)) = WW at *
    have y0 : WW.cell? ⟨w.heap.size, 0, none⟩ = some (.int .i64 0) := cell_of z1 0
    have y1 : WW.cell? ⟨w.heap.size, 1, none⟩ = some (.int .i64 0) := cell_of z1 1
    have y2 : WW.cell? ⟨w.heap.size, 2, none⟩ = some (.int .i64 0) := cell_of z1 2
    have y3 : WW.cell? ⟨w.heap.size, 3, none⟩ = some (.int .u64 0) := cell_of z1 3
    have y4 : WW.cell? ⟨w.heap.size, 4, none⟩ = some (.int .i64 0) := cell_of z1 4
    have y5 : WW.cell? ⟨w.heap.size, 5, none⟩ = some (.slice none 0 0) := cell_of z1 5
    have y6 : WW.cell? ⟨w.heap.size, 6, none⟩ = some (.bool false) := cell_of z1 6
    refine bodyPost_ret (by simp [results, Try.results45, go_sem, y0, y1, y2, y3, y4, y5, y6]; try rfl) rfl ?_
    exact ⟨none, 0, rfl, IL.nil _, New.nil _, unhide BT⟩
  · have hd : beginD n inc pid = ⟨⟨1, n, inc, pid, 0, [], false⟩, true, 0⟩ := if_neg hp
    have hp2 : (pid == 0) = false := by simpa using hp
    have F : Hid (DnP w (beginD n inc pid) (.returned (.tuple #[.agg #[.int .i64 1, .int .i64 n, .int .i64 inc, .int .u64 pid, .int .i64 0, .slice none 0 0, .bool false], .bool true, .int .i64 0])) (w.alloc (.cells #[.int .i64 1, .int .i64 n, .int .i64 inc, .int .u64 pid, .int .i64 0, .slice none 0 0, .bool false] 25))) := by rw [hd]; exact ⟨none, 0, rfl, IL.nil _, New.nil _, (Below.refl _ _).alloc (Nat.le_refl _) _⟩
    clear hd b0 h0
    go_enter Try.func45, Try.ntmps45
    go_wp2
    have hb := heap_new w (.cells #[.int .i64 1, .int .i64 n, .int .i64 inc, .int .u64 pid, .int .i64 0, .slice none 0 0, .bool false] 25)
    generalize w.alloc (.cells #[.int .i64 1, .int .i64 n, .int .i64 inc, .int .u64 pid, .int .i64 0, .slice none 0 0, .bool false] 25) = W at *
    have y0 : W.cell? ⟨w.heap.size, 0, none⟩ = some (.int .i64 1) := cell_of hb 0
    have y1 : W.cell? ⟨w.heap.size, 1, none⟩ = some (.int .i64 n) := cell_of hb 1
    have y2 : W.cell? ⟨w.heap.size, 2, none⟩ = some (.int .i64 inc) := cell_of hb 2
    have y3 : W.cell? ⟨w.heap.size, 3, none⟩ = some (.int .u64 pid) := cell_of hb 3
    have y4 : W.cell? ⟨w.heap.size, 4, none⟩ = some (.int .i64 0) := cell_of hb 4
    have y5 : W.cell? ⟨w.heap.size, 5, none⟩ = some (.slice none 0 0) := cell_of hb 5
    have y6 : W.cell? ⟨w.heap.size, 6, none⟩ = some (.bool false) := cell_of hb 6
    refine bodyPost_ret (by simp [results, Try.results45, go_sem, y0, y1, y2, y3, y4, y5, y6]; try rfl) rfl ?_
    exact unhide F
theorem set8 {u : World} {g : Nat} {cs : Array Value} {t : TypeId} (h : u.heap[g]? = some (.cells cs t)) (hs : cs.size = 8) (v0 v1 v2 v3 v4 v5 v6 v7 : Value) :
    ((((((((u.setCell ⟨g, 0, none⟩ v0).setCell ⟨g, 1, none⟩ v1).setCell ⟨g, 2, none⟩ v2).setCell ⟨g, 3, none⟩ v3).setCell ⟨g, 4, none⟩ v4).setCell ⟨g, 5, none⟩ v5).setCell ⟨g, 6, none⟩ v6).setCell ⟨g, 7, none⟩ v7).heap[g]? = some (.cells #[v0, v1, v2, v3, v4, v5, v6, v7] t) ∧ Touch (· = g) u ((((((((u.setCell ⟨g, 0, none⟩ v0).setCell ⟨g, 1, none⟩ v1).setCell ⟨g, 2, none⟩ v2).setCell ⟨g, 3, none⟩ v3).setCell ⟨g, 4, none⟩ v4).setCell ⟨g, 5, none⟩ v5).setCell ⟨g, 6, none⟩ v6).setCell ⟨g, 7, none⟩ v7) := by
  match cs, hs with
  | ⟨[c0, c1, c2, c3, c4, c5, c6, c7]⟩, _ =>
    have e0 := set1 h 0 v0 (cs' := #[v0, c1, c2, c3, c4, c5, c6, c7]) rfl
    have e1 := set1 e0 1 v1 (cs' := #[v0, v1, c2, c3, c4, c5, c6, c7]) rfl
    have e2 := set1 e1 2 v2 (cs' := #[v0, v1, v2, c3, c4, c5, c6, c7]) rfl
    have e3 := set1 e2 3 v3 (cs' := #[v0, v1, v2, v3, c4, c5, c6, c7]) rfl
    have e4 := set1 e3 4 v4 (cs' := #[v0, v1, v2, v3, v4, c5, c6, c7]) rfl
    have e5 := set1 e4 5 v5 (cs' := #[v0, v1, v2, v3, v4, v5, c6, c7]) rfl
    have e6 := set1 e5 6 v6 (cs' := #[v0, v1, v2, v3, v4, v5, v6, c7]) rfl
    have e7 := set1 e6 7 v7 (cs' := #[v0, v1, v2, v3, v4, v5, v6, v7]) rfl
    refine ⟨e7, ?_⟩
    have t0 := touch_set u g 0 v0
    have t1 := t0.trans (touch_set _ g 1 v1)
    have t2 := t1.trans (touch_set _ g 2 v2)
    have t3 := t2.trans (touch_set _ g 3 v3)
    have t4 := t3.trans (touch_set _ g 4 v4)
    have t5 := t4.trans (touch_set _ g 5 v5)
    have t6 := t5.trans (touch_set _ g 6 v6)
    have t7 := t6.trans (touch_set _ g 7 v7)
    exact t7
def decE (x : Tx) (commit : Bool) : Int := if commit ≠ x.co then 14 else if x.st = 3 then 16 else 0
def NmP (w : World) (er : Int) (e : Ending) (w' : World) : Prop := e = .returned (.tuple #[.agg #[.int .i64 0, .int .i64 0, .int .u64 0, .int .i64 0, .slice none 0 0, .int .i64 0, .int .u64 0, .bool false], .int .i64 er]) ∧ Below w.heap.size w w'
set_option maxRecDepth 100000 in
theorem named_nil (n : Int) (w : World) : Calls Try.prog 43 #[.pointer none, .int .i64 n] w fun e w' => NmP w 5 e w' := by
  have F : Hid (NmP w 5 (.returned (.tuple #[.agg #[.int .i64 0, .int .i64 0, .int .u64 0, .int .i64 0, .slice none 0 0, .int .i64 0, .int .u64 0, .bool false], .int .i64 5])) (w.alloc (.cells #[.int .i64 0, .int .i64 0, .int .u64 0, .int .i64 0, .slice none 0 0, .int .i64 0, .int .u64 0, .bool false] 76))) := ⟨rfl, (Below.refl _ _).alloc (Nat.le_refl _) _⟩
  have hb := heap_new w (.cells #[.int .i64 0, .int .i64 0, .int .u64 0, .int .i64 0, .slice none 0 0, .int .i64 0, .int .u64 0, .bool false] 76)
  go_enter Try.func43, Try.ntmps43
  go_wp2
  generalize w.alloc (.cells #[.int .i64 0, .int .i64 0, .int .u64 0, .int .i64 0, .slice none 0 0, .int .i64 0, .int .u64 0, .bool false] 76) = W at *
  have y0 : W.cell? ⟨w.heap.size, 0, none⟩ = some (.int .i64 0) := cell_of hb 0
  have y1 : W.cell? ⟨w.heap.size, 1, none⟩ = some (.int .i64 0) := cell_of hb 1
  have y2 : W.cell? ⟨w.heap.size, 2, none⟩ = some (.int .u64 0) := cell_of hb 2
  have y3 : W.cell? ⟨w.heap.size, 3, none⟩ = some (.int .i64 0) := cell_of hb 3
  have y4 : W.cell? ⟨w.heap.size, 4, none⟩ = some (.slice none 0 0) := cell_of hb 4
  have y5 : W.cell? ⟨w.heap.size, 5, none⟩ = some (.int .i64 0) := cell_of hb 5
  have y6 : W.cell? ⟨w.heap.size, 6, none⟩ = some (.int .u64 0) := cell_of hb 6
  have y7 : W.cell? ⟨w.heap.size, 7, none⟩ = some (.bool false) := cell_of hb 7
  refine bodyPost_ret (by simp [results, Try.results43, go_sem, y0, y1, y2, y3, y4, y5, y6, y7]; try rfl) rfl ?_
  exact unhide F
set_option maxRecDepth 100000 in
theorem named_bad (sb : Nat) (n : Int) (w : World) (hn : ¬ (0 ≤ n ∧ n < 8)) : Calls Try.prog 43 #[.pointer (some ⟨sb, 0, none⟩), .int .i64 n] w fun e w' => NmP w 1 e w' := by
  have F : Hid (NmP w 1 (.returned (.tuple #[.agg #[.int .i64 0, .int .i64 0, .int .u64 0, .int .i64 0, .slice none 0 0, .int .i64 0, .int .u64 0, .bool false], .int .i64 1])) (w.alloc (.cells #[.int .i64 0, .int .i64 0, .int .u64 0, .int .i64 0, .slice none 0 0, .int .i64 0, .int .u64 0, .bool false] 76))) := ⟨rfl, (Below.refl _ _).alloc (Nat.le_refl _) _⟩
  have hb := heap_new w (.cells #[.int .i64 0, .int .i64 0, .int .u64 0, .int .i64 0, .slice none 0 0, .int .i64 0, .int .u64 0, .bool false] 76)
  have KI := isName_any n (w.alloc (.cells #[.int .i64 0, .int .i64 0, .int .u64 0, .int .i64 0, .slice none 0 0, .int .i64 0, .int .u64 0, .bool false] 76))
  rw [decide_eq_false hn] at KI
  have K := hide KI
  clear KI hn
  go_enter Try.func43, Try.ntmps43
  go_wp2_with (go_at_call 50; refine (unhide K).mono ?_; rintro e w1 ⟨rfl, rfl⟩)
  generalize w.alloc (.cells #[.int .i64 0, .int .i64 0, .int .u64 0, .int .i64 0, .slice none 0 0, .int .i64 0, .int .u64 0, .bool false] 76) = W at *
  have y0 : W.cell? ⟨w.heap.size, 0, none⟩ = some (.int .i64 0) := cell_of hb 0
  have y1 : W.cell? ⟨w.heap.size, 1, none⟩ = some (.int .i64 0) := cell_of hb 1
  have y2 : W.cell? ⟨w.heap.size, 2, none⟩ = some (.int .u64 0) := cell_of hb 2
  have y3 : W.cell? ⟨w.heap.size, 3, none⟩ = some (.int .i64 0) := cell_of hb 3
  have y4 : W.cell? ⟨w.heap.size, 4, none⟩ = some (.slice none 0 0) := cell_of hb 4
  have y5 : W.cell? ⟨w.heap.size, 5, none⟩ = some (.int .i64 0) := cell_of hb 5
  have y6 : W.cell? ⟨w.heap.size, 6, none⟩ = some (.int .u64 0) := cell_of hb 6
  have y7 : W.cell? ⟨w.heap.size, 7, none⟩ = some (.bool false) := cell_of hb 7
  refine bodyPost_ret (by simp [results, Try.results43, go_sem, y0, y1, y2, y3, y4, y5, y6, y7]; try rfl) rfl ?_
  exact unhide F
def NamP (w : World) (K : Int → Option Tx) (n : Int) (R : Nat → Prop) (e : Ending) (w' : World) : Prop := ∃ q, e = .returned (.tuple #[tdV q, .int .i64 0]) ∧ TFit w' q (getT K n) ∧ (∀ k, (tdS q).ownBlock = some k → R k) ∧ Below w.heap.size w w'
set_option maxRecDepth 100000 in
set_option maxHeartbeats 1000000 in
theorem named_ok {w : World} {sb : Nat} {mv : Value} {m : List (Int × Td)} {K : Int → Option Tx} {R : Nat → Prop} {n : Int} (h : TS w sb mv m K R) (hn : 0 ≤ n ∧ n < 8) :
    Calls Try.prog 43 #[.pointer (some ⟨sb, 0, none⟩), .int .i64 n] w fun e w' => NamP w K n R e w' := by
  have b0 : Below w.heap.size w (w.alloc (.cells #[.int .i64 0, .int .i64 0, .int .u64 0, .int .i64 0, .slice none 0 0, .int .i64 0, .int .u64 0, .bool false] 76)) := (Below.refl _ _).alloc (Nat.le_refl _) _
  have KI := isName_any n (w.alloc (.cells #[.int .i64 0, .int .i64 0, .int .u64 0, .int .i64 0, .slice none 0 0, .int .i64 0, .int .u64 0, .bool false] 76))
  rw [decide_eq_true hn] at KI
  have KN := hide KI
  have KA := hide (at_any (h.later b0) (n := n) ⟨by omega, by omega⟩)
  have B0 := hide b0
  have H0 := hide (heap_new w (.cells #[.int .i64 0, .int .i64 0, .int .u64 0, .int .i64 0, .slice none 0 0, .int .i64 0, .int .u64 0, .bool false] 76))
  have hR := hide h.inR
  clear h KI hn b0
  go_enter Try.func43, Try.ntmps43
  go_wp2_with (go_at_call 50; refine (unhide KN).mono ?_; rintro e w0 ⟨rfl, rfl⟩)
  refine (unhide KA).mono ?_
  rintro e w1 ⟨q, rfl, f1, f2, b1⟩
  have HB : Hid (w1.heap[w.heap.size]? = some (.cells #[.int .i64 0, .int .i64 0, .int .u64 0, .int .i64 0, .slice none 0 0, .int .i64 0, .int .u64 0, .bool false] 76)) := below_keep b1 (unhide H0)
  have BW : Hid (Below w.heap.size w w1) := (unhide B0).trans (b1.mono (by simp))
  have F1 := hide f1
  have F2 := hide f2
  have FF : Hid (∀ W, Touch (· = w.heap.size) w1 W → Below w.heap.size w W → NamP w K n R (.returned (.tuple #[tdV q, .int .i64 0])) W) := fun W t b => ⟨q, rfl, (unhide F1).keep t (fun k hk e => by have := unhide hR k (unhide F2 k hk); omega), unhide F2, b⟩
  clear b1 KN KA B0 H0 f1 f2 hR F1 F2
  have x0 : w1.cell? ⟨w.heap.size, 0, none⟩ = some (.int .i64 0) := cell_of (unhide HB) 0
  have fx0 : w1.frozen? ⟨w.heap.size, 0, none⟩ = false := frozen_of (unhide HB) 0
  have x1 : w1.cell? ⟨w.heap.size, 1, none⟩ = some (.int .i64 0) := cell_of (unhide HB) 1
  have fx1 : w1.frozen? ⟨w.heap.size, 1, none⟩ = false := frozen_of (unhide HB) 1
  have x2 : w1.cell? ⟨w.heap.size, 2, none⟩ = some (.int .u64 0) := cell_of (unhide HB) 2
  have fx2 : w1.frozen? ⟨w.heap.size, 2, none⟩ = false := frozen_of (unhide HB) 2
  have x3 : w1.cell? ⟨w.heap.size, 3, none⟩ = some (.int .i64 0) := cell_of (unhide HB) 3
  have fx3 : w1.frozen? ⟨w.heap.size, 3, none⟩ = false := frozen_of (unhide HB) 3
  have x4 : w1.cell? ⟨w.heap.size, 4, none⟩ = some (.slice none 0 0) := cell_of (unhide HB) 4
  have fx4 : w1.frozen? ⟨w.heap.size, 4, none⟩ = false := frozen_of (unhide HB) 4
  have x5 : w1.cell? ⟨w.heap.size, 5, none⟩ = some (.int .i64 0) := cell_of (unhide HB) 5
  have fx5 : w1.frozen? ⟨w.heap.size, 5, none⟩ = false := frozen_of (unhide HB) 5
  have x6 : w1.cell? ⟨w.heap.size, 6, none⟩ = some (.int .u64 0) := cell_of (unhide HB) 6
  have fx6 : w1.frozen? ⟨w.heap.size, 6, none⟩ = false := frozen_of (unhide HB) 6
  have x7 : w1.cell? ⟨w.heap.size, 7, none⟩ = some (.bool false) := cell_of (unhide HB) 7
  have fx7 : w1.frozen? ⟨w.heap.size, 7, none⟩ = false := frozen_of (unhide HB) 7
  obtain ⟨st, ix, px, ep, g, n', c, la, lp, co⟩ := q
  simp only [tdV, tdC, tdS] at FF ⊢
  generalize hsa : g.map (fun g => (⟨g, 0, none⟩ : Addr)) = sa at *
  clear hsa
  go_wp2
  obtain ⟨z1, z2⟩ := set8 (unhide HB) rfl (.int .i64 st) (.int .i64 ix) (.int .u64 px) (.int .i64 ep) (.slice sa n' c) (.int .i64 la) (.int .u64 lp) (.bool co)
  have BT : Hid (Below w.heap.size w ((((((((w1.setCell ⟨w.heap.size, 0, none⟩ (.int .i64 st)).setCell ⟨w.heap.size, 1, none⟩ (.int .i64 ix)).setCell ⟨w.heap.size, 2, none⟩ (.int .u64 px)).setCell ⟨w.heap.size, 3, none⟩ (.int .i64 ep)).setCell ⟨w.heap.size, 4, none⟩ (.slice sa n' c)).setCell ⟨w.heap.size, 5, none⟩ (.int .i64 la)).setCell ⟨w.heap.size, 6, none⟩ (.int .u64 lp)).setCell ⟨w.heap.size, 7, none⟩ (.bool co))) := below_touch (unhide BW) z2 (unhide BW).size (fun k hk => by omega)
  have TT := hide z2
  clear z2 HB x0 fx0 x1 fx1 x2 fx2 x3 fx3 x4 fx4 x5 fx5 x6 fx6 x7 fx7
  generalize ((((((((w1.setCell ⟨w.heap.size, 0, none⟩ (.int .i64 st)).setCell ⟨w.heap.size, 1, none⟩ (.int .i64 ix)).setCell ⟨w.heap.size, 2, none⟩ (.int .u64 px)).setCell ⟨w.heap.size, 3, none⟩ (.int .i64 ep)).setCell ⟨w.heap.size, 4, none⟩ (.slice sa n' c)).setCell ⟨w.heap.size, 5, none⟩ (.int .i64 la)).setCell ⟨w.heap.size, 6, none⟩ (.int .u64 lp)).setCell ⟨w.heap.size, 7, none⟩ (.bool co)) = WW at *
  have y0 : WW.cell? ⟨w.heap.size, 0, none⟩ = some (.int .i64 st) := cell_of z1 0
  have y1 : WW.cell? ⟨w.heap.size, 1, none⟩ = some (.int .i64 ix) := cell_of z1 1
  have y2 : WW.cell? ⟨w.heap.size, 2, none⟩ = some (.int .u64 px) := cell_of z1 2
  have y3 : WW.cell? ⟨w.heap.size, 3, none⟩ = some (.int .i64 ep) := cell_of z1 3
  have y4 : WW.cell? ⟨w.heap.size, 4, none⟩ = some (.slice sa n' c) := cell_of z1 4
  have y5 : WW.cell? ⟨w.heap.size, 5, none⟩ = some (.int .i64 la) := cell_of z1 5
  have y6 : WW.cell? ⟨w.heap.size, 6, none⟩ = some (.int .u64 lp) := cell_of z1 6
  have y7 : WW.cell? ⟨w.heap.size, 7, none⟩ = some (.bool co) := cell_of z1 7
  refine bodyPost_ret (by simp [results, Try.results43, go_sem, y0, y1, y2, y3, y4, y5, y6, y7]; try rfl) rfl ?_
  exact unhide FF WW (unhide TT) (unhide BT)
def initD (x : Tx) (n inc pid : Int) : Dn :=
  if ¬ (0 ≤ n ∧ n < 8) then noneD 1 else if x.st = 0 then beginD n inc pid else if inc < x.inc then noneD 10 else if x.st = 3 then noneD 16 else if inc = x.inc then noneD 0 else
  if x.st = 2 then ⟨⟨3, n, 0, 0, 0, [], false⟩, true, 16⟩ else if 999 ≤ wrap64 (x.ep + 2) then beginD n inc pid else ⟨⟨1, n, inc, x.pid, wrap64 (x.ep + 2), [], false⟩, true, 0⟩
def addD (x : Tx) (n pid epoch part : Int) : Dn :=
  if ¬ (0 ≤ n ∧ n < 8) then noneD 1 else if ¬ (0 ≤ part ∧ part < 6) then noneD 1 else if x.st = 0 then noneD 10 else if x.pid ≠ pid then noneD 10 else if x.ep ≠ epoch then noneD 10 else if x.st = 3 then noneD 16 else
  if 999 ≤ epoch then noneD 17 else if x.ps.contains part = true then noneD 0 else ⟨⟨2, n, 0, 0, 0, [part], false⟩, true, 0⟩
def endD (x : Tx) (n pid epoch : Int) (commit : Bool) : Dn :=
  if ¬ (0 ≤ n ∧ n < 8) then noneD 1 else if x.st = 0 then noneD 10 else if x.pid ≠ pid then noneD 10 else if epoch = x.la ∧ pid = x.lp then noneD (decE x commit) else if x.ep ≠ epoch then noneD 10 else
  if x.st ≠ 2 then noneD 14 else ⟨⟨3, n, 0, 0, 0, [], commit⟩, true, 0⟩
theorem IL.keepB {w0 w w' : World} {v : Value} {l : List Int} {b : Nat} (h : IL w v l) (n : New w0 v) (t : Touch (· = b) w w') (hb : b < w0.heap.size) : IL w' v l := h.keep t (fun k hk e => by have := n k hk; omega)
theorem IL.one (W : World) (x : Int) {k : Nat} (hk : k = W.heap.size) : IL (W.alloc (.cells #[.int .i64 x] 3)) (.slice (some ⟨k, 0, none⟩) 1 1) [x] := by
  subst hk
  exact World.ownsRow_lit (base := 0) (e := 3) (size := 1) W #[.int .i64 x] 1 (Nat.zero_le _) (by unfold maxLen; omega) rfl
end Go.Proofs.Ytbgccnnomgeniaa
