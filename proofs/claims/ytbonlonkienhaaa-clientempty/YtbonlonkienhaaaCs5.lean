/-
  A client takes note of what it sees. Conditions: the client as it lies, at most 4096 notes.
-/
import Derived.Test.YtbonlonkienhaaaCs4
import Derived.Deep.RegionLaw
namespace Go.Proofs.Ytbonlonkienhaaa
open Go.RowKit
set_option linter.unusedVariables false

theorem seen_info2 : ∃ i z, Try.prog.info? 43 = some i ∧ i.zero = some z ∧ i.size = 7 ∧ i.bytes = 64 ∧ z.cells.size = 7 := by
  obtain ⟨i, h1, h2, h3, h4⟩ := seen_info
  exact ⟨i, _, h1, h2, h3, h4, rfl⟩
/-- append(list, one of seven cells) within a region that draws. -/
theorem step_seven {ops : Array Oper} {o : Oper} {a : Act} {w : World} {K : Act → World → Prop} {Q : Exit → Act → World → Prop} {E : Prop}
    (hg : o.guard = none) (s x : Operand) (hop : o.op = Op.call { callee := Callee.builtin Builtin.append, args := #[s, x], argTypes := #[40, 40] })
    (v : Value) (n : Nat) (xs : List Value) (hs : a.eval s = v) (hr : Wide w 43 7 v n xs) (g : Nat) (cs : Array Value) (news : List Value) (hx : a.eval x = .slice (some ⟨g, 0, none⟩) 1 1) (hu : w.heap[g]? = some (.cells cs 43)) (hcs : cs.toList = news) (hl : news.length = 7) (h1 : ∀ u ∈ news, u.oneCell' = true) (hlen : n ≤ 4398046510)
    (hK : ∀ v' w', Wide w' 43 7 v' (n + 1) (xs ++ news) → Touch (fun k => v.ownBlock = some k) w w' → Moved w v v' → K (a.put o.dst v') w') :
    if Region.wanted o (yielded ops a.tmps) = true then Oper.wp Try.prog o a w K Q else E := by
  have hw : Region.wanted o (yielded ops a.tmps) = true := by simp [Region.wanted, hg]
  rw [if_pos hw]
  obtain ⟨i, z, hi, hz, hsz, hby, hzs⟩ := seen_info2
  obtain ⟨v', w', hrun, r1, r2, r3⟩ := run_wide (P := Try.prog) w 40 o.type 43 i z 7 64 Try.underlying40 hi hz hsz hby hzs (by omega) v n xs hr g 0 1 news hl (fun j u hj => by rw [cell_of hu, Nat.zero_add, ← Array.getElem?_toList, hcs]; exact hj) h1 (by unfold maxLen; omega) (by omega)
  unfold Oper.wp
  simp [execOp, hop, resolve, invoke, builtin, hs, hx, hrun, Result.andThen]
  exact hK v' w' r1 r2 r3
theorem moved_back {w w2 X : World} {v v' : Value} (hb : Below w2.heap.size w2 X) (m : Moved X v v') (hs : w.heap.size ≤ w2.heap.size) : Moved w v v' := fun k hk => (m k hk).imp id (fun h => Nat.le_trans hs (Nat.le_trans hb.size h))
theorem set_tr (c : Cl) (l : List Sn) (a : Option Addr) (k : Nat) : (clL c).toArray.setIfInBounds 11 (.slice a l.length k) = (clL { c with tr := l, ta := a, tc := k }).toArray := by kernel_rfl
/-- What is left where the client has taken note of s. -/
def seenC (c : Cl) (s : Sn) (a : Option Addr) (k : Nat) : Cl := { c with tr := c.tr ++ [s], ta := a, tc := k }
def trV (c : Cl) : Value := .slice c.ta c.tr.length c.tc
def Mine (b : Nat) (c : Cl) (q : Nat) : Prop := q = b ∨ (trV c).ownBlock = some q
def SeP (w : World) (b : Nat) (c : Cl) (s : Sn) (e : Ending) (w' : World) : Prop := e = .returned (.tuple #[]) ∧ ∃ a k, ClAt w' b (seenC c s a k) ∧ Touch (Mine b c) w w' ∧ Moved w (trV c) (trV (seenC c s a k))
set_option maxRecDepth 100000 in
set_option maxHeartbeats 8000000 in
theorem see_any {w : World} {b : Nat} {c : Cl} (h : ClAt w b c) (s : Sn) (hl : c.tr.length ≤ 4096) :
    Calls Try.prog 42 #[.pointer (some ⟨b, 0, none⟩), .agg (cellsSn s).toArray] w fun e w' => SeP w b c { s with cl := c.n, op := c.pl } e w' := by
  have bt := (Touch.refl (fun _ => False) w).alloc (.cells (cellsSn s).toArray 43)
  have hb := lt_of_heap h.cl
  have HC := hide (bt.keep h.cl (fun h => h))
  have HX := hide (heap_new w (.cells (cellsSn s).toArray 43))
  have HB := hide ((Below.refl w.heap.size w).alloc (Nat.le_refl _) (.cells (cellsSn s).toArray 43))
  have H := hide h
  have HL := hide hl
  clear bt h hl
  unfold cellsSn at *
  go_enter Try.func42, Try.ntmps42
  go_upto_region 1 with fail
  change Code.wp _ _ _ _ (w.alloc (.cells #[.int .i64 s.kd, .int .i64 s.cl, .int .i64 s.op, .int .i64 s.pt, .int .i64 s.at_, .string s.s, .int .i64 s.er] 43))
  generalize w.alloc (.cells #[.int .i64 s.kd, .int .i64 s.cl, .int .i64 s.op, .int .i64 s.pt, .int .i64 s.at_, .string s.s, .int .i64 s.er] 43) = W1 at *
  generalize hsb : w.heap.size = sb at *
  have HSB := hide hsb
  have hne : b ≠ sb := by omega
  clear hsb
  have y0 : W1.cell? ⟨b, 0, none⟩ = some (.int .i64 c.n) := cell_of (unhide HC) 0
  have y5 : W1.cell? ⟨b, 5, none⟩ = some (.int .i64 c.pl) := cell_of (unhide HC) 5
  have x1 : W1.cell? ⟨sb, 1, none⟩ = some (.int .i64 s.cl) := cell_of (unhide HX) 1
  have x2 : W1.cell? ⟨sb, 2, none⟩ = some (.int .i64 s.op) := cell_of (unhide HX) 2
  have f1 : W1.frozen? ⟨sb, 1, none⟩ = false := frozen_of (unhide HX) 1
  have f2 : W1.frozen? ⟨sb, 2, none⟩ = false := frozen_of (unhide HX) 2
  go_region
  have q1 := touch_set W1 sb 1 (.int .i64 c.n)
  have q2 := touch_set (W1.setCell ⟨sb, 1, none⟩ (.int .i64 c.n)) sb 2 (.int .i64 c.pl)
  have tt : Touch (· = sb) W1 ((W1.setCell ⟨sb, 1, none⟩ (.int .i64 c.n)).setCell ⟨sb, 2, none⟩ (.int .i64 c.pl)).drew := (q1.trans q2).drew
  have hx2 : ((W1.setCell ⟨sb, 1, none⟩ (.int .i64 c.n)).setCell ⟨sb, 2, none⟩ (.int .i64 c.pl)).drew.heap[sb]? = some (.cells #[.int .i64 s.kd, .int .i64 c.n, .int .i64 c.pl, .int .i64 s.pt, .int .i64 s.at_, .string s.s, .int .i64 s.er] 43) := heap_set (heap_set (unhide HX) 1 _) 2 _
  have HX2 := hide hx2
  have HC2 := hide (tt.keep (unhide HC) hne)
  have hz1 : sb ≤ W1.heap.size := by have := lt_of_heap (unhide HX); omega
  have HB2 := hide (below_touch (unhide HB) tt hz1 (fun k hk => by omega))
  clear q1 q2 tt hx2 y0 y5 x1 x2 f1 f2 HC HX HB hz1
  generalize ((W1.setCell ⟨sb, 1, none⟩ (.int .i64 c.n)).setCell ⟨sb, 2, none⟩ (.int .i64 c.pl)).drew = w2 at *
  have y11 : w2.cell? ⟨b, 11, none⟩ = some (.slice c.ta c.tr.length c.tc) := cell_of (unhide HC2) 11
  have x0 : w2.cell? ⟨sb, 0, none⟩ = some (.int .i64 s.kd) := cell_of (unhide HX2) 0
  have x1 : w2.cell? ⟨sb, 1, none⟩ = some (.int .i64 c.n) := cell_of (unhide HX2) 1
  have x2 : w2.cell? ⟨sb, 2, none⟩ = some (.int .i64 c.pl) := cell_of (unhide HX2) 2
  have x3 : w2.cell? ⟨sb, 3, none⟩ = some (.int .i64 s.pt) := cell_of (unhide HX2) 3
  have x4 : w2.cell? ⟨sb, 4, none⟩ = some (.int .i64 s.at_) := cell_of (unhide HX2) 4
  have x5 : w2.cell? ⟨sb, 5, none⟩ = some (.string s.s) := cell_of (unhide HX2) 5
  have x6 : w2.cell? ⟨sb, 6, none⟩ = some (.int .i64 s.er) := cell_of (unhide HX2) 6
  have f11 : w2.frozen? ⟨b, 11, none⟩ = false := frozen_of (unhide HC2) 11
  have ya : ∀ ob, (w2.alloc ob).cell? ⟨b, 11, none⟩ = some (.slice c.ta c.tr.length c.tc) := fun ob => cell_of (heap_old ob (unhide HC2)) 11
  have TR := hide ((unhide H).tr.later (by rw [unhide HSB]; exact unhide HB2))
  have OP := hide ((unhide H).ops.later (by rw [unhide HSB]; exact unhide HB2))
  have TB : Hid (∀ k, (trV c).ownBlock = some k → k ≠ b) := hide (fun k hk e => by
    subst e
    obtain ⟨cs, h1⟩ := (unhide H).tr.heap hk
    rw [(unhide H).cl] at h1
    exact absurd (Obj.cells.inj (Option.some.inj h1)).2.1 (by decide))
  have OB : Hid (∀ k, (Value.slice c.oa c.os.length c.oc).ownBlock = some k → k ≠ b ∧ (trV c).ownBlock ≠ some k) := hide (fun k hk => by
    obtain ⟨cs, h1⟩ := (unhide H).ops.heap hk
    refine ⟨fun e => ?_, fun e => ?_⟩
    · subst e
      rw [(unhide H).cl] at h1
      exact absurd (Obj.cells.inj (Option.some.inj h1)).2.1 (by decide)
    · obtain ⟨cs2, h2⟩ := (unhide H).tr.heap e
      rw [h2] at h1
      exact absurd (Obj.cells.inj (Option.some.inj h1)).2.1 (by decide))
  have HLT := hide (unhide H).ops.lt
  have HWS : sb ≤ w2.heap.size := by have := (unhide HB2).size; have := unhide HSB; omega
  clear H
  go_upto_region 2 with fail
  go_region_law (refine step_seven rfl (.tmp 18) (.tmp 20) rfl (trV c) c.tr.length (c.tr.flatMap cellsSn) (by rfl) ((unhide TR).later (by first | exact ((Below.refl _ _).drew).alloc (Nat.le_refl _) _ | exact ((Below.refl _ _).alloc (Nat.le_refl _) _).drew | exact (Below.refl _ _).alloc (Nat.le_refl _) _)) _ _ _ (by rfl) (heap_new _ _) rfl rfl (by intro u hu; simp at hu; rcases hu with rfl | rfl | rfl | rfl | rfl | rfl | rfl <;> rfl) (by have := unhide HL; omega) ?_; intro v3 w3 o3 t3 m3; obtain ⟨a3, k3, rfl⟩ := o3.shape; have H3 := t3.keep (below_keep (by first | exact ((Below.refl _ _).drew).alloc (Nat.le_refl _) _ | exact ((Below.refl _ _).alloc (Nat.le_refl _) _).drew | exact (Below.refl _ _).alloc (Nat.le_refl _) _) (unhide HC2)) (fun e => unhide TB _ e rfl); have y3 : w3.cell? ⟨b, 11, none⟩ = some (.slice c.ta c.tr.length c.tc) := cell_of H3 11; have g3 : w3.frozen? ⟨b, 11, none⟩ = false := frozen_of H3 11; have HC3 := hide H3; have O3 := hide o3; have T3 := hide ((Touch.of_below (S := fun k => (trV c).ownBlock = some k) (by first | exact ((Below.refl _ _).drew).alloc (Nat.le_refl _) _ | exact ((Below.refl _ _).alloc (Nat.le_refl _) _).drew | exact (Below.refl _ _).alloc (Nat.le_refl _) _)).trans t3); have M3 : Hid (Moved w (trV c) (.slice a3 (c.tr.length + 1) k3)) := hide (moved_back (w2 := w2) (by first | exact ((Below.refl _ _).drew).alloc (Nat.le_refl _) _ | exact ((Below.refl _ _).alloc (Nat.le_refl _) _).drew | exact (Below.refl _ _).alloc (Nat.le_refl _) _) m3 (by have := unhide HSB; omega)); clear H3 o3 t3 m3)
  all_goals
    have FF : Hid (SeP w b c { s with cl := c.n, op := c.pl } (.returned (.tuple #[])) (w3.setCell ⟨b, 11, none⟩ (.slice a3 (c.tr.length + 1) k3))) := by
      have hs := touch_set w3 b 11 (.slice a3 (c.tr.length + 1) k3)
      have hl1 : (c.tr ++ [({ s with cl := c.n, op := c.pl } : Sn)]).length = c.tr.length + 1 := by simp
      have tb : ∀ k, (Value.slice a3 (c.tr.length + 1) k3).ownBlock = some k → k ≠ b := fun k hk e => by
        subst e
        obtain ⟨cs, h1⟩ := (unhide O3).heap hk
        rw [unhide HC3] at h1
        exact absurd (Obj.cells.inj (Option.some.inj h1)).2.1 (by decide)
      have t23 : Touch (Mine b c) w2 w3 := (unhide T3).mono (fun k hk => .inr hk)
      have tt : Touch (Mine b c) w (w3.setCell ⟨b, 11, none⟩ (.slice a3 (c.tr.length + 1) k3)) := (Touch.of_below (by rw [unhide HSB]; exact unhide HB2)).trans (t23.trans (hs.mono (fun k hk => .inl hk)))
      refine ⟨rfl, a3, k3, ⟨?_, ?_, ?_⟩, tt, ?_⟩
      · have e := heap_set (unhide HC3) 11 (.slice a3 (c.tr.length + 1) k3)
        rw [e, ← hl1, set_tr]
        rfl
      · exact ((unhide OP).keep (unhide T3) (fun k hk => (unhide OB k hk).2)).keep hs (fun k hk => (unhide OB k hk).1)
      · have e := (unhide O3).keep hs tb
        have hf : (c.tr ++ [({ s with cl := c.n, op := c.pl } : Sn)]).flatMap cellsSn = c.tr.flatMap cellsSn ++ cellsSn ({ s with cl := c.n, op := c.pl } : Sn) := by rw [List.flatMap_append]; simp
        show Wide _ _ _ (.slice a3 (c.tr ++ [({ s with cl := c.n, op := c.pl } : Sn)]).length k3) (c.tr ++ [({ s with cl := c.n, op := c.pl } : Sn)]).length ((c.tr ++ [({ s with cl := c.n, op := c.pl } : Sn)]).flatMap cellsSn)
        rw [hl1, hf]
        exact e
      · show Moved w (trV c) (.slice a3 (c.tr ++ [({ s with cl := c.n, op := c.pl } : Sn)]).length k3)
        rw [hl1]
        exact unhide M3
    clear TR OP TB OB HLT HC2 HX2 HC3 O3 T3 M3 HB2
    go_wp2
    go_returns
    exact unhide FF
end Go.Proofs.Ytbonlonkienhaaa
