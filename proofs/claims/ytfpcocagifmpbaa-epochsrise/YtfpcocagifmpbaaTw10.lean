/-
  A cache and the document's cache, side by side, and an Op of the script. Conditions: both are caches; epochs rise; at most 8 * 10^12 epochs.
-/
import Derived.Test.YtfpcocagifmpbaaSa10
namespace Go.Proofs.Ytfpcocagifmpbaa
open Go.RowKit
set_option linter.unusedVariables false

/-- An Op of the script. -/
structure Op10 where
  k : Int
  e : Int
  a : Int
  deriving Inhabited
theorem Ris.snoc {l : List Pr} {p : Pr} (h : Ris l) (h1 : ∀ q ∈ l, q.1 < p.1 ∧ q.2 < p.2) : Ris (l ++ [p]) := by
  unfold Ris
  rw [List.pairwise_append]
  exact ⟨h, List.pairwise_singleton _ _, fun a ha b hb => by rw [List.mem_singleton] at hb; subst hb; exact h1 a ha⟩
theorem Ris.last {l : List Pr} (h : Ris l) {k : Nat} (hk : l.length = k + 1) : ∀ q ∈ l, q.1 ≤ (l[k]'(by omega)).1 := by
  intro q hq
  obtain ⟨i, hi, rfl⟩ := List.getElem_of_mem hq
  by_cases e : i = k
  · subst e; exact Int.le_refl _
  · have := (h.at (i := i) (j := k) (by omega) (by omega)).1; omega
theorem asg_cases (ep a : Int) (l : List Pr) (h : Ris l) : (asgE ep a l).2 = l ∨ ((asgE ep a l).2 = cutE a l ++ [(ep, a)] ∧ 0 ≤ ep ∧ 0 ≤ a ∧ ∀ q ∈ l, q.1 < ep) := by
  by_cases hneg : ep < 0 ∨ a < 0
  · left; rw [asg_neg hneg]
  · have h1 : ¬ ep < 0 := by omega
    have h2 : ¬ a < 0 := by omega
    by_cases h0 : l.length = 0
    · have e : l = [] := List.eq_nil_of_length_eq_zero h0
      subst e
      right
      rw [asg_go h1 h2 (L3 := false) rfl (fun h => by cases h)]
      exact ⟨rfl, by omega, by omega, fun q hq => by cases hq⟩
    · obtain ⟨k, hk⟩ : ∃ k, l.length = k + 1 := ⟨l.length - 1, by omega⟩
      have hL := lastE_at hk
      by_cases hlt : ep < (l[k]'(by omega)).1
      · left; rw [asg_low h1 h2 hL hlt]
      · by_cases heq : ep = (l[k]'(by omega)).1
        · left; rw [heq, asg_same (by omega) h2 hL]
        · right
          rw [asg_go h1 h2 hL (fun _ => by omega)]
          exact ⟨rfl, by omega, by omega, fun q hq => by have := h.last hk q hq; omega⟩
theorem Ris.asg {l : List Pr} (h : Ris l) (ep a : Int) : Ris (asgE ep a l).2 := by
  rcases asg_cases ep a l h with e | ⟨e, _, _, hl⟩
  · rw [e]; exact h
  · rw [e]
    refine (h.cut a).snoc (fun q hq => ?_)
    have := List.mem_filter.1 hq
    exact ⟨hl q this.1, by simpa using this.2⟩
theorem len_asg {l : List Pr} (h : Ris l) (ep a : Int) : (asgE ep a l).2.length ≤ l.length + 1 := by
  rcases asg_cases ep a l h with e | ⟨e, _⟩
  · rw [e]; omega
  · rw [e, List.length_append, List.length_singleton]
    have : (cutE a l).length ≤ l.length := List.length_filter_le _ _
    omega
theorem len_cut (a : Int) (l : List Pr) : (cutE a l).length ≤ l.length := List.length_filter_le _ _

/-- Both caches, and the Op at hand. -/
structure Two (w W : World) (cb rb ob : Nat) (o : Op10) (l m : List Pr) : Prop where
  ca : ∃ v, CaAt w.heap.size W cb v l
  rc : ∃ v1 v2, RcAt w.heap.size W rb v1 v2 m
  op : W.heap[ob]? = some (.cells #[.int .i64 o.k, .int .i64 o.e, .int .i64 o.a] 31)
  bl : Below w.heap.size w W
section
variable {w W W' : World} {cb rb ob : Nat} {o : Op10} {l m : List Pr}
theorem Two.later (h : Two w W cb rb ob o l m) (hb : Below W.heap.size W W') : Two w W' cb rb ob o l m := by
  obtain ⟨⟨v, h1⟩, ⟨v1, v2, h2⟩, h3, h4⟩ := h
  exact ⟨⟨v, h1.later hb⟩, ⟨v1, v2, h2.later hb⟩, below_keep hb h3, h4.trans (hb.mono h4.size)⟩
theorem obj_ne {t1 t2 : TypeId} {b : Nat} {c1 c2 : Array Value} (h1 : W.heap[b]? = some (.cells c1 t1)) (h2 : W.heap[b]? = some (.cells c2 t2)) : t1 = t2 := by
  rw [h1] at h2
  exact (Obj.cells.inj (Option.some.inj h2)).2.1
/-- The program's cache has changed. -/
theorem Two.changedC (h : Two w W cb rb ob o l m) {v : Value} (hc : CaAt w.heap.size W cb v l) {l' : List Pr} {v' : Value} (hc' : CaAt w.heap.size W' cb v' l') (t : Touch (CaOw cb v) W W') : Two w W' cb rb ob o l' m := by
  obtain ⟨_, ⟨v1, v2, h2⟩, h3, h4⟩ := h
  have hS : ∀ k, CaOw cb v k → ∃ cs t, W.heap[k]? = some (.cells cs t) ∧ t ≠ 3 ∧ t ≠ 28 ∧ t ≠ 31 ∧ w.heap.size ≤ k := fun k hk => by
    rcases hk with e | e
    · subst e; exact ⟨_, _, hc.box, by decide, by decide, by decide, hc.lo⟩
    · obtain ⟨cs, hcs⟩ := hc.row.heap e
      exact ⟨_, _, hcs, by decide, by decide, by decide, hc.new k e⟩
  refine ⟨⟨v', hc'⟩, ⟨v1, v2, h2.keep t (fun e => ?_) (fun k hk e => ?_) (fun k hk e => ?_)⟩, t.keep h3 (fun e => ?_), below_touch h4 t h4.size (fun k hk => ?_)⟩
  · obtain ⟨cs, ty, g1, g2, g3, g4, _⟩ := hS _ e
    exact g3 (obj_ne g1 h2.box)
  · obtain ⟨cs, ty, g1, g2, g3, g4, _⟩ := hS _ e
    obtain ⟨cs', q⟩ := own_heap h2.r1 hk
    exact g2 (obj_ne g1 q)
  · obtain ⟨cs, ty, g1, g2, g3, g4, _⟩ := hS _ e
    obtain ⟨cs', q⟩ := own_heap h2.r2 hk
    exact g2 (obj_ne g1 q)
  · obtain ⟨cs, ty, g1, g2, g3, g4, _⟩ := hS _ e
    exact g4 (obj_ne g1 h3)
  · obtain ⟨cs, ty, g1, g2, g3, g4, g5⟩ := hS _ hk
    exact g5
/-- The document's cache has changed. -/
theorem Two.changedR (h : Two w W cb rb ob o l m) {v1 v2 : Value} (hr : RcAt w.heap.size W rb v1 v2 m) {m' : List Pr} {u1 u2 : Value} (hr' : RcAt w.heap.size W' rb u1 u2 m') (t : Touch (· = rb) W W') : Two w W' cb rb ob o l m' := by
  obtain ⟨⟨v, h1⟩, _, h3, h4⟩ := h
  refine ⟨⟨v, h1.keep t (fun e => ?_) (fun k hk e => ?_)⟩, ⟨u1, u2, hr'⟩, t.keep h3 (fun e => ?_), below_touch h4 t h4.size (fun k hk => by subst hk; exact hr.lo)⟩
  · rw [e] at h1; exact absurd (obj_ne h1.box hr.box) (by decide)
  · subst e
    obtain ⟨cs, hcs⟩ := h1.row.heap hk
    exact absurd (obj_ne hcs hr.box) (by decide)
  · rw [e] at h3; exact absurd (obj_ne h3 hr.box) (by decide)
def TwPost (w : World) (cb rb ob : Nat) (o : Op10) (l m : List Pr) (r : Value) (e : Ending) (W' : World) : Prop := e = .returned r ∧ Two w W' cb rb ob o l m
theorem Two.asgC (h : Two w W cb rb ob o l m) (hr : Ris l) (hn : l.length ≤ 8000000000000) (ep a : Int) :
    Calls Try.prog 11 #[.pointer (some ⟨cb, 0, none⟩), .int .i64 ep, .int .i64 a] W fun e W' => TwPost w cb rb ob o (asgE ep a l).2 m (.int .i64 (asgE ep a l).1) e W' := by
  obtain ⟨v, hc⟩ := h.ca
  refine (assign_any hc hr hn h.bl.size ep a).mono ?_
  rintro e W' ⟨rfl, v', c', t', _⟩
  exact ⟨rfl, h.changedC hc c' t'⟩
theorem Two.cutC (h : Two w W cb rb ob o l m) (hr : Ris l) (a : Int) :
    Calls Try.prog 13 #[.pointer (some ⟨cb, 0, none⟩), .int .i64 a] W fun e W' => TwPost w cb rb ob o (cutE a l) m (.tuple #[]) e W' := by
  obtain ⟨v, hc⟩ := h.ca
  refine (cut_any hc hr a).mono ?_
  rintro e W' ⟨rfl, v', c', t', _⟩
  exact ⟨rfl, h.changedC hc c' t'⟩
theorem Two.asgR (h : Two w W cb rb ob o l m) (hn : m.length ≤ 8000000000000) (ep a : Int) :
    Calls Try.prog 12 #[.pointer (some ⟨rb, 0, none⟩), .int .i64 ep, .int .i64 a] W fun e W' => TwPost w cb rb ob o l (asgE ep a m).2 (.int .i64 (asgE ep a m).1) e W' := by
  obtain ⟨v1, v2, hc⟩ := h.rc
  refine (rassign_any hc hn h.bl.size ep a).mono ?_
  rintro e W' ⟨rfl, u1, u2, c', t'⟩
  exact ⟨rfl, h.changedR hc c' t'⟩
theorem Two.cutR (h : Two w W cb rb ob o l m) (hn : m.length ≤ 8000000000000) (a : Int) :
    Calls Try.prog 14 #[.pointer (some ⟨rb, 0, none⟩), .int .i64 a] W fun e W' => TwPost w cb rb ob o l (cutE a m) (.tuple #[]) e W' := by
  obtain ⟨v1, v2, hc⟩ := h.rc
  refine (rcut_any hc hn h.bl.size a).mono ?_
  rintro e W' ⟨rfl, u1, u2, c', t', _⟩
  exact ⟨rfl, h.changedR hc c' t'⟩
theorem Two.endC (h : Two w W cb rb ob o l m) (ep en : Int) :
    Calls Try.prog 15 #[.pointer (some ⟨cb, 0, none⟩), .int .i64 ep, .int .i64 en] W fun e W' => TwPost w cb rb ob o l m (tup (endE l ep en)) e W' := by
  obtain ⟨v, hc⟩ := h.ca
  refine (end_any hc ep en).mono ?_
  rintro e W' ⟨rfl, b'⟩
  exact ⟨rfl, h.later b'⟩
theorem Two.endR (h : Two w W cb rb ob o l m) (ep en : Int) :
    Calls Try.prog 16 #[.pointer (some ⟨rb, 0, none⟩), .int .i64 ep, .int .i64 en] W fun e W' => TwPost w cb rb ob o l m (tup (endE m ep en)) e W' := by
  obtain ⟨v1, v2, hc⟩ := h.rc
  refine (rend_any hc ep en).mono ?_
  rintro e W' ⟨rfl, b'⟩
  exact ⟨rfl, h.later b'⟩
theorem Two.same (h : Two w W cb rb ob o l l) (hn : l.length ≤ 8000000000000) :
    Calls Try.prog 17 #[.pointer (some ⟨cb, 0, none⟩), .pointer (some ⟨rb, 0, none⟩)] W fun e W' => TwPost w cb rb ob o l l (.bool true) e W' := by
  obtain ⟨v, hc⟩ := h.ca
  obtain ⟨v1, v2, hr⟩ := h.rc
  refine (same10_any hc hr hn).mono ?_
  rintro e W' ⟨rfl, b'⟩
  exact ⟨rfl, h.later b'⟩
end
end Go.Proofs.Ytfpcocagifmpbaa
