/-
  A cache among other blocks, alone and beside the document's. Conditions: both are caches; epochs rise; at most 8 * 10^12 epochs.
-/
import Derived.Test.YtfpcocagifmpbaaPo10
namespace Go.Proofs.Ytfpcocagifmpbaa
open Go.RowKit
set_option linter.unusedVariables false

/-- Blocks that stand beside. -/
abbrev Bs := List (Nat × Array Value × TypeId)
def Held10 (W : World) (E : Bs) : Prop := ∀ x ∈ E, W.heap[x.1]? = some (.cells x.2.1 x.2.2) ∧ x.2.2 ≠ 50 ∧ x.2.2 ≠ 52 ∧ x.2.2 ≠ 28
theorem Held10.later {W W' : World} {E : Bs} (h : Held10 W E) (hb : Below W.heap.size W W') : Held10 W' E := fun x hx => ⟨below_keep hb (h x hx).1, (h x hx).2⟩
theorem Held10.keep {S : Nat → Prop} {W W' : World} {E : Bs} (h : Held10 W E) (t : Touch S W W') (hS : ∀ x ∈ E, ¬ S x.1) : Held10 W' E := fun x hx => ⟨t.keep (h x hx).1 (hS x hx), (h x hx).2⟩
theorem Held10.drop {W : World} {E : Bs} {x : Nat × Array Value × TypeId} (h : Held10 W (x :: E)) : Held10 W E := fun y hy => h y (List.mem_cons_of_mem _ hy)
/-- A cache among them. -/
structure Uno (w W : World) (cb : Nat) (l : List Pr) (E : Bs) : Prop where
  ca : ∃ v, CaAt w.heap.size W cb v l
  ex : Held10 W E
  bl : Below w.heap.size w W
section
variable {w W W' : World} {cb rb : Nat} {l m : List Pr} {E : Bs}
theorem Uno.later (h : Uno w W cb l E) (hb : Below W.heap.size W W') : Uno w W' cb l E := by
  obtain ⟨⟨v, h1⟩, h2, h3⟩ := h
  exact ⟨⟨v, h1.later hb⟩, h2.later hb, h3.trans (hb.mono h3.size)⟩
theorem Uno.drop {x : Nat × Array Value × TypeId} (h : Uno w W cb l (x :: E)) : Uno w W cb l E := ⟨h.ca, h.ex.drop, h.bl⟩
theorem Uno.add (h : Uno w W cb l E) (cs : Array Value) (t : TypeId) (h1 : t ≠ 50) (h2 : t ≠ 52) (h3 : t ≠ 28) : Uno w (W.alloc (.cells cs t)) cb l ((W.heap.size, cs, t) :: E) := by
  have hA : Below W.heap.size W (W.alloc (.cells cs t)) := (Below.refl _ _).alloc (Nat.le_refl _) _
  have h' := h.later hA
  refine ⟨h'.ca, fun x hx => ?_, h'.bl⟩
  rcases List.mem_cons.1 hx with e | e
  · subst e; exact ⟨heap_new _ _, h1, h2, h3⟩
  · exact h'.ex x e
theorem Uno.get (h : Uno w W cb l E) {k : Nat} {cs : Array Value} {t : TypeId} (hx : (k, cs, t) ∈ E) : W.heap[k]? = some (.cells cs t) := (h.ex _ hx).1
theorem Uno.changed (h : Uno w W cb l E) {v : Value} (hc : CaAt w.heap.size W cb v l) {l' : List Pr} {v' : Value} (hc' : CaAt w.heap.size W' cb v' l') (t : Touch (CaOw cb v) W W') : Uno w W' cb l' E := by
  refine ⟨⟨v', hc'⟩, h.ex.keep t (fun x hx e => ?_), below_touch h.bl t h.bl.size (fun k hk => ?_)⟩
  · obtain ⟨g1, g2, g3, g4⟩ := h.ex x hx
    rcases e with e | e
    · rw [e] at g1; exact g2 (obj_ne g1 hc.box)
    · obtain ⟨cs, hcs⟩ := hc.row.heap e; exact g3 (obj_ne g1 hcs)
  · rcases hk with e | e
    · subst e; exact hc.lo
    · exact hc.new k e
def UnPost (w : World) (cb : Nat) (l : List Pr) (E : Bs) (r : Value) (e : Ending) (W' : World) : Prop := e = .returned r ∧ Uno w W' cb l E
theorem Uno.asg (h : Uno w W cb l E) (hr : Ris l) (hn : l.length ≤ 8000000000000) (ep a : Int) :
    Calls Try.prog 11 #[.pointer (some ⟨cb, 0, none⟩), .int .i64 ep, .int .i64 a] W fun e W' => UnPost w cb (asgE ep a l).2 E (.int .i64 (asgE ep a l).1) e W' := by
  obtain ⟨v, hc⟩ := h.ca
  refine (assign_any hc hr hn h.bl.size ep a).mono ?_
  rintro e W' ⟨rfl, v', c', t', _⟩
  exact ⟨rfl, h.changed hc c' t'⟩
theorem Uno.cut (h : Uno w W cb l E) (hr : Ris l) (a : Int) :
    Calls Try.prog 13 #[.pointer (some ⟨cb, 0, none⟩), .int .i64 a] W fun e W' => UnPost w cb (cutE a l) E (.tuple #[]) e W' := by
  obtain ⟨v, hc⟩ := h.ca
  refine (cut_any hc hr a).mono ?_
  rintro e W' ⟨rfl, v', c', t', _⟩
  exact ⟨rfl, h.changed hc c' t'⟩
theorem Uno.endd (h : Uno w W cb l E) (ep en : Int) :
    Calls Try.prog 15 #[.pointer (some ⟨cb, 0, none⟩), .int .i64 ep, .int .i64 en] W fun e W' => UnPost w cb l E (tup (endE l ep en)) e W' := by
  obtain ⟨v, hc⟩ := h.ca
  refine (end_any hc ep en).mono ?_
  rintro e W' ⟨rfl, b'⟩
  exact ⟨rfl, h.later b'⟩
theorem Uno.last (h : Uno w W cb l E) :
    Calls Try.prog 19 #[.pointer (some ⟨cb, 0, none⟩)] W fun e W' => UnPost w cb l E (tup (lastE l)) e W' := by
  obtain ⟨v, hc⟩ := h.ca
  refine (last_any hc).mono ?_
  rintro e W' ⟨rfl, b'⟩
  exact ⟨rfl, h.later b'⟩
theorem Uno.all (h : Uno w W cb l E) (hn : l.length ≤ 8000000000000) :
    Calls Try.prog 18 #[.pointer (some ⟨cb, 0, none⟩)] W fun e W' => AlPost W l e W' ∧ Uno w W' cb l E := by
  obtain ⟨v, hc⟩ := h.ca
  refine (all_any hc hn).mono ?_
  rintro e W' ⟨v', e1, e2, e3, e4⟩
  exact ⟨⟨v', e1, e2, e3, e4⟩, h.later e4⟩
theorem Uno.start (w W : World) (E : Bs) (hE : Held10 W E) (bl : Below w.heap.size w W) : Uno w (W.alloc (.cells #[.slice none 0 0] 50)) W.heap.size [] E := by
  have hA : Below W.heap.size W (W.alloc (.cells #[.slice none 0 0] 50)) := (Below.refl _ _).alloc (Nat.le_refl _) _
  exact ⟨⟨_, CaAt.fresh W bl.size⟩, hE.later hA, bl.trans (hA.mono bl.size)⟩

/-- Both caches among other blocks. -/
structure Duo (w W : World) (cb rb : Nat) (l m : List Pr) (E : Bs) : Prop where
  u : Uno w W cb l E
  rc : ∃ v1 v2, RcAt w.heap.size W rb v1 v2 m
theorem Duo.later (h : Duo w W cb rb l m E) (hb : Below W.heap.size W W') : Duo w W' cb rb l m E := by
  obtain ⟨h1, v1, v2, h2⟩ := h
  exact ⟨h1.later hb, v1, v2, h2.later hb⟩
theorem Duo.add (h : Duo w W cb rb l m E) (cs : Array Value) (t : TypeId) (h1 : t ≠ 50) (h2 : t ≠ 52) (h3 : t ≠ 28) : Duo w (W.alloc (.cells cs t)) cb rb l m ((W.heap.size, cs, t) :: E) := by
  obtain ⟨v1, v2, hr⟩ := h.rc
  exact ⟨h.u.add cs t h1 h2 h3, v1, v2, hr.later ((Below.refl _ _).alloc (Nat.le_refl _) _)⟩
theorem Duo.drop {x : Nat × Array Value × TypeId} (h : Duo w W cb rb l m (x :: E)) : Duo w W cb rb l m E := ⟨h.u.drop, h.rc⟩
def DuPost (w : World) (cb rb : Nat) (l m : List Pr) (E : Bs) (r : Value) (e : Ending) (W' : World) : Prop := e = .returned r ∧ Duo w W' cb rb l m E
theorem Duo.changedC (h : Duo w W cb rb l m E) {v : Value} (hc : CaAt w.heap.size W cb v l) {l' : List Pr} {v' : Value} (hc' : CaAt w.heap.size W' cb v' l') (t : Touch (CaOw cb v) W W') : Duo w W' cb rb l' m E := by
  obtain ⟨v1, v2, hr⟩ := h.rc
  have hS : ∀ k, CaOw cb v k → ∃ cs t, W.heap[k]? = some (.cells cs t) ∧ t ≠ 3 ∧ t ≠ 28 := fun k hk => by
    rcases hk with e | e
    · subst e; exact ⟨_, _, hc.box, by decide, by decide⟩
    · obtain ⟨cs, hcs⟩ := hc.row.heap e
      exact ⟨_, _, hcs, by decide, by decide⟩
  refine ⟨h.u.changed hc hc' t, v1, v2, hr.keep t (fun e => ?_) (fun k hk e => ?_) (fun k hk e => ?_)⟩
  · obtain ⟨cs, ty, g1, g2, g3⟩ := hS _ e
    exact g3 (obj_ne g1 hr.box)
  · obtain ⟨cs, ty, g1, g2, g3⟩ := hS _ e
    obtain ⟨cs', q⟩ := own_heap hr.r1 hk
    exact g2 (obj_ne g1 q)
  · obtain ⟨cs, ty, g1, g2, g3⟩ := hS _ e
    obtain ⟨cs', q⟩ := own_heap hr.r2 hk
    exact g2 (obj_ne g1 q)
theorem Duo.changedR (h : Duo w W cb rb l m E) {v1 v2 : Value} (hr : RcAt w.heap.size W rb v1 v2 m) {m' : List Pr} {u1 u2 : Value} (hr' : RcAt w.heap.size W' rb u1 u2 m') (t : Touch (· = rb) W W') : Duo w W' cb rb l m' E := by
  obtain ⟨⟨v, h1⟩, h2, h3⟩ := h.u
  refine ⟨⟨⟨v, h1.keep t (fun e => ?_) (fun k hk e => ?_)⟩, h2.keep t (fun x hx e => ?_), below_touch h3 t h3.size (fun k hk => by subst hk; exact hr.lo)⟩, u1, u2, hr'⟩
  · rw [e] at h1; exact absurd (obj_ne h1.box hr.box) (by decide)
  · subst e
    obtain ⟨cs, hcs⟩ := h1.row.heap hk
    exact absurd (obj_ne hcs hr.box) (by decide)
  · obtain ⟨g1, g2, g3, g4⟩ := h2 x hx
    rw [e] at g1
    exact g4 (obj_ne g1 hr.box)
theorem Duo.asgC (h : Duo w W cb rb l m E) (hr : Ris l) (hn : l.length ≤ 8000000000000) (ep a : Int) :
    Calls Try.prog 11 #[.pointer (some ⟨cb, 0, none⟩), .int .i64 ep, .int .i64 a] W fun e W' => DuPost w cb rb (asgE ep a l).2 m E (.int .i64 (asgE ep a l).1) e W' := by
  obtain ⟨v, hc⟩ := h.u.ca
  refine (assign_any hc hr hn h.u.bl.size ep a).mono ?_
  rintro e W' ⟨rfl, v', c', t', _⟩
  exact ⟨rfl, h.changedC hc c' t'⟩
theorem Duo.cutC (h : Duo w W cb rb l m E) (hr : Ris l) (a : Int) :
    Calls Try.prog 13 #[.pointer (some ⟨cb, 0, none⟩), .int .i64 a] W fun e W' => DuPost w cb rb (cutE a l) m E (.tuple #[]) e W' := by
  obtain ⟨v, hc⟩ := h.u.ca
  refine (cut_any hc hr a).mono ?_
  rintro e W' ⟨rfl, v', c', t', _⟩
  exact ⟨rfl, h.changedC hc c' t'⟩
theorem Duo.asgR (h : Duo w W cb rb l m E) (hn : m.length ≤ 8000000000000) (ep a : Int) :
    Calls Try.prog 12 #[.pointer (some ⟨rb, 0, none⟩), .int .i64 ep, .int .i64 a] W fun e W' => DuPost w cb rb l (asgE ep a m).2 E (.int .i64 (asgE ep a m).1) e W' := by
  obtain ⟨v1, v2, hc⟩ := h.rc
  refine (rassign_any hc hn h.u.bl.size ep a).mono ?_
  rintro e W' ⟨rfl, u1, u2, c', t'⟩
  exact ⟨rfl, h.changedR hc c' t'⟩
theorem Duo.same (h : Duo w W cb rb l l E) (hn : l.length ≤ 8000000000000) :
    Calls Try.prog 17 #[.pointer (some ⟨cb, 0, none⟩), .pointer (some ⟨rb, 0, none⟩)] W fun e W' => DuPost w cb rb l l E (.bool true) e W' := by
  obtain ⟨v, hc⟩ := h.u.ca
  obtain ⟨v1, v2, hr⟩ := h.rc
  refine (same10_any hc hr hn).mono ?_
  rintro e W' ⟨rfl, b'⟩
  exact ⟨rfl, h.later b'⟩
theorem Duo.all (h : Duo w W cb rb l m E) (hn : l.length ≤ 8000000000000) :
    Calls Try.prog 18 #[.pointer (some ⟨cb, 0, none⟩)] W fun e W' => AlPost W l e W' ∧ Duo w W' cb rb l m E := by
  obtain ⟨v, hc⟩ := h.u.ca
  refine (all_any hc hn).mono ?_
  rintro e W' ⟨v', e1, e2, e3, e4⟩
  exact ⟨⟨v', e1, e2, e3, e4⟩, h.later e4⟩
theorem Duo.start (h : Uno w W cb l E) : Duo w (W.alloc (.cells #[.slice none 0 0, .slice none 0 0] 28)) cb W.heap.size l [] E :=
  ⟨h.later ((Below.refl _ _).alloc (Nat.le_refl _) _), .slice none 0 0, .slice none 0 0, heap_new _ _, Own.nil _ _, Own.nil _ _, fun k hk => by simp [Value.ownBlock] at hk, h.bl.size, fun k hk => by simp [Value.ownBlock] at hk, fun k hk => by simp [Value.ownBlock] at hk⟩
end
end Go.Proofs.Ytfpcocagifmpbaa
