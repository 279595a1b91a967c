/-
  An image as it lies in memory. Conditions: none.
-/
import Derived.Test.YtfakjcaolpmkeaaIg1
namespace Go.Proofs.Ytfakjcaolpmkeaa
open Go.RowKit Go.Maps
set_option linter.unusedVariables false


section
variable {α : Type} (f : α → List Value) {m : Nat} (hm : ∀ x, (f x).length = m)
include hm
theorem flat_len (l : List α) : (l.flatMap f).length = l.length * m := by
  induction l with
  | nil => simp
  | cons x r ih => rw [List.flatMap_cons, List.length_append, hm, ih, List.length_cons, Nat.add_mul]; omega
theorem flat_at : ∀ (l : List α) (i j : Nat) (hi : i < l.length), j < m → (l.flatMap f)[i * m + j]? = (f l[i])[j]? := by
  intro l
  induction l with
  | nil => intro i j hi; cases hi
  | cons x r ih =>
    intro i j hi hj
    rw [List.flatMap_cons]
    cases i with
    | zero => rw [Nat.zero_mul, Nat.zero_add, List.getElem?_append_left (by rw [hm]; exact hj)]; rfl
    | succ i =>
      have e : (i + 1) * m + j = (f x).length + (i * m + j) := by rw [hm, Nat.add_mul]; omega
      rw [e, List.getElem?_append_right (by omega), Nat.add_sub_cancel_left]
      exact ih i j (by simpa using hi) hj
theorem flat_set : ∀ (l : List α) (i j : Nat) (u : Value) (y : α) (hi : i < l.length), j < m → (f l[i]).set j u = f y → (l.flatMap f).set (i * m + j) u = (l.set i y).flatMap f := by
  intro l
  induction l with
  | nil => intro i j u y hi; cases hi
  | cons x r ih =>
    intro i j u y hi hj e
    cases i with
    | zero =>
      rw [List.flatMap_cons, Nat.zero_mul, Nat.zero_add, List.set_append_left _ _ (by rw [hm]; exact hj), List.set_cons_zero, List.flatMap_cons]
      rw [show (f x).set j u = f y from e]
    | succ i =>
      have e2 : (i + 1) * m + j = (f x).length + (i * m + j) := by rw [hm, Nat.add_mul]; omega
      rw [List.flatMap_cons, e2, List.set_append_right _ _ (by omega), Nat.add_sub_cancel_left, List.set_cons_succ, List.flatMap_cons, ih i j u y (by simpa using hi) hj e]
end


/-- A node. -/
structure Nd where
  th : Bool
  tm : Int
  bk : Int
instance : Inhabited Nd := ⟨⟨false, 0, 0⟩⟩
def ndC (n : Nd) : List Value := [.bool n.th, .int .i64 n.tm, .int .u64 n.bk]
theorem ndC_len (n : Nd) : (ndC n).length = 3 := rfl
/-- A partition. -/
structure Pt where
  ld : Int
  ep : Int
  ve : Int
  is : List Int
  rs : List Int
  ts : List Int
instance : Inhabited Pt := ⟨⟨-1, 0, 0, [], [], []⟩⟩
/-- A partition and where its lists lie. -/
structure Pm where
  q : Pt
  vi : Value
  vr : Value
  vt : Value
def pmC (p : Pm) : List Value := [.int .i64 p.q.ld, .int .i64 p.q.ep, .int .i64 p.q.ve, p.vi, p.vr, p.vt]
theorem pmC_len (p : Pm) : (pmC p).length = 6 := rfl
def Pm.B (p : Pm) (k : Nat) : Prop := p.vi.ownBlock = some k ∨ p.vr.ownBlock = some k ∨ p.vt.ownBlock = some k
def Apt (v v' : Value) : Prop := ∀ k, v.ownBlock = some k → v'.ownBlock ≠ some k
structure PIn (w : World) (p : Pm) : Prop where
  li : IL w p.vi p.q.is
  lr : IL w p.vr p.q.rs
  lt : IL w p.vt p.q.ts
  ir : Apt p.vi p.vr
  it : Apt p.vi p.vt
  rt : Apt p.vr p.vt
theorem PIn.keep {w w' : World} {p : Pm} {S : Nat → Prop} (h : PIn w p) (t : Touch S w w') (hs : ∀ k, p.B k → ¬ S k) : PIn w' p :=
  ⟨h.li.keep t (fun k hk => hs k (.inl hk)), h.lr.keep t (fun k hk => hs k (.inr (.inl hk))), h.lt.keep t (fun k hk => hs k (.inr (.inr hk))), h.ir, h.it, h.rt⟩
theorem PIn.heap {w : World} {p : Pm} (h : PIn w p) {k : Nat} (hk : p.B k) : ∃ cs, w.heap[k]? = some (.cells cs 3) := by
  rcases hk with hk | hk | hk
  · exact h.li.heap hk
  · exact h.lr.heap hk
  · exact h.lt.heap hk
structure Img where
  ns : List Nd
  ps : List Pt
  nx : Int
  ct : Int
/-- An image and where it lies. -/
structure Im where
  nv : Value
  pv : Value
  pb : Nat
  ns : List Nd
  ps : List Pm
  nx : Int
  ct : Int
def Im.abs (m : Im) : Img := ⟨m.ns, m.ps.map Pm.q, m.nx, m.ct⟩
def Im.R (m : Im) (mb k : Nat) : Prop := k = mb ∨ k = m.pb ∨ m.nv.ownBlock = some k ∨ m.pv.ownBlock = some k ∨ ∃ i, ∃ h : i < m.ps.length, (m.ps[i]).B k
structure ImAt (w : World) (mb : Nat) (m : Im) : Prop where
  obj : w.heap[mb]? = some (.cells #[m.nv, m.pv, .pointer (some ⟨m.pb, 0, none⟩), .int .i64 m.ct] 38)
  nds : Wide w 76 3 m.nv m.ns.length (m.ns.flatMap ndC)
  pts : Wide w 42 6 m.pv m.ps.length (m.ps.flatMap pmC)
  each : ∀ i (h : i < m.ps.length), PIn w m.ps[i]
  apart : ∀ i j (hi : i < m.ps.length) (hj : j < m.ps.length), i ≠ j → ∀ k, (m.ps[i]).B k → ¬ (m.ps[j]).B k
  ctr : CtrAt w m.pb m.nx 1001
section
variable {w w' : World} {mb : Nat} {m : Im}
theorem ImAt.kind (h : ImAt w mb m) {k : Nat} (hk : m.R mb k) : ∃ cs t, w.heap[k]? = some (.cells cs t) := by
  rcases hk with rfl | rfl | hk | hk | ⟨i, hi, hk⟩
  · exact ⟨_, _, h.obj⟩
  · exact ⟨_, _, h.ctr.at_⟩
  · obtain ⟨cs, e⟩ := h.nds.heap hk; exact ⟨_, _, e⟩
  · obtain ⟨cs, e⟩ := h.pts.heap hk; exact ⟨_, _, e⟩
  · obtain ⟨cs, e⟩ := (h.each i hi).heap hk; exact ⟨_, _, e⟩
theorem ImAt.lt (h : ImAt w mb m) {k : Nat} (hk : m.R mb k) : k < w.heap.size := by
  obtain ⟨cs, t, e⟩ := h.kind hk
  exact lt_of_heap e
theorem ty_ne {w : World} {k : Nat} {cs cs' : Array Value} {t t' : TypeId} (h : w.heap[k]? = some (.cells cs t)) (h' : w.heap[k]? = some (.cells cs' t')) : t = t' := by
  rw [h] at h'
  injection h' with e
  injection e
theorem ImAt.keep (h : ImAt w mb m) {S : Nat → Prop} (t : Touch S w w') (hs : ∀ k, m.R mb k → ¬ S k) : ImAt w' mb m :=
  ⟨t.keep h.obj (hs _ (.inl rfl)), h.nds.keep t (fun k hk => hs k (.inr (.inr (.inl hk)))), h.pts.keep t (fun k hk => hs k (.inr (.inr (.inr (.inl hk))))),
   fun i hi => (h.each i hi).keep t (fun k hk => hs k (.inr (.inr (.inr (.inr ⟨i, hi, hk⟩))))), h.apart, h.ctr.keep t (hs _ (.inr (.inl rfl)))⟩
theorem ImAt.later (h : ImAt w mb m) (hb : Below w.heap.size w w') : ImAt w' mb m := h.keep (Touch.of_below (S := fun _ => False) hb) (fun _ _ h => h)
theorem ImAt.quiet (h : ImAt w mb m) (t : Touch (fun _ => False) w w') : ImAt w' mb m := h.keep t (fun _ _ h => h)
/-- The blocks of one kind are not those of another. -/
theorem ImAt.ni (h : ImAt w mb m) {k : Nat} (hk : m.nv.ownBlock = some k) : k ≠ mb ∧ k ≠ m.pb ∧ m.pv.ownBlock ≠ some k ∧ ∀ i (hi : i < m.ps.length), ¬ (m.ps[i]).B k := by
  obtain ⟨cs, e⟩ := h.nds.heap hk
  refine ⟨fun e' => ?_, fun e' => ?_, fun e' => ?_, fun i hi hB => ?_⟩
  · subst e'; exact absurd (ty_ne e h.obj) (by decide)
  · subst e'; exact absurd (ty_ne e h.ctr.at_) (by decide)
  · obtain ⟨cs', e2⟩ := h.pts.heap e'; exact absurd (ty_ne e e2) (by decide)
  · obtain ⟨cs', e2⟩ := (h.each i hi).heap hB; exact absurd (ty_ne e e2) (by decide)
theorem ImAt.pi (h : ImAt w mb m) {k : Nat} (hk : m.pv.ownBlock = some k) : k ≠ mb ∧ k ≠ m.pb ∧ m.nv.ownBlock ≠ some k ∧ ∀ i (hi : i < m.ps.length), ¬ (m.ps[i]).B k := by
  obtain ⟨cs, e⟩ := h.pts.heap hk
  refine ⟨fun e' => ?_, fun e' => ?_, fun e' => ?_, fun i hi hB => ?_⟩
  · subst e'; exact absurd (ty_ne e h.obj) (by decide)
  · subst e'; exact absurd (ty_ne e h.ctr.at_) (by decide)
  · obtain ⟨cs', e2⟩ := h.nds.heap e'; exact absurd (ty_ne e e2) (by decide)
  · obtain ⟨cs', e2⟩ := (h.each i hi).heap hB; exact absurd (ty_ne e e2) (by decide)
theorem ImAt.ii (h : ImAt w mb m) {i k : Nat} (hi : i < m.ps.length) (hk : (m.ps[i]).B k) : k ≠ mb ∧ k ≠ m.pb ∧ m.nv.ownBlock ≠ some k ∧ m.pv.ownBlock ≠ some k := by
  obtain ⟨cs, e⟩ := (h.each i hi).heap hk
  refine ⟨fun e' => ?_, fun e' => ?_, fun e' => ?_, fun e' => ?_⟩
  · subst e'; exact absurd (ty_ne e h.obj) (by decide)
  · subst e'; exact absurd (ty_ne e h.ctr.at_) (by decide)
  · obtain ⟨cs', e2⟩ := h.nds.heap e'; exact absurd (ty_ne e e2) (by decide)
  · obtain ⟨cs', e2⟩ := h.pts.heap e'; exact absurd (ty_ne e e2) (by decide)
theorem ImAt.mi (h : ImAt w mb m) : mb ≠ m.pb ∧ m.nv.ownBlock ≠ some mb ∧ m.pv.ownBlock ≠ some mb ∧ ∀ i (hi : i < m.ps.length), ¬ (m.ps[i]).B mb :=
  ⟨fun e => by have := h.ctr.at_; rw [← e] at this; exact absurd (ty_ne h.obj this) (by decide), fun e => (h.ni e).1 rfl, fun e => (h.pi e).1 rfl, fun i hi hB => (h.ii hi hB).1 rfl⟩
/-- A partition is changed. -/
theorem ImAt.upd (h : ImAt w mb m) {i : Nat} (hi : i < m.ps.length) (p' : Pm) {S : Nat → Prop} (t : Touch S w w') (hS : ∀ k, S k → m.pv.ownBlock = some k ∨ (m.ps[i]).B k)
    (hw : Wide w' 42 6 m.pv m.ps.length ((m.ps.set i p').flatMap pmC)) (hp : PIn w' p') (mv : ∀ k, p'.B k → (m.ps[i]).B k ∨ w.heap.size ≤ k) :
    ImAt w' mb ⟨m.nv, m.pv, m.pb, m.ns, m.ps.set i p', m.nx, m.ct⟩ := by
  have hm := h.mi
  refine ⟨t.keep h.obj (fun hs => ?_), h.nds.keep t (fun k hk hs => ?_), by simpa using hw, fun j hj => ?_, fun a b ha hb hab k hka hkb => ?_, h.ctr.keep t (fun hs => ?_)⟩
  · rcases hS _ hs with e | e
    · exact hm.2.2.1 e
    · exact hm.2.2.2 i hi e
  · rcases hS _ hs with e | e
    · exact (h.ni hk).2.2.1 e
    · exact (h.ni hk).2.2.2 i hi e
  · have hj' : j < m.ps.length := by simpa using hj
    show PIn w' (m.ps.set i p')[j]
    by_cases e : i = j
    · subst e; simpa using hp
    · rw [List.getElem_set_ne e]
      refine (h.each j hj').keep t (fun k hk hs => ?_)
      rcases hS _ hs with e2 | e2
      · exact (h.pi e2).2.2.2 j hj' hk
      · exact h.apart i j hi hj' e k e2 hk
  · have ha' : a < m.ps.length := by simpa using ha
    have hb' : b < m.ps.length := by simpa using hb
    change ((m.ps.set i p')[a]).B k at hka
    change ((m.ps.set i p')[b]).B k at hkb
    have old : ∀ j (hj : j < m.ps.length), j ≠ i → (m.ps[j]).B k → ¬ p'.B k := fun j hj hji hB hp' => by
      rcases mv k hp' with e | e
      · exact h.apart j i hj hi hji k hB e
      · exact absurd (h.lt (.inr (.inr (.inr (.inr ⟨j, hj, hB⟩))))) (by omega)
    by_cases e1 : i = a
    · subst e1
      rw [List.getElem_set_ne hab] at hkb
      exact old b hb' (Ne.symm hab) hkb (by simpa using hka)
    · rw [List.getElem_set_ne e1] at hka
      by_cases e2 : i = b
      · subst e2
        exact old a ha' (Ne.symm e1) hka (by simpa using hkb)
      · rw [List.getElem_set_ne e2] at hkb
        exact h.apart a b ha' hb' hab k hka hkb
  · rcases hS _ hs with e | e
    · exact (h.pi e).2.1 rfl
    · exact (h.ii hi e).2.1 rfl
/-- A node is changed. -/
theorem ImAt.updN (h : ImAt w mb m) (ns' : List Nd) (hl : ns'.length = m.ns.length) {S : Nat → Prop} (t : Touch S w w') (hS : ∀ k, S k → m.nv.ownBlock = some k)
    (hw : Wide w' 76 3 m.nv m.ns.length (ns'.flatMap ndC)) : ImAt w' mb ⟨m.nv, m.pv, m.pb, ns', m.ps, m.nx, m.ct⟩ :=
  ⟨t.keep h.obj (fun hs => h.mi.2.1 (hS _ hs)), by rw [← hl] at hw; exact hw, h.pts.keep t (fun k hk hs => (h.pi hk).2.2.1 (hS _ hs)),
   fun i hi => (h.each i hi).keep t (fun k hk hs => (h.ii hi hk).2.2.1 (hS _ hs)), h.apart, h.ctr.keep t (fun hs => (h.ni (hS _ hs)).2.1 rfl)⟩
/-- The count is changed. -/
theorem ImAt.updC (h : ImAt w mb m) (c : Int) : ImAt (w.setCell ⟨mb, 3, none⟩ (.int .i64 c)) mb ⟨m.nv, m.pv, m.pb, m.ns, m.ps, m.nx, c⟩ := by
  have t := touch_set w mb 3 (.int .i64 c)
  have hm := h.mi
  exact ⟨by rw [heap_set h.obj]; rfl, h.nds.keep t (fun k hk e => hm.2.1 (by rw [← e]; exact hk)), h.pts.keep t (fun k hk e => hm.2.2.1 (by rw [← e]; exact hk)),
   fun i hi => (h.each i hi).keep t (fun k hk e => hm.2.2.2 i hi (by rw [← e]; exact hk)), h.apart, h.ctr.keep t (fun e => hm.1 e.symm)⟩
/-- The numbers of producers go on. -/
theorem ImAt.updX (h : ImAt w mb m) (x : Int) (t : Touch (· = m.pb) w w') (hc : CtrAt w' m.pb x 1001) : ImAt w' mb ⟨m.nv, m.pv, m.pb, m.ns, m.ps, x, m.ct⟩ := by
  have hm := h.mi
  exact ⟨t.keep h.obj hm.1, h.nds.keep t (fun k hk e => (h.ni hk).2.1 e), h.pts.keep t (fun k hk e => (h.pi hk).2.1 e),
   fun i hi => (h.each i hi).keep t (fun k hk e => (h.ii hi hk).2.1 e), h.apart, hc⟩
theorem ImAt.c (h : ImAt w mb m) : w.cell? ⟨mb, 0, none⟩ = some m.nv ∧ w.cell? ⟨mb, 1, none⟩ = some m.pv ∧ w.cell? ⟨mb, 2, none⟩ = some (.pointer (some ⟨m.pb, 0, none⟩)) ∧ w.cell? ⟨mb, 3, none⟩ = some (.int .i64 m.ct) ∧ ∀ j, w.frozen? ⟨mb, j, none⟩ = false :=
  ⟨cell_of h.obj 0, cell_of h.obj 1, cell_of h.obj 2, cell_of h.obj 3, fun j => frozen_of h.obj j⟩
theorem ImAt.pc (h : ImAt w mb m) {i : Nat} (hi : i < m.ps.length) : ∃ g cap, m.pv = .slice (some ⟨g, 0, none⟩) m.ps.length cap ∧ m.ps.length ≤ cap ∧ cap ≤ maxLen ∧ (∀ f, f < 6 → w.cell? ⟨g, i * 6 + f, none⟩ = (pmC m.ps[i])[f]?) ∧ ∀ j, w.frozen? ⟨g, j, none⟩ = false := by
  obtain ⟨a, cap, e, h1, h2, h3, h4, h5⟩ := h.pts.parts
  obtain ⟨g, rfl, _, h7, h8⟩ := h5 (by omega)
  exact ⟨g, cap, e, h1, h2, fun f hf => by rw [h7 _ (by omega)]; exact flat_at pmC pmC_len m.ps i f hi hf, h8⟩
theorem ImAt.nc (h : ImAt w mb m) {i : Nat} (hi : i < m.ns.length) : ∃ g cap, m.nv = .slice (some ⟨g, 0, none⟩) m.ns.length cap ∧ m.ns.length ≤ cap ∧ cap ≤ maxLen ∧ (∀ f, f < 3 → w.cell? ⟨g, i * 3 + f, none⟩ = (ndC m.ns[i])[f]?) ∧ ∀ j, w.frozen? ⟨g, j, none⟩ = false := by
  obtain ⟨a, cap, e, h1, h2, h3, h4, h5⟩ := h.nds.parts
  obtain ⟨g, rfl, _, h7, h8⟩ := h5 (by omega)
  exact ⟨g, cap, e, h1, h2, fun f hf => by rw [h7 _ (by omega)]; exact flat_at ndC ndC_len m.ns i f hi hf, h8⟩
end
/-- What a call leaves. -/
structure ImTo (w : World) (mb : Nat) (m : Im) (w' : World) (m' : Im) : Prop where
  at_ : ImAt w' mb m'
  touch : Touch (m.R mb) w w'
  moved : ∀ k, m'.R mb k → m.R mb k ∨ w.heap.size ≤ k
theorem ImTo.refl {w : World} {mb : Nat} {m : Im} (h : ImAt w mb m) : ImTo w mb m w m := ⟨h, Touch.refl _ _, fun _ h => .inl h⟩
theorem touch_new {S T : Nat → Prop} {a b c : World} (h : Touch S a b) (k : Touch T b c) (hT : ∀ x, T x → S x ∨ a.heap.size ≤ x) : Touch S a c :=
  ⟨k.os.trans h.os, k.tape.trans h.tape, k.output.trans h.output, Nat.le_trans h.size k.size, fun x hx hs => (k.block x (Nat.lt_of_lt_of_le hx h.size) (fun ht => by rcases hT x ht with e | e; exact hs e; omega)).trans (h.block x hx hs)⟩
theorem ImTo.trans {w w1 w2 : World} {mb : Nat} {m m1 m2 : Im} (h : ImTo w mb m w1 m1) (k : ImTo w1 mb m1 w2 m2) : ImTo w mb m w2 m2 :=
  ⟨k.at_, touch_new h.touch k.touch h.moved, fun x hx => by
    rcases k.moved x hx with e | e
    · exact h.moved x e
    · exact .inr (Nat.le_trans h.touch.size e)⟩
/-- Other blocks are laid meanwhile. -/
theorem ImTo.after {w0 w w1 : World} {mb : Nat} {m m1 : Im} (hb : Below w0.heap.size w0 w) (h : ImTo w mb m w1 m1) : ImTo w0 mb m w1 m1 :=
  ⟨h.at_, touch_new (Touch.of_below hb) h.touch (fun _ h => .inl h), fun k hk => (h.moved k hk).imp id (Nat.le_trans hb.size)⟩
theorem ImTo.quiet {w w1 w2 : World} {mb : Nat} {m m1 : Im} (h : ImTo w mb m w1 m1) (t : Touch (fun _ => False) w1 w2) : ImTo w mb m w2 m1 :=
  ⟨h.at_.quiet t, touch_new h.touch t (fun _ h => h.elim), h.moved⟩
end Go.Proofs.Ytfakjcaolpmkeaa
