/-
  epochs' cache in plain words, and its calls New, Last, Cut, Assign, End. Conditions: the cache is one; at most 8 * 10^12 epochs.
-/
import Derived.Test.YtfpcocagifmpbaaWd8
import Derived.BigQuiet
import Derived.Deep.RegionWith
namespace Go.Proofs.Ytfpcocagifmpbaa
open Go.RowKit
set_option linter.unusedVariables false

section
variable {α : Type} (f : α → List Value) {m : Nat} (hm : ∀ x, (f x).length = m)
include hm
theorem flat_len (l : List α) : (l.flatMap f).length = l.length * m := by
  induction l with
  | nil => simp
  | cons x r ih => rw [List.flatMap_cons, List.length_append, hm, ih, List.length_cons, Nat.add_mul]; omega
theorem flat_at : ∀ (l : List α) (i j : Nat) (hi : i < l.length), j < m → (l.flatMap f)[i * m + j]? = (f l[i])[j]? := by
  intro l
  induction l with
  | nil => intro i j hi; cases hi
  | cons x r ih =>
    intro i j hi hj
    rw [List.flatMap_cons]
    cases i with
    | zero => rw [Nat.zero_mul, Nat.zero_add, List.getElem?_append_left (by rw [hm]; exact hj)]; rfl
    | succ i =>
      have e : (i + 1) * m + j = (f x).length + (i * m + j) := by rw [hm, Nat.add_mul]; omega
      rw [e, List.getElem?_append_right (by omega), Nat.add_sub_cancel_left]
      exact ih i j (by simpa using hi) hj
theorem flat_take : ∀ (l : List α) (k : Nat), (l.take k).flatMap f = (l.flatMap f).take (k * m) := by
  intro l
  induction l with
  | nil => intro k; simp
  | cons x r ih =>
    intro k
    cases k with
    | zero => simp
    | succ k =>
      have e : (k + 1) * m = (f x).length + k * m := by rw [hm, Nat.add_mul]; omega
      rw [List.take_succ_cons, List.flatMap_cons, List.flatMap_cons, ih, e, List.take_length_add_append]
end

/-- An epoch, and where it begins. -/
abbrev Pr := Int × Int
abbrev prC (p : Pr) : List Value := [.int .i64 p.1, .int .i64 p.2]
theorem prC_len (p : Pr) : (prC p).length = 2 := rfl
theorem below_drewN3 {B : Nat} {w0 w : World} (h : Below B w0 w) (n : Nat) : Below B w0 (w.drewN n) := h.trans ⟨rfl, rfl, rfl, Nat.le_refl _, fun _ _ => rfl⟩
theorem touch_new {S R : Nat → Prop} {w w1 w2 : World} (t1 : Touch S w w1) (t2 : Touch R w1 w2) (h : ∀ k, R k → S k ∨ w.heap.size ≤ k) : Touch S w w2 :=
  ⟨t2.os.trans t1.os, t2.tape.trans t1.tape, t2.output.trans t1.output, Nat.le_trans t1.size t2.size, fun k hk hs => by
    rw [t2.block k (Nat.lt_of_lt_of_le hk t1.size) (fun hr => by rcases h k hr with e | e; exact hs e; omega), t1.block k hk hs]⟩

theorem wrap_low {i : Int} (h0 : 0 ≤ i) (h1 : i ≤ 9223372036854775807) : IntKind.i64.wrap i = i := by
  simp [IntKind.wrap, IntKind.bits, IntKind.signed]
  omega

/-- What Last tells. -/
def lastE (l : List Pr) : Int × Int × Bool := match l.getLast? with | none => (0, 0, false) | some p => (p.1, p.2, true)
theorem lastE_nil : lastE [] = (0, 0, false) := rfl
theorem lastE_snoc (l : List Pr) (p : Pr) : lastE (l ++ [p]) = (p.1, p.2, true) := by simp [lastE]
theorem lastE_at {l : List Pr} {k : Nat} (h : l.length = k + 1) : lastE l = ((l[k]'(by omega)).1, (l[k]'(by omega)).2, true) := by
  have h0 : l ≠ [] := by intro e; subst e; simp at h
  unfold lastE
  rw [List.getLast?_eq_some_getLast h0, List.getLast_eq_getElem]
  have e : l.length - 1 = k := by omega
  simp only [e]
/-- Epochs and beginnings rise. -/
def Ris (l : List Pr) : Prop := l.Pairwise (fun a b => a.1 < b.1 ∧ a.2 < b.2)
/-- What a Cut leaves. -/
def cutE (at_ : Int) (l : List Pr) : List Pr := l.filter (fun p => decide (p.2 < at_))
theorem Ris.cut {l : List Pr} (h : Ris l) (a : Int) : Ris (cutE a l) := List.Pairwise.filter _ h
theorem Ris.at {l : List Pr} (h : Ris l) {i j : Nat} (hij : i < j) (hj : j < l.length) : (l[i]'(by omega)).1 < l[j].1 ∧ (l[i]'(by omega)).2 < l[j].2 := List.pairwise_iff_getElem.1 h i j (by omega) hj hij
/-- Where a Cut's loop stops. -/
theorem cut_take {l : List Pr} (h : Ris l) {a : Int} {k : Nat} (hk : k ≤ l.length) (h1 : ∀ i (hi : i < l.length), k ≤ i → a ≤ l[i].2) (h2 : ∀ j (hj : j < l.length), k = j + 1 → l[j].2 < a) : l.take k = cutE a l := by
  have e : l = l.take k ++ l.drop k := (List.take_append_drop k l).symm
  have e1 : cutE a (l.take k) = l.take k := by
    refine List.filter_eq_self.2 (fun p hp => ?_)
    obtain ⟨i, hi, rfl⟩ := List.getElem_of_mem hp
    have hik : i < k := by rw [List.length_take] at hi; omega
    rw [List.getElem_take]
    obtain ⟨j, rfl⟩ : ∃ j, k = j + 1 := ⟨k - 1, by omega⟩
    have hj := h2 j (by omega) rfl
    by_cases hij : i = j
    · subst hij; simpa using hj
    · have := (h.at (i := i) (j := j) (by omega) (by omega)).2
      simp; omega
  have e2 : cutE a (l.drop k) = [] := by
    refine List.filter_eq_nil_iff.2 (fun p hp => ?_)
    obtain ⟨i, hi, rfl⟩ := List.getElem_of_mem hp
    rw [List.getElem_drop]
    have := h1 (k + i) (by rw [List.length_drop] at hi; omega) (by omega)
    simpa using this
  conv => rhs; rw [e]
  unfold cutE at *
  rw [List.filter_append, e1, e2, List.append_nil]
/-- What Assign answers, and leaves. -/
def asgE (ep a : Int) (l : List Pr) : Int × List Pr :=
  if ep < 0 ∨ a < 0 then (1, l) else match (lastE l).2.2 with
    | false => (0, [(ep, a)])
    | true => if ep < (lastE l).1 then (5, l) else if ep = (lastE l).1 then (0, l) else (0, cutE a l ++ [(ep, a)])
/-- What End tells, of a list from its end on. -/
def endR (ep : Int) : List Pr → Int → Int × Int × Bool
  | [], _ => (0, 0, false)
  | p :: r, en => if p.1 ≤ ep then (p.1, en, true) else endR ep r p.2
def endE (l : List Pr) (ep en : Int) : Int × Int × Bool := endR ep l.reverse en

/-- A cache at a block: its row. -/
structure CaAt (B : Nat) (w : World) (cb : Nat) (v : Value) (l : List Pr) : Prop where
  box : w.heap[cb]? = some (.cells #[v] 50)
  row : Wide w 52 2 v l.length (l.flatMap prC)
  lo : B ≤ cb
  new : ∀ k, v.ownBlock = some k → B ≤ k
section
variable {B : Nat} {w w' : World} {cb : Nat} {v : Value} {l : List Pr}
theorem CaAt.ne (h : CaAt B w cb v l) : v.ownBlock ≠ some cb := fun e => by
  obtain ⟨cs, hc⟩ := h.row.heap e
  rw [h.box] at hc
  exact absurd (Obj.cells.inj (Option.some.inj hc)).2.1 (by decide)
theorem CaAt.lt (h : CaAt B w cb v l) : cb < w.heap.size := lt_of_heap h.box
theorem CaAt.keep {S : Nat → Prop} (h : CaAt B w cb v l) (t : Touch S w w') (h1 : ¬ S cb) (h2 : ∀ k, v.ownBlock = some k → ¬ S k) : CaAt B w' cb v l := ⟨t.keep h.box h1, h.row.keep t h2, h.lo, h.new⟩
theorem CaAt.later (h : CaAt B w cb v l) (hb : Below w.heap.size w w') : CaAt B w' cb v l := ⟨below_keep hb h.box, h.row.later hb, h.lo, h.new⟩
theorem CaAt.cell (h : CaAt B w cb v l) : w.cell? ⟨cb, 0, none⟩ = some v := by rw [cell_of h.box]; rfl
theorem CaAt.frz (h : CaAt B w cb v l) (j : Nat) : w.frozen? ⟨cb, j, none⟩ = false := frozen_of h.box j
/-- Its blocks. -/
def CaOw (cb : Nat) (v : Value) : Nat → Prop := fun k => k = cb ∨ v.ownBlock = some k
end

theorem begin_info : ∃ i z, Try.prog.info? 52 = some i ∧ i.zero = some z ∧ i.size = 2 ∧ i.bytes = 16 ∧ z.cells.size = 2 := by
  have h : (Try.prog.info? 52).map (fun i => (i.zero.map (fun z => z.cells.size), i.size, i.bytes)) = some (some 2, 2, 16) := by kernel_rfl
  cases hi : Try.prog.info? 52 with
  | none => rw [hi] at h; cases h
  | some i =>
    rw [hi] at h
    simp only [Option.map_some, Option.some.injEq, Prod.mk.injEq] at h
    obtain ⟨h1, h2, h3⟩ := h
    cases hz : i.zero with
    | none => rw [hz] at h1; cases h1
    | some z => rw [hz] at h1; exact ⟨i, z, rfl, hz, h2, h3, by simpa using h1⟩

abbrev tup (x : Int × Int × Bool) : Value := .tuple #[.int .i64 x.1, .int .i64 x.2.1, .bool x.2.2]
def AnsPost (w : World) (v : Value) (e : Ending) (w' : World) : Prop := e = .returned v ∧ Below w.heap.size w w'
theorem AnsPost.mk {w w' : World} {v v' : Value} (h : v' = v) (hb : Below w.heap.size w w') : AnsPost w v (.returned v') w' := ⟨by rw [h], hb⟩

theorem new10_any (w : World) : Calls Try.prog 9 #[] w fun e w' => e = .returned (.pointer (some ⟨w.heap.size, 0, none⟩)) ∧ w' = w.alloc (.cells #[.slice none 0 0] 50) := by
  go_enter Try.func9, Try.ntmps9
  go_wp2
  go_returns
  exact ⟨rfl, rfl⟩
theorem CaAt.fresh (w : World) {B : Nat} (hB : B ≤ w.heap.size) : CaAt B (w.alloc (.cells #[.slice none 0 0] 50)) w.heap.size (.slice none 0 0) [] := ⟨heap_new _ _, Wide.nil _ _ _, hB, fun k hk => by simp [Value.ownBlock] at hk⟩

section
variable {B : Nat} {w : World} {cb : Nat} {v : Value} {l : List Pr}
/-- A cache's row, and the cells of each epoch. -/
theorem CaAt.cells (h : CaAt B w cb v l) : ∃ a cap, v = .slice a l.length cap ∧ l.length ≤ cap ∧ cap ≤ maxLen ∧ (0 < l.length → ∃ g, a = some ⟨g, 0, none⟩ ∧ g < w.heap.size ∧ ∀ i (hi : i < l.length), w.cell? ⟨g, i * 2, none⟩ = some (.int .i64 l[i].1) ∧ w.cell? ⟨g, i * 2 + 1, none⟩ = some (.int .i64 l[i].2)) := by
  obtain ⟨a, cap, hv, h1, h2, _, _, hp⟩ := h.row.parts
  refine ⟨a, cap, hv, h1, h2, fun h0 => ?_⟩
  obtain ⟨g, ha, hg, hc, _⟩ := hp h0
  refine ⟨g, ha, hg, fun i hi => ⟨?_, ?_⟩⟩
  · rw [hc (i * 2) (by omega)]
    have := flat_at prC prC_len l i 0 hi (by omega)
    rw [Nat.add_zero] at this
    rw [this]; rfl
  · rw [hc (i * 2 + 1) (by omega), flat_at prC prC_len l i 1 hi (by omega)]; rfl

theorem last_nil10 (w : World) : Calls Try.prog 19 #[.pointer none] w fun e w' => AnsPost w (tup (0, 0, false)) e w' := by
  go_enter Try.func19, Try.ntmps19
  go_wp2
  go_returns
  exact ⟨rfl, Below.refl _ _⟩
set_option maxRecDepth 100000 in
theorem last_any (h : CaAt B w cb v l) :
    Calls Try.prog 19 #[.pointer (some ⟨cb, 0, none⟩)] w fun e w' => AnsPost w (tup (lastE l)) e w' := by
  have c0 := h.cell
  obtain ⟨a, cap, rfl, hcap, hmax, hcells⟩ := h.cells
  unfold maxLen at hmax
  have hlt := h.lt
  by_cases h0 : 0 < l.length
  · obtain ⟨g, rfl, hg, hc⟩ := hcells h0
    obtain ⟨k, hk⟩ : ∃ k, l.length = k + 1 := ⟨l.length - 1, by omega⟩
    have LE := hide (lastE_at hk)
    obtain ⟨y0, y1⟩ := hc k (by omega)
    generalize (l[k]'(by omega)).1 = E at *
    generalize (l[k]'(by omega)).2 = A at *
    generalize lastE l = R at *
    clear h hc hcells
    generalize l.length = n at *
    have hn2 : ¬ (n : Int) = 0 := by omega
    have hn3 : (k : Int) < (n : Int) := by omega
    have hn4 : (0 : Int) ≤ (k : Int) := by omega
    have hn5 : IntKind.i64.wrap ((n : Int) - 1) = (k : Int) := by rw [show (n : Int) - 1 = (k : Int) by omega]; exact wrap_low (by omega) (by omega)
    clear hk
    go_enter Try.func19, Try.ntmps19
    go_wp2_with fail
    go_region
    all_goals go_wp2_with fail
    all_goals go_quiet (fail)
    all_goals go_wp2
    all_goals go_returns
    all_goals exact AnsPost.mk (by rw [unhide LE]; rfl) (below_drewN3 (by first | exact (Below.refl _ _).alloc (Nat.le_refl _) _ | exact ((Below.refl _ _).alloc (Nat.le_refl _) _).drew | exact ((Below.refl _ _).drew).alloc (Nat.le_refl _) _ | go_grown) _)
  · have hl : l = [] := List.eq_nil_of_length_eq_zero (by omega)
    subst hl
    clear h hcells
    simp only [List.length_nil] at c0
    go_enter Try.func19, Try.ntmps19
    go_wp2
    go_returns
    exact ⟨rfl, Below.refl _ _⟩
end
end Go.Proofs.Ytfpcocagifmpbaa
