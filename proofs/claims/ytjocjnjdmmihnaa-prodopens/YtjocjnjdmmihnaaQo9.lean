/-
  Which transactions a log leaves open, in plain words. No conditions.
-/
import Derived.Test.YtjocjnjdmmihnaaQr9
namespace Go.Proofs.Ytjocjnjdmmihnaa
open Go.RowKit
set_option linter.unusedVariables false

/-- Where the open transaction of a producer begins, by the log. -/
def opF (s : Nat) (o : Option Int) (e : En) : Option Int := if e.b.pid = s then (if e.b.ctl = true then none else if e.b.txn = true then (match o with | none => some e.b.base | some x => some x) else o) else o
def opL (l : List En) (s : Nat) : Option Int := l.foldl (opF s) none
theorem opL_snoc (l : List En) (e : En) (s : Nat) : opL (l ++ [e]) s = opF s (opL l s) e := by unfold opL; rw [List.foldl_append]; rfl
theorem opL_none {l : List En} {s : Nat} (h : ∀ e ∈ l, e.b.pid ≠ s) : opL l s = none := by
  unfold opL
  have : ∀ o, l.foldl (opF s) o = o := by
    induction l with
    | nil => intro o; rfl
    | cons x r ih =>
      intro o
      rw [List.foldl_cons]
      have hx : opF s o x = o := by unfold opF; rw [if_neg (h x (List.mem_cons_self ..))]
      rw [hx]
      exact ih (fun e he => h e (List.mem_cons_of_mem _ he)) o
  exact this none
abbrev opK (k : Kn) : Option Int := if k.op = true then some k.fi else none
structure KOp (L : Lg) : Prop where
  op : ∀ s k, s ≠ 0 → L.K s = some k → opK k = opL L.log s
theorem KOp.zero : KOp ⟨fun _ => none, [], 0⟩ := ⟨fun _ _ _ h => (by cases h)⟩
theorem KOp.step {L : Lg} (h : KInv L) (g : KOp L) (e : En) : KOp (stepL L e) := by
  unfold stepL
  split
  · rename_i ht
    by_cases h0 : e.b.pid = 0
    · have hK : putK L.K (atB e.b L.at_) = L.K := if_pos h0
      rw [hK]
      refine ⟨fun s k hs hk => ?_⟩
      show opK k = opL (L.log ++ [atE e L.at_]) s
      rw [opL_snoc]
      unfold opF
      rw [if_neg (fun hh : (atE e L.at_).b.pid = s => hs (by rw [← hh]; exact h0))]
      exact g.op s k hs hk
    · have hK : putK L.K (atB e.b L.at_) = fun s => if s = e.b.pid then some (apK (atB e.b L.at_) (atK (L.K e.b.pid) e.b.pep)) else L.K s := if_neg h0
      rw [hK]
      have hat : opK (atK (L.K e.b.pid) e.b.pep) = opL L.log e.b.pid := by
        cases hk : L.K e.b.pid with
        | none =>
          rw [opL_none (h.non _ h0 hk)]
          rfl
        | some k =>
          rw [← g.op _ k h0 hk]
          show opK (if k.ep < e.b.pep then (⟨e.b.pep, 0, k.op, k.fi, []⟩ : Kn) else k) = opK k
          split <;> rfl
      have kop : opK (apK (atB e.b L.at_) (atK (L.K e.b.pid) e.b.pep)) = opL (L.log ++ [atE e L.at_]) e.b.pid := by
        rw [opL_snoc, ← hat]
        generalize atK (L.K e.b.pid) e.b.pep = k
        obtain ⟨ep, nx, op, fi, ls⟩ := k
        unfold opF apK opK
        rw [if_pos (show (atE e L.at_).b.pid = e.b.pid from rfl)]
        show (if (if e.b.ctl = true then (⟨ep, nx, false, if op = true then 0 else fi, ls⟩ : Kn) else ⟨ep, IntKind.i64.wrap (e.b.seq + (e.b.vs.length : Int)), op || e.b.txn, if e.b.txn = true ∧ op = false then (L.at_ : Int) else fi, wnd ls ++ [snB (atB e.b L.at_)]⟩).op = true then some (if e.b.ctl = true then (⟨ep, nx, false, if op = true then 0 else fi, ls⟩ : Kn) else ⟨ep, IntKind.i64.wrap (e.b.seq + (e.b.vs.length : Int)), op || e.b.txn, if e.b.txn = true ∧ op = false then (L.at_ : Int) else fi, wnd ls ++ [snB (atB e.b L.at_)]⟩).fi else none) = if e.b.ctl = true then none else if e.b.txn = true then (match (if op = true then some fi else none) with | none => some (L.at_ : Int) | some x => some x) else if op = true then some fi else none
        cases e.b.ctl <;> cases e.b.txn <;> cases op <;> rfl
      generalize apK (atB e.b L.at_) (atK (L.K e.b.pid) e.b.pep) = kk at *
      refine ⟨fun s k hs hk => ?_⟩
      have hk : (if s = e.b.pid then some kk else L.K s) = some k := hk
      show opK k = opL (L.log ++ [atE e L.at_]) s
      by_cases hse : s = e.b.pid
      · rw [if_pos hse] at hk
        cases hk
        rw [hse]
        exact kop
      · rw [if_neg hse] at hk
        rw [opL_snoc]
        unfold opF
        rw [if_neg (fun hh : (atE e L.at_).b.pid = s => hse hh.symm)]
        exact g.op s k hs hk
  · exact g
theorem KOp.laid (es : List En) {k : Nat} (h : k ≤ es.length) : KOp (laidL es k) := by
  induction k with
  | zero => exact KOp.zero
  | succ k ih =>
    rw [laidL_succ (by omega)]
    exact KOp.step (KInv.laid es (by omega)) (ih (by omega)) _
/-- Number i of a log is a batch of a transaction that no marker has closed. -/
def openAt (l : List En) (i : Nat) (e : En) : Prop := l[i]? = some e ∧ e.b.txn = true ∧ e.b.ctl = false ∧ ∀ k c, i < k → l[k]? = some c → ¬ (c.b.ctl = true ∧ c.b.pid = e.b.pid)
theorem at_lt {l : List En} {i : Nat} {e : En} (h : l[i]? = some e) : i < l.length := (List.getElem?_eq_some_iff.1 h).1
theorem at_snoc {l : List En} {x e : En} {i : Nat} (h : (l ++ [x])[i]? = some e) : (i < l.length ∧ l[i]? = some e) ∨ (i = l.length ∧ x = e) := by
  by_cases hi : i < l.length
  · rw [List.getElem?_append_left hi] at h
    exact .inl ⟨hi, h⟩
  · have h2 := at_lt h
    rw [List.length_append, List.length_singleton] at h2
    have h3 : i = l.length := by omega
    subst h3
    rw [List.getElem?_append_right (Nat.le_refl _), Nat.sub_self] at h
    exact .inr ⟨rfl, by simpa using h⟩
theorem openAt_left {l : List En} {x e : En} {i : Nat} (h : openAt (l ++ [x]) i e) (hi : i < l.length) : openAt l i e ∧ ¬ (x.b.ctl = true ∧ x.b.pid = e.b.pid) := by
  obtain ⟨h1, h2, h3, h4⟩ := h
  rw [List.getElem?_append_left hi] at h1
  refine ⟨⟨h1, h2, h3, fun k c hk hc => h4 k c hk (by rw [List.getElem?_append_left (at_lt hc)]; exact hc)⟩, h4 l.length x hi (by simp)⟩
theorem openAt_right {l : List En} {x e : En} {i : Nat} (h : openAt l i e) (hx : ¬ (x.b.ctl = true ∧ x.b.pid = e.b.pid)) : openAt (l ++ [x]) i e := by
  obtain ⟨h1, h2, h3, h4⟩ := h
  refine ⟨by rw [List.getElem?_append_left (at_lt h1)]; exact h1, h2, h3, fun k c hk hc => ?_⟩
  rcases at_snoc hc with ⟨_, e⟩ | ⟨_, rfl⟩
  · exact h4 k c hk e
  · exact hx
/-- What opL tells. -/
structure OpS (l : List En) (s : Nat) : Prop where
  non : opL l s = none → ∀ i e, openAt l i e → e.b.pid ≠ s
  hav : ∀ x, opL l s = some x → ∃ i e, openAt l i e ∧ e.b.pid = s ∧ e.b.base = x ∧ ∀ j d, j < i → openAt l j d → d.b.pid ≠ s
theorem OpS.all (l : List En) (s : Nat) : OpS l s := by
  induction hn : l.length generalizing l with
  | zero =>
    obtain rfl := List.eq_nil_of_length_eq_zero hn
    exact ⟨fun _ i e h => absurd (at_lt h.1) (Nat.not_lt_zero _), fun x h => by cases h⟩
  | succ n ih =>
    obtain ⟨r, x, rfl⟩ : ∃ r x, l = r ++ [x] := ⟨l.dropLast, l.getLast (by intro h; rw [h] at hn; cases hn), (List.dropLast_concat_getLast (by intro h; rw [h] at hn; cases hn)).symm⟩
    have hr : r.length = n := by simpa using hn
    have I := ih r hr
    have hlast : ∀ i e, openAt (r ++ [x]) i e → ¬ i < r.length → i = r.length ∧ x = e := fun i e h hi => by
      rcases at_snoc h.1 with ⟨a, _⟩ | b
      · exact absurd a hi
      · exact b
    have hs := opL_snoc r x s
    by_cases hp : x.b.pid = s
    · by_cases hc : x.b.ctl = true
      · have e1 : opL (r ++ [x]) s = none := by rw [hs]; unfold opF; rw [if_pos hp, if_pos hc]
        refine ⟨fun _ i e ho hps => ?_, fun y hy => by rw [e1] at hy; cases hy⟩
        by_cases hi : i < r.length
        · exact (openAt_left ho hi).2 ⟨hc, hp.trans hps.symm⟩
        · obtain ⟨_, rfl⟩ := hlast i e ho hi
          rw [ho.2.2.1] at hc
          cases hc
      · have hc' : x.b.ctl = false := by simpa using hc
        by_cases ht : x.b.txn = true
        · cases ho : opL r s with
          | none =>
            have e1 : opL (r ++ [x]) s = some x.b.base := by rw [hs, ho]; unfold opF; rw [if_pos hp, if_neg hc, if_pos ht]
            refine ⟨fun h => (by rw [e1] at h; cases h), fun y hy => ?_⟩
            rw [e1] at hy
            cases hy
            refine ⟨r.length, x, ⟨by simp, ht, hc', fun k c hk hkc => ?_⟩, hp, rfl, fun j d hj hd => I.non ho j d (openAt_left hd hj).1⟩
            have := at_lt hkc
            rw [List.length_append, List.length_singleton] at this
            omega
          | some z =>
            have e1 : opL (r ++ [x]) s = some z := by rw [hs, ho]; unfold opF; rw [if_pos hp, if_neg hc, if_pos ht]
            refine ⟨fun h => (by rw [e1] at h; cases h), fun y hy => ?_⟩
            rw [e1] at hy
            cases hy
            obtain ⟨i, e, q1, q2, q3, q4⟩ := I.hav z ho
            exact ⟨i, e, openAt_right q1 (fun hh => hc hh.1), q2, q3, fun j d hj hd => q4 j d hj (openAt_left hd (by have := at_lt q1.1; omega)).1⟩
        · have e1 : opL (r ++ [x]) s = opL r s := by rw [hs]; unfold opF; rw [if_pos hp, if_neg hc, if_neg ht]
          refine ⟨fun h i e ho => ?_, fun y hy => ?_⟩
          · rw [e1] at h
            by_cases hi : i < r.length
            · exact I.non h i e (openAt_left ho hi).1
            · obtain ⟨_, rfl⟩ := hlast i e ho hi
              exact absurd ho.2.1 ht
          · rw [e1] at hy
            obtain ⟨i, e, q1, q2, q3, q4⟩ := I.hav y hy
            exact ⟨i, e, openAt_right q1 (fun hh => hc hh.1), q2, q3, fun j d hj hd => q4 j d hj (openAt_left hd (by have := at_lt q1.1; omega)).1⟩
    · have e1 : opL (r ++ [x]) s = opL r s := by rw [hs]; unfold opF; rw [if_neg hp]
      refine ⟨fun h i e ho => ?_, fun y hy => ?_⟩
      · rw [e1] at h
        by_cases hi : i < r.length
        · exact I.non h i e (openAt_left ho hi).1
        · obtain ⟨_, rfl⟩ := hlast i e ho hi
          exact hp
      · rw [e1] at hy
        obtain ⟨i, e, q1, q2, q3, q4⟩ := I.hav y hy
        exact ⟨i, e, openAt_right q1 (fun hh => hp (hh.2.trans q2)), q2, q3, fun j d hj hd => q4 j d hj (openAt_left hd (by have := at_lt q1.1; omega)).1⟩
end Go.Proofs.Ytjocjnjdmmihnaa
