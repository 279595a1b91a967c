/-
  What Known and Unstable tell of a log's open transactions, in plain words. No conditions.
-/
import Derived.Test.YtjocjnjdmmihnaaQo9
import Derived.Test.YtjocjnjdmmihnaaQs9
import Derived.Test.YtjocjnjdmmihnaaUn9
namespace Go.Proofs.Ytjocjnjdmmihnaa
open Go.RowKit
set_option linter.unusedVariables false

structure KBa (L : Lg) : Prop where
  lo : ∀ (i : Nat) (e : En), L.log[i]? = some e → 0 ≤ e.b.base ∧ e.b.base ≤ (L.at_ : Int)
  up : ∀ (i j : Nat) (e d : En), i ≤ j → L.log[i]? = some e → L.log[j]? = some d → e.b.base ≤ d.b.base
  k0 : L.K 0 = none
theorem KBa.zero : KBa ⟨fun _ => none, [], 0⟩ := ⟨fun i e h => by simp at h, fun i j e d _ h => by simp at h, rfl⟩
theorem KBa.step {L : Lg} (g : KBa L) (e : En) : KBa (stepL L e) := by
  unfold stepL
  split
  · refine ⟨fun i x h => ?_, fun i j x y hij hx hy => ?_, ?_⟩
    · rcases at_snoc h with ⟨_, q⟩ | ⟨_, rfl⟩
      · have := g.lo i x q
        exact ⟨this.1, by show x.b.base ≤ ((L.at_ + szB e.b : Nat) : Int); omega⟩
      · exact ⟨by show (0 : Int) ≤ (L.at_ : Int); omega, by show (L.at_ : Int) ≤ ((L.at_ + szB e.b : Nat) : Int); omega⟩
    · rcases at_snoc hy with ⟨a, q⟩ | ⟨a, rfl⟩
      · rcases at_snoc hx with ⟨_, r⟩ | ⟨c, _⟩
        · exact g.up i j x y hij r q
        · omega
      · rcases at_snoc hx with ⟨_, r⟩ | ⟨_, rfl⟩
        · exact (g.lo i x r).2
        · exact Int.le_refl _
    · show putK L.K (atB e.b L.at_) 0 = none
      unfold putK
      split
      · exact g.k0
      · rename_i hp
        show (if (0 : Nat) = (atB e.b L.at_).pid then _ else L.K 0) = none
        rw [if_neg (fun h => hp h.symm)]
        exact g.k0
  · exact g
theorem KBa.laid (es : List En) {k : Nat} (h : k ≤ es.length) : KBa (laidL es k) := by
  induction k with
  | zero => exact KBa.zero
  | succ k ih =>
    rw [laidL_succ (by omega)]
    exact (ih (by omega)).step _
theorem chk_txn {b : Bt} (h : chk b = 0) (ht : b.txn = true) : b.pid ≠ 0 := by
  intro h0
  unfold chk at h
  split at h
  · omega
  · split at h
    · omega
    · rename_i hk
      exact hk (.inl ⟨h0, .inl ht⟩)
/-- Of an open one. -/
theorem open_known {L : Lg} (h : KInv L) (g : KLs L) (o : KOp L) (b : KBa L) {i : Nat} {e : En} (hi : openAt L.log i e) : ∃ k i' e', L.K e.b.pid = some k ∧ k.op = true ∧ e.b.pid ≠ 0 ∧ openAt L.log i' e' ∧ e'.b.pid = e.b.pid ∧ k.fi = e'.b.base ∧ i' ≤ i ∧ 0 ≤ k.fi ∧ k.fi ≤ e.b.base := by
  have hm : e ∈ L.log := List.mem_of_getElem? hi.1
  have h0 : e.b.pid ≠ 0 := chk_txn (g.ok e hm) hi.2.1
  cases hk : L.K e.b.pid with
  | none => exact absurd rfl (h.non _ h0 hk e hm)
  | some k =>
    have ho := o.op _ k h0 hk
    cases hl : opL L.log e.b.pid with
    | none => exact absurd rfl ((OpS.all L.log e.b.pid).non hl i e hi)
    | some x =>
      obtain ⟨i', e', q1, q2, q3, q4⟩ := (OpS.all L.log e.b.pid).hav x hl
      rw [hl] at ho
      have hop : k.op = true := by
        cases hko : k.op
        · unfold opK at ho; rw [hko] at ho; cases ho
        · rfl
      have hfi : k.fi = x := by unfold opK at ho; rw [if_pos hop] at ho; exact Option.some.inj ho
      have hle : i' ≤ i := by
        by_cases hc : i < i'
        · exact absurd rfl (q4 i e hc hi)
        · omega
      exact ⟨k, i', e', rfl, hop, h0, q1, q2, by rw [hfi, q3], hle, by rw [hfi, ← q3]; exact (b.lo i' e' q1.1).1, by rw [hfi, ← q3]; exact b.up i' i e' e hle q1.1 hi.1⟩
/-- What Unstable tells. -/
theorem open_unst {L : Lg} (h : KInv L) (g : KLs L) (o : KOp L) (b : KBa L) {w : World} {tb n c : Nat} {mv av : Value} {m : Pps} {R : Nat → Prop} (t : Tb w tb mv av m L.K n c R) {fi : Int} {op : Bool} (u : UnS m [] fi op) :
    (∀ i e, openAt L.log i e → (∀ j d, j < i → ¬ openAt L.log j d) → op = true ∧ fi = e.b.base) ∧ ((∀ i e, ¬ openAt L.log i e) → op = false ∧ fi = 0) := by
  have back : ∀ p ∈ m, p.2.op = true → ∃ i e, openAt L.log i e ∧ e.b.base = p.2.fi := fun p hp ho => by
    obtain ⟨s, q⟩ := p
    obtain ⟨k, k1, k2, _⟩ := t.hav s q hp
    have hs : s ≠ 0 := fun hs => by rw [hs, b.k0] at k1; cases k1
    have hk := o.op s k hs k1
    have hko : k.op = true := by rw [← k2.op]; exact ho
    unfold opK at hk
    rw [if_pos hko] at hk
    obtain ⟨i, e, q1, _, q3, _⟩ := (OpS.all L.log s).hav k.fi hk.symm
    exact ⟨i, e, q1, by rw [q3, ← k2.fi]⟩
  refine ⟨fun i e hi hmin => ?_, fun hno => ?_⟩
  · obtain ⟨k, i', e', k1, k2, k3, k4, k5, k6, k7, k8, k9⟩ := open_known h g o b hi
    have hii : i' = i := by
      by_cases hc : i' < i
      · exact absurd k4 (hmin i' e' hc)
      · omega
    subst hii
    have hee : e' = e := Option.some.inj (k4.1.symm.trans hi.1)
    rw [hee] at k6
    have hpm : ∃ q, (e.b.pid, q) ∈ m ∧ q.op = true ∧ q.fi = e.b.base := by
      cases hq : patx m e.b.pid with
      | none => have := t.non _ hq; rw [k1] at this; cases this
      | some q =>
        have hmem := pat_some hq
        obtain ⟨k', a1, a2, _⟩ := t.hav _ q hmem
        rw [k1] at a1
        cases a1
        exact ⟨q, hmem, by rw [a2.op]; exact k2, by rw [a2.fi]; exact k6⟩
    obtain ⟨q, hq1, hq2, hq3⟩ := hpm
    rcases u with ⟨_, _, u3⟩ | ⟨u1, ⟨p, hp, hpo, hpf⟩, u3⟩
    · have := u3 _ hq1 (List.not_mem_nil)
      simp only at this
      rw [hq2] at this
      cases this
    · refine ⟨u1, ?_⟩
      have h1 := u3 _ hq1 (List.not_mem_nil) hq2
      simp only at h1
      obtain ⟨j, d, d1, d2⟩ := back p hp hpo
      have hij : i' ≤ j := by
        by_cases hc : j < i'
        · exact absurd d1 (hmin j d hc)
        · omega
      have h2 := b.up i' j e d hij hi.1 d1.1
      omega
  · rcases u with ⟨u1, u2, _⟩ | ⟨_, ⟨p, hp, hpo, _⟩, _⟩
    · exact ⟨u1, u2⟩
    · obtain ⟨i, e, q1, _⟩ := back p hp hpo
      exact absurd q1 (hno i e)
theorem LS.unst {w W : World} {tb c : Nat} {L : Lg} {lv : Value} (ls : LS w W tb L.K c L.log lv) (h : KInv L) (g : KLs L) (o : KOp L) (b : KBa L) :
    Calls Try.prog 9 #[.pointer (some ⟨tb, 0, none⟩)] W fun e w' => ∃ fi op, AnsPost W (.tuple #[.int .i64 fi, .bool op]) e w' ∧ (∀ i e, openAt L.log i e → (∀ j d, j < i → ¬ openAt L.log j d) → op = true ∧ fi = e.b.base) ∧ ((∀ i e, ¬ openAt L.log i e) → op = false ∧ fi = 0) := by
  obtain ⟨mv, av, m, n, R, t1, _⟩ := ls.tab
  refine (unstable_tb t1).mono ?_
  rintro e w' ⟨fi, op, h1, h2⟩
  exact ⟨fi, op, h1, open_unst h g o b t1 h2⟩
end Go.Proofs.Ytjocjnjdmmihnaa
