/-
  What a log that Check let in is, in plain words. No conditions.
-/
import Derived.Test.YtjocjnjdmmihnaaQi9
namespace Go.Proofs.Ytjocjnjdmmihnaa
open Go.RowKit
set_option linter.unusedVariables false

/-- The number that comes next, by the log. -/
def nxtF (s : Nat) (ep : Int) (n : Int) (e : En) : Int := if e.b.pid = s ∧ e.b.pep = ep ∧ e.b.ctl = false then IntKind.i64.wrap (e.b.seq + (e.b.vs.length : Int)) else n
def nxtL (l : List En) (s : Nat) (ep : Int) : Int := l.foldl (nxtF s ep) 0
theorem nxtL_snoc (l : List En) (e : En) (s : Nat) (ep : Int) : nxtL (l ++ [e]) s ep = nxtF s ep (nxtL l s ep) e := by unfold nxtL; rw [List.foldl_append]; rfl
theorem nxtL_none {l : List En} {s : Nat} {ep : Int} (h : ∀ e ∈ l, ¬ (e.b.pid = s ∧ e.b.pep = ep)) : nxtL l s ep = 0 := by
  unfold nxtL
  have : ∀ n, l.foldl (nxtF s ep) n = n := by
    induction l with
    | nil => intro n; rfl
    | cons x r ih =>
      intro n
      rw [List.foldl_cons]
      have hx : nxtF s ep n x = n := by
        unfold nxtF
        rw [if_neg (fun hh => h x (List.mem_cons_self ..) ⟨hh.1, hh.2.1⟩)]
      rw [hx]
      exact ih (fun e he => h e (List.mem_cons_of_mem _ he)) n
  exact this 0
structure KInv (L : Lg) : Prop where
  non : ∀ s, s ≠ 0 → L.K s = none → ∀ e ∈ L.log, e.b.pid ≠ s
  top : ∀ s k, s ≠ 0 → L.K s = some k → ∀ e ∈ L.log, e.b.pid = s → e.b.pep ≤ k.ep
  nx : ∀ s k, s ≠ 0 → L.K s = some k → k.nx = nxtL L.log s k.ep
  once : ∀ i (h : i < L.log.length), (L.log[i]).b.pid ≠ 0 → (∀ j (hj : j < i), (L.log[j]).b.pid = (L.log[i]).b.pid → (L.log[j]).b.pep ≤ (L.log[i]).b.pep) ∧ ((L.log[i]).b.ctl = false → (L.log[i]).b.seq = nxtL (L.log.take i) (L.log[i]).b.pid (L.log[i]).b.pep)
theorem KInv.zero : KInv ⟨fun _ => none, [], 0⟩ := ⟨fun _ _ _ _ he => (List.not_mem_nil he).elim, fun _ _ _ h => (by cases h), fun _ _ _ h => (by cases h), fun i h => absurd h (Nat.not_lt_zero _)⟩
/-- What was taken. -/
theorem took_ok {L : Lg} {b : Bt} (h : took L b = true) (h0 : b.pid ≠ 0) : (atK (L.K b.pid) b.pep).ep = b.pep ∧ (b.ctl = false → b.seq = (atK (L.K b.pid) b.pep).nx ∧ (findE (atK (L.K b.pid) b.pep).ls b.seq (b.vs.length : Int)).2 = false) := by
  have hc := took_chk h
  have hge : b.pep ≤ (atK (L.K b.pid) b.pep).ep := by
    cases L.K b.pid with
    | none => exact Int.le_refl _
    | some k =>
      show b.pep ≤ (if k.ep < b.pep then (⟨b.pep, 0, k.op, k.fi, []⟩ : Kn) else k).ep
      split
      · exact Int.le_refl _
      · omega
  unfold took at h
  simp only [Bool.and_eq_true, decide_eq_true_eq, Bool.not_eq_true'] at h
  obtain ⟨h1, h2⟩ := h
  unfold ansL chkK at h1 h2
  rw [if_neg (fun hh => hh hc)] at h1 h2
  have h0' : ¬ (atB b L.at_).pid = 0 := h0
  rw [if_neg h0'] at h1 h2
  generalize atK (L.K b.pid) b.pep = k at *
  by_cases hlt : b.pep < k.ep
  · have hlt' : (atB b L.at_).pep < k.ep := hlt
    rw [if_pos hlt'] at h1
    exact absurd h1 (by decide)
  · have hlt' : ¬ (atB b L.at_).pep < k.ep := hlt
    rw [if_neg hlt'] at h1 h2
    refine ⟨by omega, fun hctl => ?_⟩
    have hctl' : ¬ (atB b L.at_).ctl = true := by show ¬ b.ctl = true; rw [hctl]; decide
    rw [if_neg hctl'] at h1 h2
    by_cases hf : (findE k.ls b.seq (b.vs.length : Int)).2 = true
    · have hf' : (findE k.ls (atB b L.at_).seq ((atB b L.at_).vs.length : Int)).2 = true := hf
      rw [if_pos hf'] at h2
      exact Bool.noConfusion h2
    · have hf' : ¬ (findE k.ls (atB b L.at_).seq ((atB b L.at_).vs.length : Int)).2 = true := hf
      rw [if_neg hf'] at h1
      by_cases hs : b.seq = k.nx
      · exact ⟨hs, by simpa using hf⟩
      · have hs' : ¬ (atB b L.at_).seq = k.nx := hs
        rw [if_neg hs'] at h1
        exact absurd h1 (by decide)
theorem KInv.at_nx {L : Lg} (h : KInv L) {s : Nat} (h0 : s ≠ 0) {ep : Int} (he : (atK (L.K s) ep).ep = ep) : (atK (L.K s) ep).nx = nxtL L.log s ep ∧ ∀ e ∈ L.log, e.b.pid = s → e.b.pep ≤ ep := by
  cases hk : L.K s with
  | none =>
    have := h.non s h0 hk
    exact ⟨(nxtL_none (fun e he hh => this e he hh.1)).symm, fun e he hp => absurd hp (this e he)⟩
  | some k =>
    rw [hk] at he
    have e2 : atK (some k) ep = if k.ep < ep then ⟨ep, 0, k.op, k.fi, []⟩ else k := rfl
    have ht := h.top s k h0 hk
    rw [e2] at he ⊢
    by_cases hlt : k.ep < ep
    · rw [if_pos hlt]
      exact ⟨(nxtL_none (fun e he hh => by have := ht e he hh.1; omega)).symm, fun e he hp => by have := ht e he hp; omega⟩
    · rw [if_neg hlt] at he ⊢
      rw [← he]
      exact ⟨h.nx s k h0 hk, ht⟩
theorem apK_ep (b : Bt) (k : Kn) : (apK b k).ep = k.ep := by unfold apK; split <;> rfl
theorem KInv.step {L : Lg} (h : KInv L) (e : En) : KInv (stepL L e) := by
  unfold stepL
  split
  · rename_i ht
    by_cases h0 : e.b.pid = 0
    · have hK : putK L.K (atB e.b L.at_) = L.K := if_pos h0
      rw [hK]
      have hne : ∀ s, s ≠ 0 → (atE e L.at_).b.pid ≠ s := fun s hs hh => hs (by rw [← hh]; exact h0)
      refine ⟨fun s hs hk x hx => ?_, fun s k hs hk x hx hp => ?_, fun s k hs hk => ?_, fun i hi hp => ?_⟩
      · rcases List.mem_append.1 hx with hx | hx
        · exact h.non s hs hk x hx
        · rw [List.mem_singleton.1 hx]; exact hne s hs
      · rcases List.mem_append.1 hx with hx | hx
        · exact h.top s k hs hk x hx hp
        · rw [List.mem_singleton.1 hx] at hp; exact absurd hp (hne s hs)
      · show k.nx = nxtL (L.log ++ [atE e L.at_]) s k.ep
        rw [nxtL_snoc]
        unfold nxtF
        rw [if_neg (fun hh => hne s hs hh.1)]
        exact h.nx s k hs hk
      · by_cases hi2 : i < L.log.length
        · have hg : (L.log ++ [atE e L.at_])[i] = L.log[i] := List.getElem_append_left hi2
          simp only [hg] at hp ⊢
          obtain ⟨o1, o2⟩ := h.once i hi2 hp
          refine ⟨fun j hj => ?_, fun hc => ?_⟩
          · have hj2 : (L.log ++ [atE e L.at_])[j]'(by rw [List.length_append]; omega) = L.log[j] := List.getElem_append_left (by omega)
            simp only [hj2]
            exact o1 j hj
          · rw [List.take_append_of_le_length (by omega)]
            exact o2 hc
        · have hi3 : i = L.log.length := by simp only [List.length_append, List.length_singleton] at hi; omega
          subst hi3
          have hg : (L.log ++ [atE e L.at_])[L.log.length] = atE e L.at_ := by simp
          simp only [hg] at hp
          exact absurd h0 hp
    · obtain ⟨t1, t2⟩ := took_ok ht h0
      obtain ⟨a1, a2⟩ := h.at_nx h0 t1
      have hK : putK L.K (atB e.b L.at_) = fun s => if s = e.b.pid then some (apK (atB e.b L.at_) (atK (L.K e.b.pid) e.b.pep)) else L.K s := if_neg h0
      rw [hK]
      have kep : (apK (atB e.b L.at_) (atK (L.K e.b.pid) e.b.pep)).ep = e.b.pep := (apK_ep _ _).trans t1
      have knx : (apK (atB e.b L.at_) (atK (L.K e.b.pid) e.b.pep)).nx = nxtL (L.log ++ [atE e L.at_]) e.b.pid e.b.pep := by
        rw [nxtL_snoc]
        unfold nxtF
        cases hc : e.b.ctl with
        | true =>
          rw [if_neg (fun hh => Bool.noConfusion hh.2.2)]
          have : (apK (atB e.b L.at_) (atK (L.K e.b.pid) e.b.pep)).nx = (atK (L.K e.b.pid) e.b.pep).nx := by
            unfold apK
            rw [if_pos (show (atB e.b L.at_).ctl = true from hc)]
          rw [this]
          exact a1
        | false =>
          rw [if_pos ⟨rfl, rfl, rfl⟩]
          unfold apK
          rw [if_neg (show ¬ (atB e.b L.at_).ctl = true by show ¬ e.b.ctl = true; rw [hc]; decide)]
      generalize apK (atB e.b L.at_) (atK (L.K e.b.pid) e.b.pep) = kk at *
      refine ⟨fun s hs hk x hx => ?_, fun s k hs hk x hx hp => ?_, fun s k hs hk => ?_, fun i hi hp => ?_⟩
      · have hk : (if s = e.b.pid then some kk else L.K s) = none := hk
        by_cases hse : s = e.b.pid
        · rw [if_pos hse] at hk; cases hk
        · rw [if_neg hse] at hk
          rcases List.mem_append.1 hx with hx | hx
          · exact h.non s hs hk x hx
          · rw [List.mem_singleton.1 hx]; exact fun hh => hse hh.symm
      · have hk : (if s = e.b.pid then some kk else L.K s) = some k := hk
        by_cases hse : s = e.b.pid
        · rw [if_pos hse] at hk
          cases hk
          rw [kep]
          rcases List.mem_append.1 hx with hx | hx
          · exact a2 x hx (hp.trans hse)
          · rw [List.mem_singleton.1 hx]; exact Int.le_refl _
        · rw [if_neg hse] at hk
          rcases List.mem_append.1 hx with hx | hx
          · exact h.top s k hs hk x hx hp
          · rw [List.mem_singleton.1 hx] at hp; exact absurd hp.symm hse
      · have hk : (if s = e.b.pid then some kk else L.K s) = some k := hk
        show k.nx = nxtL (L.log ++ [atE e L.at_]) s k.ep
        by_cases hse : s = e.b.pid
        · rw [if_pos hse] at hk
          cases hk
          rw [kep, hse]
          exact knx
        · rw [if_neg hse] at hk
          rw [nxtL_snoc]
          unfold nxtF
          rw [if_neg (fun hh => hse hh.1.symm)]
          exact h.nx s k hs hk
      · by_cases hi2 : i < L.log.length
        · have hg : (L.log ++ [atE e L.at_])[i] = L.log[i] := List.getElem_append_left hi2
          simp only [hg] at hp ⊢
          obtain ⟨o1, o2⟩ := h.once i hi2 hp
          refine ⟨fun j hj => ?_, fun hc => ?_⟩
          · have hj2 : (L.log ++ [atE e L.at_])[j]'(by rw [List.length_append]; omega) = L.log[j] := List.getElem_append_left (by omega)
            simp only [hj2]
            exact o1 j hj
          · rw [List.take_append_of_le_length (by omega)]
            exact o2 hc
        · have hi3 : i = L.log.length := by simp only [List.length_append, List.length_singleton] at hi; omega
          subst hi3
          have hg : (L.log ++ [atE e L.at_])[L.log.length] = atE e L.at_ := by simp
          simp only [hg] at hp ⊢
          refine ⟨fun j hj hjp => ?_, fun hc => ?_⟩
          · have hj2 : (L.log ++ [atE e L.at_])[j]'(by rw [List.length_append]; omega) = L.log[j] := List.getElem_append_left (by omega)
            simp only [hj2] at hjp ⊢
            exact a2 _ (List.getElem_mem hj) hjp
          · have htk : (L.log ++ [atE e L.at_]).take L.log.length = L.log := by simp
            rw [htk]
            exact (t2 hc).1.trans a1
  · exact h
theorem KInv.laid (es : List En) {k : Nat} (h : k ≤ es.length) : KInv (laidL es k) := by
  induction k with
  | zero => exact KInv.zero
  | succ k ih =>
    rw [laidL_succ (by omega)]
    exact (ih (by omega)).step _
end Go.Proofs.Ytjocjnjdmmihnaa
