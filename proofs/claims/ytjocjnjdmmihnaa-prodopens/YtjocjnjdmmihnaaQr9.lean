/-
  What Check tells of a batch that stands in the log, in plain words. No conditions.
-/
import Derived.Test.YtjocjnjdmmihnaaQp9
namespace Go.Proofs.Ytjocjnjdmmihnaa
open Go.RowKit
set_option linter.unusedVariables false

/-- A batch of records of a producer and its epoch. -/
def isF (s : Nat) (ep : Int) (e : En) : Bool := decide (e.b.pid = s) && (decide (e.b.pep = ep) && !e.b.ctl)
theorem isF_iff {s : Nat} {ep : Int} {e : En} : isF s ep e = true ↔ e.b.pid = s ∧ e.b.pep = ep ∧ e.b.ctl = false := by
  unfold isF
  simp
def lastF (l : List En) (s : Nat) (ep : Int) : List Sn := (l.filter (isF s ep)).map (fun e => snB e.b)
def l5 (l : List Sn) : List Sn := l.drop (l.length - 5)
theorem wnd_l5 (l : List Sn) (x : Sn) : wnd (l5 l) ++ [x] = l5 (l ++ [x]) := by
  unfold wnd l5
  rw [List.length_append, List.length_singleton, List.length_drop]
  by_cases h : 5 ≤ l.length
  · rw [if_pos (by omega), List.drop_drop, List.drop_append_of_le_length (by omega)]
    congr 2
    omega
  · rw [if_neg (by omega), show l.length - 5 = 0 by omega, show l.length + 1 - 5 = 0 by omega]
    rfl
theorem lastF_none {l : List En} {s : Nat} {ep : Int} (h : ∀ e ∈ l, ¬ (e.b.pid = s ∧ e.b.pep = ep)) : lastF l s ep = [] := by
  unfold lastF
  rw [List.filter_eq_nil_iff.2 (fun e he hh => h e he ⟨(isF_iff.1 hh).1, (isF_iff.1 hh).2.1⟩)]
  rfl
theorem lastF_skip {l : List En} {s : Nat} {ep : Int} {e : En} (h : ¬ isF s ep e = true) : lastF (l ++ [e]) s ep = lastF l s ep := by
  unfold lastF
  rw [List.filter_append, List.filter_cons_of_neg h, List.filter_nil, List.append_nil]
theorem lastF_more {l : List En} {s : Nat} {ep : Int} {e : En} (h : isF s ep e = true) : lastF (l ++ [e]) s ep = lastF l s ep ++ [snB e.b] := by
  unfold lastF
  rw [List.filter_append, List.filter_cons_of_pos h, List.filter_nil, List.map_append]
  rfl
structure KLs (L : Lg) : Prop where
  ls : ∀ s k, s ≠ 0 → L.K s = some k → k.ls = l5 (lastF L.log s k.ep)
  ok : ∀ e ∈ L.log, chk e.b = 0
theorem KLs.zero : KLs ⟨fun _ => none, [], 0⟩ := ⟨fun _ _ _ h => (by cases h), fun _ h => (List.not_mem_nil h).elim⟩
theorem KLs.at_ls {L : Lg} (h : KInv L) (g : KLs L) {s : Nat} (h0 : s ≠ 0) {ep : Int} (he : (atK (L.K s) ep).ep = ep) : (atK (L.K s) ep).ls = l5 (lastF L.log s ep) := by
  cases hk : L.K s with
  | none =>
    have := h.non s h0 hk
    rw [lastF_none (fun e he hh => this e he hh.1)]
    rfl
  | some k =>
    rw [hk] at he
    have e2 : atK (some k) ep = if k.ep < ep then ⟨ep, 0, k.op, k.fi, []⟩ else k := rfl
    have ht := h.top s k h0 hk
    rw [e2] at he ⊢
    by_cases hlt : k.ep < ep
    · rw [if_pos hlt, lastF_none (fun e he hh => by have := ht e he hh.1; omega)]
      rfl
    · rw [if_neg hlt] at he ⊢
      rw [← he]
      exact g.ls s k h0 hk
theorem KLs.step {L : Lg} (h : KInv L) (g : KLs L) (e : En) : KLs (stepL L e) := by
  unfold stepL
  split
  · rename_i ht
    have hok : ∀ x ∈ L.log ++ [atE e L.at_], chk x.b = 0 := fun x hx => by
      rcases List.mem_append.1 hx with hx | hx
      · exact g.ok x hx
      · rw [List.mem_singleton.1 hx]; exact took_chk ht
    by_cases h0 : e.b.pid = 0
    · have hK : putK L.K (atB e.b L.at_) = L.K := if_pos h0
      rw [hK]
      refine ⟨fun s k hs hk => ?_, hok⟩
      show k.ls = l5 (lastF (L.log ++ [atE e L.at_]) s k.ep)
      rw [lastF_skip (e := atE e L.at_) (fun hh => hs (by rw [← (isF_iff.1 hh).1]; exact h0))]
      exact g.ls s k hs hk
    · obtain ⟨t1, t2⟩ := took_ok ht h0
      have a1 := KLs.at_ls h g h0 t1
      have hK : putK L.K (atB e.b L.at_) = fun s => if s = e.b.pid then some (apK (atB e.b L.at_) (atK (L.K e.b.pid) e.b.pep)) else L.K s := if_neg h0
      rw [hK]
      have kep : (apK (atB e.b L.at_) (atK (L.K e.b.pid) e.b.pep)).ep = e.b.pep := (apK_ep _ _).trans t1
      have kls : (apK (atB e.b L.at_) (atK (L.K e.b.pid) e.b.pep)).ls = l5 (lastF (L.log ++ [atE e L.at_]) e.b.pid e.b.pep) := by
        cases hc : e.b.ctl with
        | true =>
          have : (apK (atB e.b L.at_) (atK (L.K e.b.pid) e.b.pep)).ls = (atK (L.K e.b.pid) e.b.pep).ls := by
            unfold apK
            rw [if_pos (show (atB e.b L.at_).ctl = true from hc)]
          rw [this, lastF_skip (fun hh => by have := (isF_iff.1 hh).2.2; rw [show (atE e L.at_).b.ctl = e.b.ctl from rfl, hc] at this; cases this)]
          exact a1
        | false =>
          have : (apK (atB e.b L.at_) (atK (L.K e.b.pid) e.b.pep)).ls = wnd (atK (L.K e.b.pid) e.b.pep).ls ++ [snB (atB e.b L.at_)] := by
            unfold apK
            rw [if_neg (show ¬ (atB e.b L.at_).ctl = true by show ¬ e.b.ctl = true; rw [hc]; decide)]
          rw [this, lastF_more (e := atE e L.at_) (isF_iff.2 ⟨rfl, rfl, hc⟩), a1]
          exact wnd_l5 _ _
      generalize apK (atB e.b L.at_) (atK (L.K e.b.pid) e.b.pep) = kk at *
      refine ⟨fun s k hs hk => ?_, hok⟩
      have hk : (if s = e.b.pid then some kk else L.K s) = some k := hk
      show k.ls = l5 (lastF (L.log ++ [atE e L.at_]) s k.ep)
      by_cases hse : s = e.b.pid
      · rw [if_pos hse] at hk
        cases hk
        rw [kep, hse]
        exact kls
      · rw [if_neg hse] at hk
        rw [lastF_skip (e := atE e L.at_) (fun hh => hse (isF_iff.1 hh).1.symm)]
        exact g.ls s k hs hk
  · exact g
theorem KLs.laid (es : List En) {k : Nat} (h : k ≤ es.length) : KLs (laidL es k) := by
  induction k with
  | zero => exact KLs.zero
  | succ k ih =>
    rw [laidL_succ (by omega)]
    exact KLs.step (KInv.laid es (by omega)) (ih (by omega)) _
theorem wrap_in (n : Int) : -9223372036854775808 ≤ IntKind.i64.wrap n ∧ IntKind.i64.wrap n ≤ 9223372036854775807 := by
  simp [IntKind.wrap, IntKind.bits, IntKind.signed]
  split <;> omega
theorem nxtL_in (l : List En) (s : Nat) (ep : Int) : -9223372036854775808 ≤ nxtL l s ep ∧ nxtL l s ep ≤ 9223372036854775807 := by
  have : ∀ n : Int, (-9223372036854775808 ≤ n ∧ n ≤ 9223372036854775807) → -9223372036854775808 ≤ l.foldl (nxtF s ep) n ∧ l.foldl (nxtF s ep) n ≤ 9223372036854775807 := by
    induction l with
    | nil => intro n h; exact h
    | cons x r ih =>
      intro n h
      rw [List.foldl_cons]
      refine ih _ ?_
      unfold nxtF
      split
      · exact wrap_in _
      · exact h
  exact this 0 (by omega)
/-- What chk asks of a batch of records. -/
theorem chk_rec {b : Bt} (h : chk b = 0) (hc : b.ctl = false) : 0 ≤ b.seq ∧ 0 < b.vs.length ∧ b.vs.length ≤ 16 := by
  have h16 := (chk_zero h).1
  unfold chk at h
  split at h
  · omega
  · rename_i ho
    split at h
    · omega
    · rename_i hk
      refine ⟨?_, ?_, h16⟩
      · have : ¬ b.seq < 0 := fun hh => ho (.inr (.inr (.inr (.inl hh))))
        omega
      · have : ¬ b.vs.length = 0 := fun hh => hk (.inr (.inr ⟨hc, .inl hh⟩))
        omega
/-- What stands behind all numbers so far, unless it has gone round. -/
theorem nxt_ge {L : Lg} (h : KInv L) (g : KLs L) {s : Nat} (h0 : s ≠ 0) (ep : Int) : ∀ j (hj : j ≤ L.log.length), nxtL (L.log.take j) s ep < 0 ∨ ∀ i (hi : i < j), isF s ep (L.log[i]'(by omega)) = true → (L.log[i]'(by omega)).b.seq + ((L.log[i]'(by omega)).b.vs.length : Int) ≤ nxtL (L.log.take j) s ep := by
  intro j
  induction j with
  | zero => intro hj; exact .inr (fun i hi => absurd hi (Nat.not_lt_zero _))
  | succ j ih =>
    intro hj
    have ihj := ih (by omega)
    rw [List.take_succ_eq_append_getElem (by omega), nxtL_snoc]
    by_cases hf : isF s ep (L.log[j]'(by omega)) = true
    · obtain ⟨f1, f2, f3⟩ := isF_iff.1 hf
      have hseq := (h.once j (by omega) (by rw [f1]; exact h0)).2 f3
      rw [f1, f2] at hseq
      obtain ⟨c1, c2, c3⟩ := chk_rec (g.ok _ (List.getElem_mem (by omega))) f3
      have hin := nxtL_in (L.log.take j) s ep
      unfold nxtF
      rw [if_pos ⟨f1, f2, f3⟩]
      have hge : ∀ i (hi : i < j), isF s ep (L.log[i]'(by omega)) = true → (L.log[i]'(by omega)).b.seq + ((L.log[i]'(by omega)).b.vs.length : Int) ≤ (L.log[j]'(by omega)).b.seq := by
        rcases ihj with e | e
        · omega
        · intro i hi hfi
          rw [hseq]
          exact e i hi hfi
      by_cases hw : (L.log[j]'(by omega)).b.seq + ((L.log[j]'(by omega)).b.vs.length : Int) ≤ 9223372036854775807
      · right
        have e : IntKind.i64.wrap ((L.log[j]'(by omega)).b.seq + ((L.log[j]'(by omega)).b.vs.length : Int)) = (L.log[j]'(by omega)).b.seq + ((L.log[j]'(by omega)).b.vs.length : Int) := by
          simp [IntKind.wrap, IntKind.bits, IntKind.signed]
          omega
        rw [e]
        intro i hi hfi
        by_cases hij : i < j
        · have := hge i hij hfi
          omega
        · obtain rfl : i = j := by omega
          exact Int.le_refl _
      · left
        simp [IntKind.wrap, IntKind.bits, IntKind.signed]
        omega
    · have e : nxtF s ep (nxtL (L.log.take j) s ep) (L.log[j]'(by omega)) = nxtL (L.log.take j) s ep := by
        unfold nxtF
        rw [if_neg (fun hh => hf (isF_iff.2 hh))]
      rw [e]
      rcases ihj with e2 | e2
      · exact .inl e2
      · right
        intro i hi hfi
        by_cases hij : i < j
        · exact e2 i hij hfi
        · obtain rfl : i = j := by omega
          exact absurd hfi hf
theorem seq_rise {L : Lg} (h : KInv L) (g : KLs L) {s : Nat} (h0 : s ≠ 0) {ep : Int} {i j : Nat} (hij : i < j) (hj : j < L.log.length) (hfi : isF s ep (L.log[i]'(by omega)) = true) (hfj : isF s ep L.log[j] = true) : (L.log[i]'(by omega)).b.seq < (L.log[j]).b.seq := by
  obtain ⟨f1, f2, f3⟩ := isF_iff.1 hfj
  obtain ⟨g1, g2, g3⟩ := isF_iff.1 hfi
  have hseq := (h.once j hj (by rw [f1]; exact h0)).2 f3
  rw [f1, f2] at hseq
  obtain ⟨c1, c2, c3⟩ := chk_rec (g.ok _ (List.getElem_mem hj)) f3
  obtain ⟨d1, d2, d3⟩ := chk_rec (g.ok _ (List.getElem_mem (show i < L.log.length by omega))) g3
  rcases nxt_ge h g h0 ep j (by omega) with e | e
  · omega
  · have := e i hij hfi
    omega
theorem find_mid {A B : List Sn} {x : Sn} (h : ∀ a ∈ A, a.sq ≠ x.sq) : findE (A ++ x :: B) x.sq x.vl = (x.ba, true) := by
  unfold findE
  rw [List.find?_append, List.find?_eq_none.2 (fun a ha => by simp; intro hh; exact absurd hh (h a ha))]
  simp
theorem find_not {l : List Sn} {q n : Int} (h : ∀ a ∈ l, ¬ (a.sq = q ∧ a.vl = n)) : findE l q n = (0, false) := by
  unfold findE
  rw [List.find?_eq_none.2 (fun a ha => by have := h a ha; simpa using this)]
/-- How many of the log behind number i are batches of records of a producer. -/
def laterN (l : List En) (i : Nat) (s : Nat) : Nat := ((l.drop (i + 1)).filter (fun e => decide (e.b.pid = s) && !e.b.ctl)).length
structure AgE (L : Lg) (i : Nat) (b : Bt) (k : Kn) : Prop where
  kn : L.K b.pid = some k
  ep : b.pep ≤ k.ep
  ok : chk b = 0
  in_ : k.ep = b.pep → laterN L.log i b.pid < 5 → findE k.ls b.seq (b.vs.length : Int) = (b.base, true)
  out : k.ep = b.pep → ¬ laterN L.log i b.pid < 5 → findE k.ls b.seq (b.vs.length : Int) = (0, false) ∧ b.seq ≠ k.nx
  more : k.ep = b.pep → findE k.ls b.seq ((b.vs.length + 1 : Nat) : Int) = (0, false)
theorem again_L {L : Lg} (h : KInv L) (g : KLs L) {i : Nat} (hi : i < L.log.length) (h0 : (L.log[i]).b.pid ≠ 0) (hc : (L.log[i]).b.ctl = false) : ∃ k, AgE L i (L.log[i]).b k := by
  have hmem := List.getElem_mem hi
  cases hk : L.K (L.log[i]).b.pid with
  | none => exact absurd rfl (h.non _ h0 hk _ hmem)
  | some k =>
    have htop := h.top _ k h0 hk
    have hok := g.ok _ hmem
    obtain ⟨c1, c2, c3⟩ := chk_rec hok hc
    have main : k.ep = (L.log[i]).b.pep → ∃ A B : List Sn, lastF L.log (L.log[i]).b.pid k.ep = A ++ snB (L.log[i]).b :: B ∧ (∀ a ∈ A, a.sq < (L.log[i]).b.seq) ∧ (∀ a ∈ B, (L.log[i]).b.seq < a.sq) ∧ B.length = laterN L.log i (L.log[i]).b.pid ∧ (L.log[i]).b.seq ≠ k.nx := by
      intro he
      have hfi : isF (L.log[i]).b.pid k.ep L.log[i] = true := isF_iff.2 ⟨rfl, he.symm, hc⟩
      refine ⟨lastF (L.log.take i) (L.log[i]).b.pid k.ep, lastF (L.log.drop (i + 1)) (L.log[i]).b.pid k.ep, ?_, ?_, ?_, ?_, ?_⟩
      · have e : L.log = L.log.take i ++ L.log[i] :: L.log.drop (i + 1) := by rw [← List.drop_eq_getElem_cons hi, List.take_append_drop]
        have : ∀ l : List En, l = L.log.take i ++ L.log[i] :: L.log.drop (i + 1) → lastF l (L.log[i]).b.pid k.ep = lastF (L.log.take i) (L.log[i]).b.pid k.ep ++ snB (L.log[i]).b :: lastF (L.log.drop (i + 1)) (L.log[i]).b.pid k.ep := by
          rintro l rfl
          unfold lastF
          rw [List.filter_append, List.filter_cons_of_pos hfi, List.map_append, List.map_cons]
        exact this _ e
      · intro a ha
        unfold lastF at ha
        obtain ⟨e, he1, rfl⟩ := List.mem_map.1 ha
        obtain ⟨he2, he3⟩ := List.mem_filter.1 he1
        obtain ⟨j, hj, rfl⟩ := List.getElem_of_mem he2
        have hj' : j < i := by rw [List.length_take] at hj; omega
        rw [List.getElem_take] at he3 ⊢
        exact seq_rise h g h0 hj' hi he3 hfi
      · intro a ha
        unfold lastF at ha
        obtain ⟨e, he1, rfl⟩ := List.mem_map.1 ha
        obtain ⟨he2, he3⟩ := List.mem_filter.1 he1
        obtain ⟨j, hj, rfl⟩ := List.getElem_of_mem he2
        have hj' : i + 1 + j < L.log.length := by rw [List.length_drop] at hj; omega
        rw [List.getElem_drop] at he3 ⊢
        exact seq_rise h g h0 (by omega) hj' hfi he3
      · unfold lastF laterN
        rw [List.length_map]
        congr 1
        refine List.filter_congr (fun e he1 => ?_)
        obtain ⟨j, hj, rfl⟩ := List.getElem_of_mem he1
        have hj' : i + 1 + j < L.log.length := by rw [List.length_drop] at hj; omega
        rw [List.getElem_drop]
        unfold isF
        by_cases hp : (L.log[i + 1 + j]).b.pid = (L.log[i]).b.pid
        · have h1 := htop _ (List.getElem_mem hj') hp
          have h2 := (h.once (i + 1 + j) hj' (by rw [hp]; exact h0)).1 i (by omega) hp.symm
          have h3 : (L.log[i + 1 + j]).b.pep = k.ep := by omega
          rw [h3]
          simp
        · simp [hp]
      · have hnx := h.nx _ k h0 hk
        rw [hnx]
        have hall := nxt_ge h g h0 k.ep L.log.length (Nat.le_refl _)
        rw [List.take_length] at hall
        rcases hall with e | e
        · omega
        · have := e i hi hfi
          omega
    have hls := g.ls _ k h0 hk
    have five : ∀ (A B : List Sn) (x : Sn), B.length < 5 → ∃ A', l5 (A ++ x :: B) = A' ++ x :: B ∧ ∀ a ∈ A', a ∈ A := fun A B x hB => by
      refine ⟨A.drop (A.length + (B.length + 1) - 5), ?_, fun a ha => List.mem_of_mem_drop ha⟩
      unfold l5
      rw [List.length_append, List.length_cons, List.drop_append_of_le_length (by omega)]
    have five2 : ∀ (A B : List Sn) (x : Sn), ¬ B.length < 5 → ∀ a ∈ l5 (A ++ x :: B), a ∈ B := fun A B x hB a ha => by
      unfold l5 at ha
      rw [List.length_append, List.length_cons, show A.length + (B.length + 1) - 5 = A.length + (1 + (B.length - 5)) by omega, ← List.drop_drop, List.drop_left, ← List.drop_drop] at ha
      exact List.mem_of_mem_drop ha
    refine ⟨k, ⟨hk, htop _ hmem rfl, hok, fun he hl => ?_, fun he hl => ?_, fun he => ?_⟩⟩
    · obtain ⟨A, B, m1, m2, m3, m4, m5⟩ := main he
      rw [hls, m1]
      obtain ⟨A', q1, q2⟩ := five A B (snB (L.log[i]).b) (by omega)
      rw [q1]
      exact find_mid (x := snB (L.log[i]).b) (fun a ha e => by have := m2 a (q2 a ha); simp only at e; omega)
    · obtain ⟨A, B, m1, m2, m3, m4, m5⟩ := main he
      refine ⟨?_, m5⟩
      rw [hls, m1]
      exact find_not (fun a ha hh => by have := m3 a (five2 A B _ (by omega) a ha); omega)
    · obtain ⟨A, B, m1, m2, m3, m4, m5⟩ := main he
      rw [hls, m1]
      refine find_not (fun a ha hh => ?_)
      have hm : a ∈ A ++ snB (L.log[i]).b :: B := List.mem_of_mem_drop ha
      rcases List.mem_append.1 hm with e | e
      · have := m2 a e; omega
      · rcases List.mem_cons.1 e with e | e
        · rw [e] at hh
          simp only at hh
          omega
        · have := m3 a e; omega
end Go.Proofs.Ytjocjnjdmmihnaa
