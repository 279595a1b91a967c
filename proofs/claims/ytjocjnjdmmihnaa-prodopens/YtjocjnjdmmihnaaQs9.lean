/-
  A log's batches are the parameter's; rows of values with one more; how many stand behind. No conditions.
-/
import Derived.Test.YtjocjnjdmmihnaaQq9
import Derived.Test.YtjocjnjdmmihnaaQr9
namespace Go.Proofs.Ytjocjnjdmmihnaa
open Go.RowKit
set_option linter.unusedVariables false

theorem laid_from (es : List En) {k : Nat} (h : k ≤ es.length) : ∀ e ∈ (laidL es k).log, ∃ e0 ∈ es, e.a = e0.a ∧ e.c = e0.c ∧ e.b.vs = e0.b.vs ∧ e.b.pid = e0.b.pid := by
  induction k with
  | zero => intro e he; exact (List.not_mem_nil he).elim
  | succ k ih =>
    intro e he
    rw [laidL_succ (by omega)] at he
    unfold stepL at he
    split at he
    · rcases List.mem_append.1 he with hx | hx
      · exact ih (by omega) e hx
      · rw [List.mem_singleton.1 hx]
        exact ⟨es[k], List.getElem_mem (by omega), rfl, rfl, rfl, rfl⟩
    · exact ih (by omega) e he
theorem LS.known {w W : World} {tb c : Nat} {K : Nat → Option Kn} {log : List En} {lv : Value} (h : LS w W tb K c log lv) {s : Nat} (h64 : s < 18446744073709551616) :
    Calls Try.prog 7 #[.pointer (some ⟨tb, 0, none⟩), .int .u64 (s : Int)] W fun e w' => AnsPost W (tup4 (knwK (K s))) e w' := by
  obtain ⟨mv, av, m, n, R, t1, _⟩ := h.tab
  exact known_tb t1 h64
/-- How many of those from i + 1 up to j. -/
def cntN (l : List En) (i j s : Nat) : Nat := (((l.take j).drop (i + 1)).filter (fun e => decide (e.b.pid = s) && !e.b.ctl)).length
theorem cntN_start (l : List En) (i s : Nat) : cntN l i (i + 1) s = 0 := by
  unfold cntN
  rw [List.drop_eq_nil_of_le (by rw [List.length_take]; omega)]
  rfl
theorem cntN_end (l : List En) (i s : Nat) : cntN l i l.length s = laterN l i s := by
  unfold cntN laterN
  rw [List.take_length]
theorem cntN_succ {l : List En} {i j s : Nat} (hij : i + 1 ≤ j) (hj : j < l.length) : cntN l i (j + 1) s = cntN l i j s + if l[j].b.pid = s ∧ l[j].b.ctl = false then 1 else 0 := by
  unfold cntN
  rw [List.take_succ_eq_append_getElem hj, List.drop_append_of_le_length (by rw [List.length_take]; omega), List.filter_append, List.length_append]
  congr 1
  by_cases h : l[j].b.pid = s ∧ l[j].b.ctl = false
  · rw [if_pos h, List.filter_cons_of_pos (by simp [h.1, h.2])]
    rfl
  · rw [if_neg h, List.filter_cons_of_neg (by simp only [Bool.and_eq_true, decide_eq_true_eq, Bool.not_eq_true']; exact h)]
    rfl
theorem cntN_le (l : List En) (i j s : Nat) : cntN l i j s ≤ l.length := by
  unfold cntN
  refine Nat.le_trans (List.length_filter_le _ _) ?_
  rw [List.length_drop, List.length_take]
  omega
/-- The values of a list of slices. -/
theorem RAt.vals {w : World} {a : Option Addr} {ls : List (List Nat)} (h : RAt w a ls) : ∃ us : List Value, us.length = ls.length ∧ (∀ j u, us[j]? = some u → ∃ b off, a = some ⟨b, off, none⟩ ∧ w.cell? ⟨b, off + j, none⟩ = some u) ∧ (∀ u ∈ us, u.oneCell' = true) ∧ ∀ j, j < ls.length → ∃ u, us[j]? = some u ∧ Elem w u (ls.getD j []) := by
  by_cases h0 : ls.length = 0
  · exact ⟨[], by simp [h0], (fun j u hj => by simp at hj), (fun u hu => (List.not_mem_nil hu).elim), (fun j hj => by omega)⟩
  · obtain ⟨b, off, _, ha, _⟩ := h 0 (by omega)
    refine ⟨(List.range ls.length).map (fun i => (w.cell? ⟨b, off + i, none⟩).getD (.slice none 0 0)), by simp, fun j u hj => ?_, fun u hu => ?_, fun j hj => ?_⟩
    · have hj2 : j < ls.length := by
        have := (List.getElem?_eq_some_iff.1 hj).1
        simpa using this
      obtain ⟨b', off', u', e1, _, e3, _⟩ := h j hj2
      rw [ha] at e1
      cases e1
      refine ⟨b, off, ha, ?_⟩
      simp [hj2, e3] at hj
      rw [e3, hj]
    · obtain ⟨i, hi, rfl⟩ := List.mem_map.1 hu
      obtain ⟨b', off', u', e1, _, e3, e4⟩ := h i (List.mem_range.1 hi)
      rw [ha] at e1
      cases e1
      rw [e3]
      exact e4.one
    · obtain ⟨b', off', u', e1, _, e3, e4⟩ := h j hj
      rw [ha] at e1
      cases e1
      exact ⟨u', by simp [hj, e3], e4⟩
/-- A row of such values with a nil one behind it. -/
theorem rat_more {w : World} {v : Value} {us : List Value} {ls : List (List Nat)} (h : Own w 64 v (us ++ [.slice none 0 0])) (hl : us.length = ls.length) (he : ∀ j, j < ls.length → ∃ u, us[j]? = some u ∧ Elem w u (ls.getD j [])) : ∃ a cap, v = .slice a (ls.length + 1) cap ∧ RAt w a (ls ++ [[]]) := by
  have sp : Spine (Elem w) w v (us ++ [.slice none 0 0]) (ls ++ [[]]) := by
    refine ⟨h, by simp [hl], fun i hi => ?_⟩
    rw [List.length_append, List.length_singleton] at hi
    by_cases hil : i < ls.length
    · obtain ⟨u, e1, e2⟩ := he i hil
      refine ⟨u, by rw [List.getElem?_append_left (by omega)]; exact e1, ?_⟩
      have : (ls ++ [[]]).getD i [] = ls.getD i [] := by simp [List.getD, List.getElem?_append_left hil]
      rw [this]; exact e2
    · obtain rfl : i = ls.length := by omega
      refine ⟨.slice none 0 0, by rw [← hl]; simp, ?_⟩
      have : (ls ++ [[]]).getD ls.length [] = [] := by simp [List.getD]
      rw [this]
      exact ⟨none, 0, rfl, fun i hi => by simp at hi, fun _ => rfl⟩
  obtain ⟨a, cap, e, r, _⟩ := sp.parts (fun u l h => h)
  refine ⟨a, cap, ?_, r⟩
  rw [e, List.length_append, List.length_singleton]
/-- What Check tells of it. -/
theorem AgE.check {L : Lg} {i : Nat} {b : Bt} {k : Kn} (h : AgE L i b k) (h0 : b.pid ≠ 0) (hc : b.ctl = false) : (k.ep = b.pep → laterN L.log i b.pid < 5 → chkK b (atK (L.K b.pid) b.pep) = (b.base, true, 0)) ∧ (k.ep = b.pep → ¬ laterN L.log i b.pid < 5 → chkK b (atK (L.K b.pid) b.pep) = (0, false, 11)) ∧ (b.pep < k.ep → chkK b (atK (L.K b.pid) b.pep) = (0, false, 10)) := by
  have hat : atK (L.K b.pid) b.pep = k := by
    rw [h.kn]
    show (if k.ep < b.pep then (⟨b.pep, 0, k.op, k.fi, []⟩ : Kn) else k) = k
    rw [if_neg (by have := h.ep; omega)]
  rw [hat]
  unfold chkK
  rw [if_neg (fun hh => hh h.ok), if_neg h0]
  refine ⟨fun he hl => ?_, fun he hl => ?_, fun hlt => ?_⟩
  · rw [if_neg (by omega), if_neg (by rw [hc]; decide), h.in_ he hl, if_pos rfl]
  · obtain ⟨q1, q2⟩ := h.out he hl
    rw [if_neg (by omega), if_neg (by rw [hc]; decide), q1, if_neg (by decide), if_neg q2]
  · rw [if_pos hlt]
/-- .. and of it with one value more. -/
theorem AgE.checkMore {L : Lg} {i : Nat} {b : Bt} {k : Kn} (h : AgE L i b k) (b' : Bt) (h1 : b'.pid = b.pid) (h2 : b'.pep = b.pep) (h3 : b'.seq = b.seq) (h4 : b'.vs.length = b.vs.length + 1) (hc : b'.ctl = false) : (chkK b' (atK (L.K b'.pid) b'.pep)).2.1 = false := by
  have hat : atK (L.K b'.pid) b'.pep = k := by
    rw [h1, h2, h.kn]
    show (if k.ep < b.pep then (⟨b.pep, 0, k.op, k.fi, []⟩ : Kn) else k) = k
    rw [if_neg (by have := h.ep; omega)]
  rw [hat]
  unfold chkK
  split
  · rfl
  · split
    · rfl
    · split
      · rfl
      · rename_i hlt
        rw [if_neg (by rw [hc]; decide), h3, h4, h.more (by have := h.ep; omega), if_neg (by decide)]
        split <;> rfl
end Go.Proofs.Ytjocjnjdmmihnaa
