/-
  Both News where they refuse; the document's image at its beginning tells what the program's does. Conditions: as each says.
-/
import Derived.Test.YtfakjcaolpmkeaaSm13
namespace Go.Proofs.Ytfakjcaolpmkeaa
open Go.RowKit Go.Maps
set_option linter.unusedVariables false

def okN (n p c : Int) : Prop := 1 ≤ n ∧ n ≤ 5 ∧ 1 ≤ p ∧ p ≤ 6 ∧ 1 ≤ c ∧ c ≤ n
theorem not_ok {n p c : Int} (h : ¬ okN n p c) : n < 1 ∨ (¬ n < 1 ∧ 5 < n) ∨ (¬ n < 1 ∧ ¬ 5 < n ∧ p < 1) ∨ (¬ n < 1 ∧ ¬ 5 < n ∧ ¬ p < 1 ∧ 6 < p) ∨ (¬ n < 1 ∧ ¬ 5 < n ∧ ¬ p < 1 ∧ ¬ 6 < p ∧ c < 1) ∨ (¬ n < 1 ∧ ¬ 5 < n ∧ ¬ p < 1 ∧ ¬ 6 < p ∧ ¬ c < 1 ∧ n < c) := by
  unfold okN at h
  omega
theorem inew_bad (w : World) {n p c : Int} (h : ¬ okN n p c) : Calls Try.prog 4 #[.int .i64 n, .int .i64 p, .int .i64 c] w fun e w' => e = .returned (.tuple #[.pointer none, .int .i64 1]) ∧ w' = w := by
  rcases not_ok h with h1 | ⟨h1, h2⟩ | ⟨h1, h2, h3⟩ | ⟨h1, h2, h3, h4⟩ | ⟨h1, h2, h3, h4, h5⟩ | ⟨h1, h2, h3, h4, h5, h6⟩
  all_goals
    clear h
    go_enter Try.func4, Try.ntmps4
    go_wp2
    go_returns
    exact ⟨rfl, rfl⟩
theorem rnew_bad (w : World) {n p c : Int} (h : ¬ okN n p c) : Calls Try.prog 5 #[.int .i64 n, .int .i64 p, .int .i64 c] w fun e w' => e = .returned (.tuple #[.pointer none, .int .i64 1]) ∧ w' = w := by
  rcases not_ok h with h1 | ⟨h1, h2⟩ | ⟨h1, h2, h3⟩ | ⟨h1, h2, h3, h4⟩ | ⟨h1, h2, h3, h4, h5⟩ | ⟨h1, h2, h3, h4, h5, h6⟩
  all_goals
    clear h
    go_enter Try.func5, Try.ntmps5
    go_wp2
    go_returns
    exact ⟨rfl, rfl⟩
theorem DN.rdat {w W : World} {rb n p c : Nat} {pv : Value} {ps : List Pm} (h : DN w W rb n pv ps) (hq : ps.map Pm.q = (List.range p).map (newP n c)) : RDat W rb (newI n p c) := by
  obtain ⟨ab, cb, bb, h1, ⟨c1, h2, h3⟩, ⟨c2, h4, h5⟩, ⟨c3, h6, h7⟩⟩ := h.ex
  obtain ⟨a, cap, ep, _, _, _, _, hp⟩ := h.row.parts
  have hl : ps.length = p := by have := congrArg List.length hq; simpa using this
  have l1 : (newI n p c).ns.length = n := by simp [newI]
  have l2 : (newI n p c).ps.length = p := by simp [newI]
  refine ⟨some ⟨ab, 0, none⟩, some ⟨cb, 0, none⟩, some ⟨bb, 0, none⟩, a, n, n, n, cap, ?_, fun i d hd => ?_, fun k q hk => ?_⟩
  · rw [l1, l2]
    rw [ep, hl] at h1
    exact h1
  · have hi : i < n := by
      rcases Nat.lt_or_ge i n with h | h
      · exact h
      · rw [List.getElem?_eq_none (by rw [l1]; exact h)] at hd; cases hd
    have ed : d = ⟨false, 0, 0⟩ := by
      have : d ∈ List.replicate n (⟨false, 0, 0⟩ : Nd) := List.mem_of_getElem? hd
      exact List.eq_of_mem_replicate this
    subst ed
    refine ⟨⟨ab, 0, rfl, lt_of_heap h2, ?_⟩, ⟨cb, 0, rfl, lt_of_heap h4, ?_⟩, ⟨bb, 0, rfl, lt_of_heap h6, ?_⟩⟩
    · rw [cell_of h2, Nat.zero_add]; exact h3 i hi
    · rw [cell_of h4, Nat.zero_add]; exact h5 i hi
    · rw [cell_of h6, Nat.zero_add]; exact h7 i hi
  · have hk' : (ps.map Pm.q)[k]? = some q := by rw [hq]; exact hk
    rw [List.getElem?_map] at hk'
    have hkl : k < ps.length := by
      rcases Nat.lt_or_ge k ps.length with h | h
      · exact h
      · rw [List.getElem?_eq_none h] at hk'; cases hk'
    rw [List.getElem?_eq_getElem hkl] at hk'
    have eq : (ps[k]).q = q := Option.some.inj hk'
    have D := h.each _ (List.getElem_mem hkl)
    obtain ⟨g, rfl, hg, hc, _⟩ := hp (by omega)
    obtain ⟨a1, k1, e1, i1, _⟩ := D.li.iat
    refine ⟨g, 0, rfl, hg, a1, a1, none, k1, k1, 0, fun j hj => ?_, ?_, ?_, ?_⟩
    · rw [Nat.zero_add, hc _ (by omega), flat_at pmC pmC_len ps k j hkl hj]
      unfold pmC
      rw [D.vr, D.vt, e1, eq]
      have r1 := D.rs
      have r2 := D.ts
      rw [eq] at r1 r2
      rw [r1, r2]
      rfl
    · rw [← eq]; exact i1
    · rw [← eq, D.rs]; exact i1
    · rw [← eq, D.ts]; exact fun i hi => by cases hi
end Go.Proofs.Ytfakjcaolpmkeaa
