/-
  The nodes from k on, counted round, as the document lays them: the same list. No conditions.
-/
import Derived.Test.YtfakjcaolpmkeaaIg1
namespace Go.Proofs.Ytfakjcaolpmkeaa
set_option linter.unusedVariables false

def onF (k n x i : Nat) : List Int := ((List.range i).filter (fun j => (k + j) % n == x)).map (fun _ => (x : Int))
def onL (k c n : Nat) : List Int := (List.range n).flatMap (fun x => onF k n x c)
def pwB : List Int → Bool
  | [] => true
  | x :: r => r.all (fun y => decide (x ≤ y)) && pwB r
theorem pwB_pw : ∀ {l : List Int}, pwB l = true → l.Pairwise (fun x y => decide (x ≤ y) = true)
  | [], _ => List.Pairwise.nil
  | x :: r, h => by
    simp only [pwB, Bool.and_eq_true, List.all_eq_true] at h
    exact List.pairwise_cons.2 ⟨h.1, pwB_pw h.2⟩
theorem on_all : ((List.range 6).all fun n => (List.range 6).all fun c => (List.range 6).all fun k => !(decide (1 ≤ n) && decide (c ≤ n)) || ((onL k c n).isPerm (rawA k c n) && pwB (onL k c n))) = true := by decide +kernel
theorem sorted_eq : ∀ {a b : List Int}, a.Perm b → a.Pairwise (fun x y => decide (x ≤ y) = true) → b.Pairwise (fun x y => decide (x ≤ y) = true) → a = b
  | [], b, h, _, _ => by simpa using h.symm.eq_nil
  | x :: r, [], h, _, _ => by simpa using h.length_eq
  | x :: r, y :: s, h, ha, hb => by
    have e : x = y := by
      have h1 : x ∈ y :: s := h.subset (List.mem_cons_self ..)
      have h2 : y ∈ x :: r := h.symm.subset (List.mem_cons_self ..)
      rcases List.mem_cons.1 h1 with e | h1
      · exact e
      · rcases List.mem_cons.1 h2 with e | h2
        · exact e.symm
        · have q1 := of_decide_eq_true ((List.pairwise_cons.1 hb).1 x h1)
          have q2 := of_decide_eq_true ((List.pairwise_cons.1 ha).1 y h2)
          omega
    subst e
    rw [sorted_eq (h.cons_inv) (List.pairwise_cons.1 ha).2 (List.pairwise_cons.1 hb).2]
theorem on_eq {n c k : Nat} (hn : n < 6) (hc : c < 6) (hk : k < 6) (h1 : 1 ≤ n) (h2 : c ≤ n) : onL k c n = arnd k c n := by
  have h := List.all_eq_true.1 (List.all_eq_true.1 (List.all_eq_true.1 on_all n (List.mem_range.2 hn)) c (List.mem_range.2 hc)) k (List.mem_range.2 hk)
  simp only [h1, h2, decide_true, Bool.and_true, Bool.not_true, Bool.false_or, Bool.and_eq_true] at h
  refine sorted_eq ((List.isPerm_iff.1 h.1).trans (List.mergeSort_perm _ _).symm) (pwB_pw h.2) ?_
  exact List.pairwise_mergeSort (fun a b c h1 h2 => by simp at *; omega) (fun a b => by simp; omega) _
end Go.Proofs.Ytfakjcaolpmkeaa
