/-
  A log's row read. No conditions.
-/
import Derived.Test.YtjocjnjdmmihnaaQp9
import Derived.Test.YtjocjnjdmmihnaaQj9
namespace Go.Proofs.Ytjocjnjdmmihnaa
open Go.RowKit
set_option linter.unusedVariables false

theorem flat_en (log : List En) {i j : Nat} (hi : i < log.length) (hj : j < 9) : (log.flatMap enC)[i * 9 + j]? = (enC log[i])[j]? := by
  induction log generalizing i with
  | nil => cases hi
  | cons x r ih =>
    rw [List.flatMap_cons]
    cases i with
    | zero => rw [List.getElem?_append_left (by simp [enC]; omega)]; simp
    | succ i =>
      rw [List.getElem?_append_right (by simp [enC]; omega)]
      have e : (i + 1) * 9 + j - (enC x).length = i * 9 + j := by simp [enC]; omega
      rw [e, ih (by simpa using hi)]
      rfl
theorem Wide.rows {w : World} {a : Option Addr} {cap : Nat} {log : List En} (h : Wide w 30 9 (.slice a log.length cap) log.length (log.flatMap enC)) : RowsAt enC 9 w a log := by
  intro i hi
  obtain ⟨a', c', e1, _, _, _, _, hp⟩ := h.parts
  injection e1 with e1 e2 e3
  obtain ⟨g, hg, hlt, hcell, _⟩ := hp (by omega)
  refine ⟨g, 0, by rw [e1, hg], hlt, fun j hj => ?_⟩
  rw [Nat.zero_add, ← flat_en log hi hj]
  exact hcell _ (by omega)
theorem nxtL_take {log : List En} {k : Nat} (hk : k < log.length) (s : Nat) (ep : Int) : nxtL (log.take (k + 1)) s ep = nxtF s ep (nxtL (log.take k) s ep) log[k] := by
  rw [List.take_succ_eq_append_getElem hk, nxtL_snoc]
end Go.Proofs.Ytjocjnjdmmihnaa
