/-
  A request is put together: a message of 59 cells and what takes its answer. Conditions: its length.
-/
import Derived.Test.YtbonlonkienhaaaCs8
import Derived.Laws.Tables
namespace Go.Proofs.Ytbonlonkienhaaa
open Go.RowKit
set_option linter.unusedVariables false

def reqD (M : List Value) (f : FuncId) : List Value := M ++ [.func (.func f) #[] #[], .int .i64 0]
theorem rq_info : ∃ it z fields, Try.prog.info? 75 = some it ∧ Try.prog.underlying 75 = some (.struct fields) ∧ it.zero = some z ∧ z.cells.size = 61 ∧ z.cells[60]? = some (.int .i64 0) ∧ fields.toList.mapM (fun f => (Try.prog.info? f.type).map fun i => (f.offset, i.size)) = some [(0, 59), (59, 1), (60, 1)] := by
  have h : (match Try.prog.info? 75, Try.prog.underlying 75 with
    | some it, some (.struct fields) => (it.zero.map (fun z => z.cells.size), it.zero.bind (fun z => z.cells[60]?), fields.toList.mapM (fun f => (Try.prog.info? f.type).map fun i => (f.offset, i.size)))
    | _, _ => (none, none, none)) = (some 61, some (.int .i64 0), some [(0, 59), (59, 1), (60, 1)]) := by kernel_rfl
  split at h
  · rename_i it fields h1 h2
    simp only [Prod.mk.injEq] at h
    obtain ⟨ha, hb, hc⟩ := h
    obtain ⟨z, hz, hs⟩ := Option.map_eq_some_iff.1 ha
    rw [hz] at hb
    exact ⟨it, z, fields, h1, h2, hz, hs, hb, hc⟩
  · simp at h
theorem built_rq {M : List Value} {f : FuncId} (hm : M.length = 59) : Try.prog.built 75 [(0, .agg M.toArray), (1, .func (.func f) #[] #[])] = some (reqD M f).toArray := by
  obtain ⟨it, z, fields, h1, h2, hz, hs, h60, hp⟩ := rq_info
  unfold Program.built
  rw [h1, h2]
  simp only [hz, hp]
  clear hz hp h1 h2
  generalize z.cells = Z at *
  have e : (M.toArray.zipIdx.foldl (fun cs (p : Value × Nat) => cs.setIfInBounds (0 + p.2) p.1) Z) = lay Z 0 M := by
    rw [← Array.foldl_toList, Array.toList_zipIdx]
    show (M.zipIdx 0).foldl _ Z = _
    rw [lay_fold]
  have ez : (lay Z 0 M).size = 61 := by rw [lay_size, hs]
  have e1 : Instr.fill ([(0, 59), (59, 1), (60, 1)].toArray[·]?) Z [(0, .agg M.toArray), (1, .func (.func f) #[] #[])] = Instr.fill ([(0, 59), (59, 1), (60, 1)].toArray[·]?) (lay Z 0 M) [(1, .func (.func f) #[] #[])] := by
    rw [Instr.fill]
    simp only [List.getElem?_toArray, List.getElem?_cons_zero, Value.cells, List.size_toArray]
    rw [if_neg (by simp [hm, hs])]
    exact congrArg (fun q => Instr.fill _ q _) e
  rw [e1, Instr.fill]
  simp only [List.getElem?_toArray, List.getElem?_cons_succ, List.getElem?_cons_zero, Value.cells]
  rw [if_neg (by simp [ez])]
  simp only [Instr.fill]
  refine congrArg some ?_
  show (lay Z 0 M).setIfInBounds (59 + 0) (.func (.func f) #[] #[]) = _
  refine Array.ext_getElem? fun i => ?_
  rw [Array.getElem?_setIfInBounds, lay_at, ez, hs]
  by_cases h59 : i = 59
  · subst h59
    simp [reqD, hm]
  · rw [if_neg (by omega)]
    by_cases hl : i < 59
    · rw [if_pos (by omega)]
      simp [reqD, List.getElem?_append_left, hm, hl]
    · rw [if_neg (by omega)]
      by_cases h6 : i = 60
      · subst h6
        simp [reqD, hm, h60]
      · rw [Array.getElem?_eq_none (by omega), List.getElem?_toArray, List.getElem?_eq_none (by simp [reqD, hm]; omega)]
/-- A request is built. -/
theorem build_rq {ops : Array Oper} {rest : List Oper} {o : Oper} {a : Act} {w : World} {Q : Exit → Act → World → Prop} (hg : o.guard = none) (x y : Operand) (ho : o.op = .build 75 #[(0, x), (1, y)]) (M : List Value) (f : FuncId) (hx : a.eval x = .agg M.toArray) (hy : a.eval y = .func (.func f) #[] #[]) (hm : M.length = 59)
    (h : wpList Try.prog ops Q rest (a.put o.dst (.agg (reqD M f).toArray)) w) : wpList Try.prog ops Q (o :: rest) a w := by
  have e : (#[(0, x), (1, y)].map fun (p : Nat × Operand) => (p.1, a.eval p.2)).toList = [(0, .agg M.toArray), (1, .func (.func f) #[] #[])] := by simp [hx, hy]
  have e2 : Try.prog.built 75 (#[(0, x), (1, y)].map fun (p : Nat × Operand) => (p.1, a.eval p.2)).toList = some (reqD M f).toArray := by rw [e]; exact built_rq hm
  refine wpList_build hg 75 #[(0, x), (1, y)] ho (by rw [e2]; rfl) ?_
  rw [e2]
  exact h
theorem rq_len {M : List Value} {f : FuncId} (hm : M.length = 59) : (reqD M f).length = 61 := by simp [reqD, hm]
theorem info_rq : (Try.prog.info? 75).map (·.size) = some 61 := by kernel_rfl
theorem rq_one {M : List Value} {f : FuncId} (h : ∀ v ∈ M, v.oneCell' = true) : (reqD M f).toArray.all (·.oneCell') = true := all_oneCell_toArray (fun v hv => by
  rcases List.mem_append.1 hv with h1 | h1
  · exact h v h1
  · simp only [List.mem_cons, List.not_mem_nil, or_false] at h1
    rcases h1 with rfl | rfl <;> rfl)
end Go.Proofs.Ytbonlonkienhaaa
