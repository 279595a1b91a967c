/-
  prod's Table.at. Conditions: the table is one.
-/
import Derived.Test.YtjocjnjdmmihnaaPd1
namespace Go.Proofs.Ytjocjnjdmmihnaa
open Go.RowKit
set_option linter.unusedVariables false

/-- A producer, as it is when a batch of an epoch comes. -/
def atP (q : Pd) (known : Bool) (ep : Int) : Pd := if known = false ∨ q.ep < ep then ⟨ep, 0, none, 0, 0, q.op, q.fi⟩ else q
set_option maxRecDepth 100000 in
set_option maxHeartbeats 1000000 in
theorem at9_any {w : World} {tb : Nat} {mv av : Value} (h : w.heap[tb]? = some (.cells #[mv, av] 49)) (pid : Nat) (ep : Int) (q : Pd) (kn : Bool) (hm : ∀ v, mv = v → ∃ b, v = .map b)
    (hl : ∀ W, Below w.heap.size w W → (Instr.lookup 46 mv (.int .u64 (pid : Int)) true).run Try.prog W = .ok (.tuple #[pdV q, .bool kn]) W) :
    Calls Try.prog 14 #[.pointer (some ⟨tb, 0, none⟩), .int .u64 (pid : Int), .int .i64 ep] w fun e w' => AnsPost w (pdV (atP q kn ep)) e w' := by
  obtain ⟨mb, rfl⟩ := hm mv rfl
  have htb := lt_of_heap h
  have hA : Below w.heap.size w (w.alloc (.cells #[.int .i64 0, .int .i64 0, .slice none 0 0, .bool false, .int .i64 0] 44)) := (Below.refl _ _).alloc (Nat.le_refl _) _
  have c0 : (w.alloc (.cells #[.int .i64 0, .int .i64 0, .slice none 0 0, .bool false, .int .i64 0] 44)).cell? ⟨tb, 0, none⟩ = some (.map mb) := by rw [cell_of (below_keep hA h)]; rfl
  have hl1 := hl _ hA
  obtain ⟨qe, qx, qg, qn, qc, qo, qf⟩ := q
  go_enter Try.func14, Try.ntmps14
  by_cases hk : kn = false ∨ qe < ep
  · have hE : atP ⟨qe, qx, qg, qn, qc, qo, qf⟩ kn ep = ⟨ep, 0, none, 0, 0, qo, qf⟩ := by unfold atP; rw [if_pos hk]
    rw [hE]
    clear hE hl
    cases kn with
    | false =>
      clear hk
      go_wp2
      have hb : ((w.alloc (.cells #[.int .i64 ep, .int .i64 0, .slice none 0 0, .bool qo, .int .i64 qf] 44)).alloc (.cells #[.int .i64 ep, .int .i64 0, .slice none 0 0, .bool qo, .int .i64 qf] 44)).heap[w.heap.size]? = some (.cells #[.int .i64 ep, .int .i64 0, .slice none 0 0, .bool qo, .int .i64 qf] 44) := heap_old _ (heap_new _ _)
      have y0 := cell_of hb 0
      have y1 := cell_of hb 1
      have y2 := cell_of hb 2
      have y3 := cell_of hb 3
      have y4 := cell_of hb 4
      simp only [List.getElem?_toArray, List.getElem?_cons_zero, List.getElem?_cons_succ] at y0 y1 y2 y3 y4
      refine bodyPost_ret (by simp [results, Try.results14, go_sem, y0, y1, y2, y3, y4]; try rfl) rfl ?_
      exact ⟨rfl, ((Below.refl _ _).alloc (Nat.le_refl _) _).alloc (by simp) _⟩
    | true =>
      have hlt : qe < ep := by
        rcases hk with h | h
        · cases h
        · exact h
      clear hk
      go_wp2
      have hb : ((w.alloc (.cells #[.int .i64 ep, .int .i64 0, .slice none 0 0, .bool qo, .int .i64 qf] 44)).alloc (.cells #[.int .i64 ep, .int .i64 0, .slice none 0 0, .bool qo, .int .i64 qf] 44)).heap[w.heap.size]? = some (.cells #[.int .i64 ep, .int .i64 0, .slice none 0 0, .bool qo, .int .i64 qf] 44) := heap_old _ (heap_new _ _)
      have y0 := cell_of hb 0
      have y1 := cell_of hb 1
      have y2 := cell_of hb 2
      have y3 := cell_of hb 3
      have y4 := cell_of hb 4
      simp only [List.getElem?_toArray, List.getElem?_cons_zero, List.getElem?_cons_succ] at y0 y1 y2 y3 y4
      refine bodyPost_ret (by simp [results, Try.results14, go_sem, y0, y1, y2, y3, y4]; try rfl) rfl ?_
      exact ⟨rfl, ((Below.refl _ _).alloc (Nat.le_refl _) _).alloc (by simp) _⟩
  · have hE : atP ⟨qe, qx, qg, qn, qc, qo, qf⟩ kn ep = ⟨qe, qx, qg, qn, qc, qo, qf⟩ := by unfold atP; rw [if_neg hk]
    rw [hE]
    clear hE hl
    have hkt : kn = true := by
      cases kn with
      | false => exact absurd (.inl rfl) hk
      | true => rfl
    have hlt : ¬ qe < ep := fun h => hk (.inr h)
    clear hk
    subst hkt
    go_wp2
    have hb : ((w.alloc (.cells #[.int .i64 qe, .int .i64 qx, .slice (qg.map (fun g => ⟨g, 0, none⟩)) qn qc, .bool qo, .int .i64 qf] 44)).alloc (.cells #[.int .i64 qe, .int .i64 qx, .slice (qg.map (fun g => ⟨g, 0, none⟩)) qn qc, .bool qo, .int .i64 qf] 44)).heap[w.heap.size]? = some (.cells #[.int .i64 qe, .int .i64 qx, .slice (qg.map (fun g => ⟨g, 0, none⟩)) qn qc, .bool qo, .int .i64 qf] 44) := heap_old _ (heap_new _ _)
    have y0 := cell_of hb 0
    have y1 := cell_of hb 1
    have y2 := cell_of hb 2
    have y3 := cell_of hb 3
    have y4 := cell_of hb 4
    simp only [List.getElem?_toArray, List.getElem?_cons_zero, List.getElem?_cons_succ] at y0 y1 y2 y3 y4
    refine bodyPost_ret (by simp [results, Try.results14, go_sem, y0, y1, y2, y3, y4]; try rfl) rfl ?_
    exact ⟨rfl, ((Below.refl _ _).alloc (Nat.le_refl _) _).alloc (by simp) _⟩
end Go.Proofs.Ytjocjnjdmmihnaa
