/-
  Rows of numbers in a box that a round of a range over a function grows. Conditions: at most 8 * 10^12 numbers.
-/
import Derived.Test.YtfpcocagifmpbaaDu10
namespace Go.Proofs.Ytfpcocagifmpbaa
open Go Go.RowKit
set_option linter.unusedVariables false

theorem heap_grown {W W' : World} {row : Option Nat} {k : Nat} {cs : Array Value} {t : TypeId} (h : W.heap[k]? = some (.cells cs t)) (hg : W.grownBy W' row) (hr : ∀ r, row = some r → ∃ o : Obj, W.heap[r]? = some o ∧ o.isCells = false) : W'.heap[k]? = some (.cells cs t) := by
  rw [hg.block k (lt_of_heap h) (fun e => ?_)]
  · exact h
  · obtain ⟨o, ho, hn⟩ := hr k e.symm
    rw [h] at ho
    cases ho
    simp [Obj.isCells] at hn
theorem own_grown {W W' : World} {row : Option Nat} {e : TypeId} {u : Value} {xs : List Value} (h : Own W e u xs) (hg : W.grownBy W' row) (hr : ∀ r, row = some r → ∃ o : Obj, W.heap[r]? = some o ∧ o.isCells = false) : Own W' e u xs := by
  refine ⟨h.1, ?_⟩
  rcases h.2 with hn | ⟨g, cap, cur, rfl, hb, hgg, rest⟩
  · exact .inl hn
  · exact .inr ⟨g, cap, cur, rfl, hb, heap_grown hgg hg hr, rest⟩
/-- append(row, number), in a fence. -/
theorem wpListIn_i1 {F : Fence} {n : Nat} (w : World) {ops : Array Oper} {rest : List Oper} {o : Oper} {a : Act} {Q : Exit → Act → World → Prop}
    (hg : o.guard = none) (s x : Operand) (hop : o.op = Op.call { callee := Callee.builtin Builtin.append, args := #[s, x], argTypes := #[26, 26] })
    (v : Value) (xs : List Value) (hs : a.eval s = v) (hr : Own w 3 v xs) (g : Nat) (z : Int) (hx : a.eval x = .slice (some ⟨g, 0, none⟩) 1 1) (hc : w.cell? ⟨g, 0, none⟩ = some (.int .i64 z)) (hlen : xs.length ≤ 8000000000000)
    (hK : ∀ v' w', Own w' 3 v' (xs ++ [.int .i64 z]) → Touch (fun k => v.ownBlock = some k) w w' → Moved w v v' → wpListIn F n Try.prog ops Q rest (a.put o.dst v') w') :
    wpListIn F n Try.prog ops Q (o :: rest) a w := by
  refine wpListIn_plain hg fun K hK' => ?_
  obtain ⟨i, hi, hz, hsz, hby⟩ := i64_info
  obtain ⟨v', w', hrun, r1, r2, r3⟩ := run_app (P := Try.prog) w 26 o.type 3 i (.int .i64 0) 8 Try.underlying26 hi hz hsz hby rfl v xs hr (some ⟨g, 0, none⟩) 1 1 [.int .i64 z] rfl (fun j u hj => ⟨g, 0, rfl, by
    cases j with
    | zero => simp at hj; rw [← hj]; exact hc
    | succ j => simp at hj⟩) (by simp [Value.oneCell']) (fun h => by cases h) (by unfold maxLen; omega) (by omega)
  unfold Oper.wpIn
  refine ⟨?_, ?_⟩
  · simp [Oper.about, hop, resolve, Target.leads, Sem.run_pure]
  · rw [Oper.semAt_plain F _ _ (by rw [hop]; intro c hc'; cases hc')]
    simp [execOp, hop, resolve, invoke, builtin, hs, hx, hrun, Result.andThen]
    exact hK' _ _ (hK v' w' r1 r2 r3)

theorem keeps_touch {S : Nat → Prop} {W W' : World} (t : Touch S W W') (h : ∀ k, S k → ∃ cs ty, W.heap[k]? = some (.cells cs ty)) : KeepsOthers W W' := ⟨t.size, fun k o hk ho => t.keep hk (fun e => by
  obtain ⟨cs, ty, g⟩ := h k e
  rw [g] at hk
  cases hk
  simp [Obj.isCells] at ho)⟩
theorem keeps_cells {S : Nat → Prop} {W W' : World} (t : Touch S W W') (h : ∀ k, S k → ∃ o : Obj, W.heap[k]? = some o ∧ o.isCells = true) : KeepsOthers W W' := ⟨t.size, fun k o hk ho => t.keep hk (fun e => by
  obtain ⟨o2, g, g2⟩ := h k e
  rw [g] at hk
  cases hk
  rw [ho] at g2
  cases g2)⟩
/-- A box that holds a row of numbers, which was made since. -/
structure Bo (B : Nat) (W : World) (lb : Nat) (u : Value) (xs : List Value) : Prop where
  box : W.heap[lb]? = some (.cells #[u] 26)
  row : Own W 3 u xs
  new : ∀ k, u.ownBlock = some k → B ≤ k
section
variable {B : Nat} {W W' w3 : World} {lb : Nat} {u u3 : Value} {xs : List Value} {z : Value} {o : Obj}
theorem Bo.grown {row : Option Nat} (h : Bo B W lb u xs) (hg : W.grownBy W' row) (hr : ∀ r, row = some r → ∃ o : Obj, W.heap[r]? = some o ∧ o.isCells = false) : Bo B W' lb u xs := ⟨heap_grown h.box hg hr, own_grown h.row hg hr, h.new⟩
theorem Bo.later (h : Bo B W lb u xs) (hb : Below W.heap.size W W') : Bo B W' lb u xs := ⟨below_keep hb h.box, h.row.later hb, h.new⟩
theorem Bo.keep {S : Nat → Prop} (h : Bo B W lb u xs) (t : Touch S W W') (h1 : ¬ S lb) (h2 : ∀ k, u.ownBlock = some k → ¬ S k) : Bo B W' lb u xs := ⟨t.keep h.box h1, h.row.keep t h2, h.new⟩
theorem Bo.cell (h : Bo B W lb u xs) : W.cell? ⟨lb, 0, none⟩ = some u := by rw [cell_of h.box]; rfl
theorem Bo.frz (h : Bo B W lb u xs) : W.frozen? ⟨lb, 0, none⟩ = false := frozen_of h.box 0
/-- One more. -/
theorem Bo.more (h : Bo B W lb u xs) (hlb : lb < B) (hB : B ≤ W.heap.size) (o3 : Own w3 3 u3 (xs ++ [z])) (t3 : Touch (fun k => u.ownBlock = some k) (W.alloc o) w3) (m3 : Moved (W.alloc o) u u3) :
    Bo B (w3.setCell ⟨lb, 0, none⟩ u3) lb u3 (xs ++ [z]) ∧ Touch (fun k => k = lb ∨ u.ownBlock = some k) W (w3.setCell ⟨lb, 0, none⟩ u3) ∧ Moved W u u3 ∧ w3.heap[lb]? = some (.cells #[u] 26) := by
  have hA : Below W.heap.size W (W.alloc o) := (Below.refl _ _).alloc (Nat.le_refl _) _
  have hne : u.ownBlock ≠ some lb := fun e => by have := h.new lb e; omega
  have hb3 := t3.keep (below_keep hA h.box) hne
  have ts := touch_set w3 lb 0 u3
  have mv : Moved W u u3 := fun k hk => by
    rcases m3 k hk with e | e
    · exact .inl e
    · exact .inr (Nat.le_trans hA.size e)
  have nu : ∀ k, u3.ownBlock = some k → B ≤ k := fun k hk => by
    rcases mv k hk with e | e
    · exact h.new k e
    · omega
  refine ⟨⟨heap_set hb3 0 u3, o3.keep ts (fun k hk e => by have := nu k hk; omega), nu⟩, ?_, mv, hb3⟩
  exact ((Touch.of_below (S := fun k => k = lb ∨ u.ownBlock = some k) hA).trans (t3.mono (fun k hk => .inr hk))).trans (ts.mono (fun k hk => .inl hk))
theorem Bo.others (h : Bo B W lb u xs) (t : Touch (fun k => k = lb ∨ u.ownBlock = some k) W W') : KeepsOthers W W' := keeps_touch t (fun k hk => by
  rcases hk with e | e
  · subst e; exact ⟨_, _, h.box⟩
  · obtain ⟨cs, g⟩ := own_heap h.row e; exact ⟨_, _, g⟩)
theorem Bo.shape (h : Bo B W lb u xs) : ∃ a c, u = .slice a xs.length c := own_shape h.row
end
end Go.Proofs.Ytfpcocagifmpbaa
