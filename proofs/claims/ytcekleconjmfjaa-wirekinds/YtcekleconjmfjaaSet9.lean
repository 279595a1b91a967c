/-
  A block of nine cells that is laid cell by cell. Plain lemmas: no Go text is read here. No conditions.
-/
import Derived.Test.YtcekleconjmfjaaBase
namespace Go.Proofs.Ytcekleconjmfjaa
open Go.RowKit
set_option linter.unusedVariables false

theorem set1 {u : World} {g : Nat} {cs cs' : Array Value} {t : TypeId} (h : u.heap[g]? = some (.cells cs t)) (i : Nat) (v : Value) (e : cs.setIfInBounds i v = cs') : (u.setCell ⟨g, i, none⟩ v).heap[g]? = some (.cells cs' t) := by
  rw [← e]; exact heap_set h i v
/-- Nine cells are laid one behind the other. -/
theorem set9 {u : World} {g : Nat} {cs : Array Value} {t : TypeId} (h : u.heap[g]? = some (.cells cs t)) (hs : cs.size = 9) (v0 v1 v2 v3 v4 v5 v6 v7 v8 : Value) :
    (((((((((u.setCell ⟨g, 0, none⟩ v0).setCell ⟨g, 1, none⟩ v1).setCell ⟨g, 2, none⟩ v2).setCell ⟨g, 3, none⟩ v3).setCell ⟨g, 4, none⟩ v4).setCell ⟨g, 5, none⟩ v5).setCell ⟨g, 6, none⟩ v6).setCell ⟨g, 7, none⟩ v7).setCell ⟨g, 8, none⟩ v8).heap[g]? = some (.cells #[v0, v1, v2, v3, v4, v5, v6, v7, v8] t) ∧ Touch (· = g) u (((((((((u.setCell ⟨g, 0, none⟩ v0).setCell ⟨g, 1, none⟩ v1).setCell ⟨g, 2, none⟩ v2).setCell ⟨g, 3, none⟩ v3).setCell ⟨g, 4, none⟩ v4).setCell ⟨g, 5, none⟩ v5).setCell ⟨g, 6, none⟩ v6).setCell ⟨g, 7, none⟩ v7).setCell ⟨g, 8, none⟩ v8) := by
  match cs, hs with
  | ⟨[c0, c1, c2, c3, c4, c5, c6, c7, c8]⟩, _ =>
    have e0 := set1 h 0 v0 (cs' := #[v0, c1, c2, c3, c4, c5, c6, c7, c8]) rfl
    have e1 := set1 e0 1 v1 (cs' := #[v0, v1, c2, c3, c4, c5, c6, c7, c8]) rfl
    have e2 := set1 e1 2 v2 (cs' := #[v0, v1, v2, c3, c4, c5, c6, c7, c8]) rfl
    have e3 := set1 e2 3 v3 (cs' := #[v0, v1, v2, v3, c4, c5, c6, c7, c8]) rfl
    have e4 := set1 e3 4 v4 (cs' := #[v0, v1, v2, v3, v4, c5, c6, c7, c8]) rfl
    have e5 := set1 e4 5 v5 (cs' := #[v0, v1, v2, v3, v4, v5, c6, c7, c8]) rfl
    have e6 := set1 e5 6 v6 (cs' := #[v0, v1, v2, v3, v4, v5, v6, c7, c8]) rfl
    have e7 := set1 e6 7 v7 (cs' := #[v0, v1, v2, v3, v4, v5, v6, v7, c8]) rfl
    have e8 := set1 e7 8 v8 (cs' := #[v0, v1, v2, v3, v4, v5, v6, v7, v8]) rfl
    refine ⟨e8, ?_⟩
    have t0 := touch_set u g 0 v0
    have t1 := t0.trans (touch_set _ g 1 v1)
    have t2 := t1.trans (touch_set _ g 2 v2)
    have t3 := t2.trans (touch_set _ g 3 v3)
    have t4 := t3.trans (touch_set _ g 4 v4)
    have t5 := t4.trans (touch_set _ g 5 v5)
    have t6 := t5.trans (touch_set _ g 6 v6)
    have t7 := t6.trans (touch_set _ g 7 v7)
    have t8 := t7.trans (touch_set _ g 8 v8)
    exact t8
theorem set9_cells {u : World} {g : Nat} {cs : Array Value} {t : TypeId} (h : u.heap[g]? = some (.cells cs t)) (hs : cs.size = 9) (v0 v1 v2 v3 v4 v5 v6 v7 v8 : Value) :
    (u.setCell ⟨g, 0, none⟩ v0).cell? ⟨g, 0, none⟩ = some v0 ∧ ((u.setCell ⟨g, 0, none⟩ v0).setCell ⟨g, 1, none⟩ v1).cell? ⟨g, 1, none⟩ = some v1 ∧ (((u.setCell ⟨g, 0, none⟩ v0).setCell ⟨g, 1, none⟩ v1).setCell ⟨g, 2, none⟩ v2).cell? ⟨g, 2, none⟩ = some v2 ∧ ((((u.setCell ⟨g, 0, none⟩ v0).setCell ⟨g, 1, none⟩ v1).setCell ⟨g, 2, none⟩ v2).setCell ⟨g, 3, none⟩ v3).cell? ⟨g, 3, none⟩ = some v3 ∧ (((((u.setCell ⟨g, 0, none⟩ v0).setCell ⟨g, 1, none⟩ v1).setCell ⟨g, 2, none⟩ v2).setCell ⟨g, 3, none⟩ v3).setCell ⟨g, 4, none⟩ v4).cell? ⟨g, 4, none⟩ = some v4 ∧ ((((((u.setCell ⟨g, 0, none⟩ v0).setCell ⟨g, 1, none⟩ v1).setCell ⟨g, 2, none⟩ v2).setCell ⟨g, 3, none⟩ v3).setCell ⟨g, 4, none⟩ v4).setCell ⟨g, 5, none⟩ v5).cell? ⟨g, 5, none⟩ = some v5 ∧ (((((((u.setCell ⟨g, 0, none⟩ v0).setCell ⟨g, 1, none⟩ v1).setCell ⟨g, 2, none⟩ v2).setCell ⟨g, 3, none⟩ v3).setCell ⟨g, 4, none⟩ v4).setCell ⟨g, 5, none⟩ v5).setCell ⟨g, 6, none⟩ v6).cell? ⟨g, 6, none⟩ = some v6 ∧ ((((((((u.setCell ⟨g, 0, none⟩ v0).setCell ⟨g, 1, none⟩ v1).setCell ⟨g, 2, none⟩ v2).setCell ⟨g, 3, none⟩ v3).setCell ⟨g, 4, none⟩ v4).setCell ⟨g, 5, none⟩ v5).setCell ⟨g, 6, none⟩ v6).setCell ⟨g, 7, none⟩ v7).cell? ⟨g, 7, none⟩ = some v7 ∧ (((((((((u.setCell ⟨g, 0, none⟩ v0).setCell ⟨g, 1, none⟩ v1).setCell ⟨g, 2, none⟩ v2).setCell ⟨g, 3, none⟩ v3).setCell ⟨g, 4, none⟩ v4).setCell ⟨g, 5, none⟩ v5).setCell ⟨g, 6, none⟩ v6).setCell ⟨g, 7, none⟩ v7).setCell ⟨g, 8, none⟩ v8).cell? ⟨g, 8, none⟩ = some v8 := by
  match cs, hs with
  | ⟨[c0, c1, c2, c3, c4, c5, c6, c7, c8]⟩, _ =>
    have e0 := set1 h 0 v0 (cs' := #[v0, c1, c2, c3, c4, c5, c6, c7, c8]) rfl
    have e1 := set1 e0 1 v1 (cs' := #[v0, v1, c2, c3, c4, c5, c6, c7, c8]) rfl
    have e2 := set1 e1 2 v2 (cs' := #[v0, v1, v2, c3, c4, c5, c6, c7, c8]) rfl
    have e3 := set1 e2 3 v3 (cs' := #[v0, v1, v2, v3, c4, c5, c6, c7, c8]) rfl
    have e4 := set1 e3 4 v4 (cs' := #[v0, v1, v2, v3, v4, c5, c6, c7, c8]) rfl
    have e5 := set1 e4 5 v5 (cs' := #[v0, v1, v2, v3, v4, v5, c6, c7, c8]) rfl
    have e6 := set1 e5 6 v6 (cs' := #[v0, v1, v2, v3, v4, v5, v6, c7, c8]) rfl
    have e7 := set1 e6 7 v7 (cs' := #[v0, v1, v2, v3, v4, v5, v6, v7, c8]) rfl
    have e8 := set1 e7 8 v8 (cs' := #[v0, v1, v2, v3, v4, v5, v6, v7, v8]) rfl
    have f0 := cell_of e0 0
    have f1 := cell_of e1 1
    have f2 := cell_of e2 2
    have f3 := cell_of e3 3
    have f4 := cell_of e4 4
    have f5 := cell_of e5 5
    have f6 := cell_of e6 6
    have f7 := cell_of e7 7
    have f8 := cell_of e8 8
    exact ⟨f0, f1, f2, f3, f4, f5, f6, f7, f8⟩
end Go.Proofs.Ytcekleconjmfjaa
