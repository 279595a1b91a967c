/-
  penstockref07's Copy: a batch with values of its own. penstockref03's Same and penstockref07's Same at any two. Conditions: the values and each of them are as great as memory can be.
-/
import Derived.Test.YtcekleconjmfjaaCk7
import Derived.Test.YtcekleconjmfjaaSet9
import Derived.Test.YtcekleconjmfjaaRf2
namespace Go.Proofs.Ytcekleconjmfjaa
open Go.RowKit
set_option linter.unusedVariables false

theorem take_succ_l {ls : List (List Nat)} {k : Nat} (h : k < ls.length) : ls.take (k + 1) = ls.take k ++ [ls.getD k []] := by
  rw [List.take_add_one]
  simp [List.getD, h]
theorem getD_mem_l {ls : List (List Nat)} {k : Nat} (h : k < ls.length) : ls.getD k [] ∈ ls := by simp [List.getD, h]
/-- What the loop has. -/
def Copied (w wr : World) (v : Value) (ls : List (List Nat)) : Prop := Paid w wr v ls ∧ New w v ∧ Below w.heap.size w wr
def CoPost (w : World) (b : Bt) (e : Ending) (w' : World) : Prop := ∃ a cap, e = .returned (bv b a cap) ∧ Copied w w' (.slice a b.vs.length cap) b.vs
theorem fresh_nil {w w3 : World} {v : Value} {p : List Nat} (r3 : Row w3 v p) (t3 : Touch (fun k => (Value.slice none 0 0).ownBlock = some k) w w3) (m3 : Moved w (.slice none 0 0) v) : Fresh w w3 v p :=
  ⟨r3, (New.nil w).moved m3 (Nat.le_refl _), below_touch (Below.refl _ _) t3 (Nat.le_refl _) (fun k hk => by simp [Value.ownBlock] at hk)⟩

end Go.Proofs.Ytcekleconjmfjaa
