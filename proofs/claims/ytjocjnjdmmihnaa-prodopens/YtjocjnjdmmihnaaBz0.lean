/-
  Batches as plain functions on lists: what is wrong with one, its form, what is read off bytes; there and back, cuts, bytes behind. No Go text is read here. No conditions.
-/
import Derived.Test.YtjocjnjdmmihnaaWd8
namespace Go.Proofs.Ytjocjnjdmmihnaa
set_option linter.unusedVariables false

/-- A batch. -/
structure Bt where
  base : Int
  epoch : Int
  pid : Nat
  pep : Int
  seq : Int
  txn : Bool
  ctl : Bool
  com : Bool
  vs : List (List Nat)
def I64 (i : Int) : Prop := -9223372036854775808 ≤ i ∧ i < 9223372036854775808
structure Bt.Fits (b : Bt) : Prop where
  base : I64 b.base
  epoch : I64 b.epoch
  pid : b.pid < 18446744073709551616
  pep : I64 b.pep
  seq : I64 b.seq

def outB (b : Bt) : Prop := b.base < 0 ∨ b.epoch < 0 ∨ b.pep < 0 ∨ b.seq < 0 ∨ 1000 < b.pep ∨ 1000 < b.pid
def prodB (b : Bt) : Prop := b.pid = 0 ∧ (b.txn = true ∨ b.pep ≠ 0 ∨ b.seq ≠ 0)
def kindB (b : Bt) : Prop := (b.ctl = true ∧ (0 < b.vs.length ∨ b.txn = false ∨ b.pid = 0 ∨ b.seq ≠ 0)) ∨ (b.ctl = false ∧ (b.vs.length = 0 ∨ b.com = true))
def longB (vs : List (List Nat)) : Prop := 16 < vs.length ∨ ∃ v ∈ vs, 64 < v.length
instance (b : Bt) : Decidable (outB b) := by unfold outB; infer_instance
instance (b : Bt) : Decidable (prodB b) := by unfold prodB; infer_instance
instance (b : Bt) : Decidable (kindB b) := by unfold kindB; infer_instance
instance (vs : List (List Nat)) : Decidable (longB vs) := by unfold longB; infer_instance
/-- What is wrong first. -/
def chk (b : Bt) : Nat := if outB b then 1 else if prodB b ∨ kindB b then 7 else if longB b.vs then 2 else 0
theorem chk_le (b : Bt) : chk b ≤ 7 := by
  unfold chk
  split
  · omega
  · split
    · omega
    · split <;> omega
theorem chk_out {b : Bt} (h : outB b) : chk b = 1 := by unfold chk; rw [if_pos h]
theorem chk_form {b : Bt} (h : ¬ outB b) (k : prodB b ∨ kindB b) : chk b = 7 := by unfold chk; rw [if_neg h, if_pos k]
theorem chk_long {b : Bt} (h : ¬ outB b) (k : ¬ (prodB b ∨ kindB b)) (l : longB b.vs) : chk b = 2 := by unfold chk; rw [if_neg h, if_neg k, if_pos l]
theorem chk_ok {b : Bt} (h : ¬ outB b) (k : ¬ (prodB b ∨ kindB b)) (l : ¬ longB b.vs) : chk b = 0 := by unfold chk; rw [if_neg h, if_neg k, if_neg l]
theorem chk_zero {b : Bt} (h : chk b = 0) : b.vs.length ≤ 16 ∧ ∀ v ∈ b.vs, v.length ≤ 64 := by
  unfold chk at h
  split at h
  · omega
  · split at h
    · omega
    · split at h
      · omega
      · rename_i hl
        unfold longB at hl
        refine ⟨by omega, fun v hv => ?_⟩
        have : ¬ 64 < v.length := fun h => hl (.inr ⟨v, hv, h⟩)
        omega

end Go.Proofs.Ytjocjnjdmmihnaa
