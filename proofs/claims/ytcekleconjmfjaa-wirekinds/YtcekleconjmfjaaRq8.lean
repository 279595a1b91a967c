/-
  The message that awake writes, its bytes, and how they are read, in plain words. No Go text is read here. No conditions.
-/
import Derived.Test.YtcekleconjmfjaaRq6
namespace Go.Proofs.Ytcekleconjmfjaa
open Go.RowKit
set_option linter.unusedVariables false

def awM : Mg := { mg0 with kd := 14, fr := 3, co := 1, o1 := 2, o6 := 1 }
def awT : List Nat := [28, 6, 0, 2, 0, 4, 0, 0, 0, 0, 2, 0, 0, 0, 0, 0, 0, 0, 0, 0]
theorem zig_small : zig 0 = 0 ∧ zig 1 = 2 ∧ zig 2 = 4 ∧ zig 3 = 6 ∧ zig 14 = 28 := by decide
theorem aw_E : finE awM = 0 := by
  simp [finE, msgE, msgS, restE, restS, headS, othersS, kndE, fst0, cntE, batE, batS, errs, wX, wB, lays, awM, mg0]
theorem aw_L : finL awM = awT := by
  unfold finL
  rw [aw_E, if_pos rfl]
  simp [msgS, restS, headS, othersS, batS, wX, wB, lays, encL, awM, mg0, awT, zig_small, enc_lt]
theorem aw_in (w : World) : MgIn w awM := by
  constructor
  all_goals first
    | (intro x hx; simp [awM, mg0] at hx; unfold I64; omega)
    | (intro i hi; simp [awM, mg0] at hi)
    | (simp [awM, mg0]; done)
    | (exact ⟨by intro i hi; simp [awM, mg0] at hi, by simp [awM, mg0]⟩)
    | skip
  · exact ⟨⟨by decide, by decide⟩, ⟨by decide, by decide⟩, ⟨by decide, by decide⟩, ⟨by decide, by decide⟩, ⟨by decide, by decide⟩, fun x hx => by cases hx⟩
  · exact ⟨⟨by decide, by decide⟩, ⟨by decide, by decide⟩, by decide, ⟨by decide, by decide⟩, ⟨by decide, by decide⟩⟩
theorem aw_head : rI awT ⟨0, 0⟩ = (14, ⟨1, 0⟩) ∧ rI awT ⟨1, 0⟩ = (3, ⟨2, 0⟩) ∧ rI awT ⟨2, 0⟩ = (0, ⟨3, 0⟩) ∧ rI awT ⟨3, 0⟩ = (1, ⟨4, 0⟩) ∧ rI awT ⟨4, 0⟩ = (0, ⟨5, 0⟩) := ⟨rfl, rfl, rfl, rfl, rfl⟩
theorem aw_rest : rI awT ⟨5, 0⟩ = (2, ⟨6, 0⟩) ∧ rI awT ⟨6, 0⟩ = (0, ⟨7, 0⟩) ∧ rI awT ⟨7, 0⟩ = (0, ⟨8, 0⟩) ∧ rI awT ⟨8, 0⟩ = (0, ⟨9, 0⟩) ∧ rI awT ⟨9, 0⟩ = (0, ⟨10, 0⟩) ∧ rI awT ⟨10, 0⟩ = (1, ⟨11, 0⟩) ∧ rI awT ⟨11, 0⟩ = (0, ⟨12, 0⟩) ∧ rI awT ⟨12, 0⟩ = (0, ⟨13, 0⟩) ∧ rI awT ⟨13, 0⟩ = (0, ⟨14, 0⟩) := ⟨rfl, rfl, rfl, rfl, rfl, rfl, rfl, rfl, rfl⟩
theorem aw_end : rU awT ⟨14, 0⟩ = (0, ⟨15, 0⟩) ∧ rF awT ⟨15, 0⟩ = (false, ⟨16, 0⟩) ∧ rL awT ⟨16, 0⟩ = ([], ⟨17, 0⟩) ∧ rB awT ⟨17, 0⟩ = ([], ⟨18, 0⟩) ∧ rU awT ⟨18, 0⟩ = (0, ⟨19, 0⟩) ∧ rU awT ⟨19, 0⟩ = (0, ⟨20, 0⟩) ∧ rE awT ⟨20, 0⟩ = 0 := ⟨rfl, rfl, rfl, rfl, rfl, rfl, rfl⟩
end Go.Proofs.Ytcekleconjmfjaa
