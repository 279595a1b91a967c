/-
  GateMarks returns true at every input, and leaves its argument as it was. Conditions: none.
-/
import Derived.Test.YtbojiafnapcgnaaRows
import Derived.Test.YtbojiafnapcgnaaGateMarksWalk
import Derived.Test.YtbojiafnapcgnaaPairs
import Derived.WalkKit
import Derived.ProofKit
import Derived.OpenShut
import Derived.ShutString
import Derived.ChangeOld
import Derived.Below
namespace Go.Proofs.Ytbojiafnapcgnaa.gateMarks
open Go.ChangeShapes Go.WideShapes Go.ChangeAt Go.RowKit
open Go.ChangeMaps (open_string shut_string)
set_option linter.unusedVariables false

theorem own : ownKnob Try.prog.godebug = none := by kernel_rfl
theorem laidOut : laidOutB Try.prog = true := by kernel_rfl

set_option maxRecDepth 100000 in
theorem lifted (os : Os) (started : os.Started) (H : Type) (enc : TypeId × Value → H) :
    ReturnsInHanded {} Try.checked os 7 .any (Rows.gateMarksSpec.pre6 enc Try.prog Try.f7 Rows.gateMarksRow.domain false) (Rows.gateMarksSpec.post enc Try.prog Try.f7 false true false false) := by
  refine returnsInHanded_of_change (C := Try.checked) own started (by kernel_rfl) Try.func7
    (ChangeSpec.witness6 (enc := enc) (C := Try.checked) false ⟨#[], #[.slice none 0 0], []⟩ 8 (by kernel_rfl) (by kernel_rfl) (by kernel_rfl) (by kernel_rfl)) ?_
  intro W base args ds gs before hval0 hW hcnd _
  have hval : ∀ (j : Nat) t v, Try.f7.params[j]? = some t → args[j]? = some v → Value.okWide Try.prog W .any base t v := hval0
  have hW' := hW
  obtain ⟨p, q, hA0, hV, rfl, hfz, hnd⟩ := hW
  have hA : DataW.TrodAll enc Try.prog W 0 (fun _ => true) true Try.f7.params.toList args.toList ds p := hA0
  rw [Try.params7] at hA hval
  obtain ⟨v0, vs0, d0, ds0, p0, q0, hargs, rfl, rfl, h0, r0⟩ := trodAll_cons hA
  obtain ⟨rfl, rfl, rfl⟩ := trodAll_nil r0
  obtain rfl : args = #[v0] := by cases args; simp_all
  obtain ⟨rfl, rfl⟩ := trodVars_none hV
  have k0 := h0
  have lt0 : ∀ x ∈ p0, x.block < W.heap.size := by obtain ⟨m, hm⟩ := k0; exact DataW.trod_lt m _ _ _ hm
  obtain ⟨a0, len0, cap0, rfl⟩ := okWide_slice Try.underlying61 (hval 0 61 v0 rfl rfl)
  obtain ⟨K, M, hr, hl⟩ : ∃ (K : Nat → Int) (M : Nat → Bool), PairsOf W a0 len0 (fun i => .int .i64 (K i)) (fun i => .bool (M i)) ∧ len0 ≤ maxLen := by
    obtain ⟨fuel, hf⟩ := h0
    obtain ⟨V0, V1, hp, hl, hv⟩ := pairs_open Try.underlying61 Try.underlying70 (by kernel_rfl) rfl rfl (by kernel_rfl) (by kernel_rfl) hf
    have e0 : ∀ i, i < len0 → V0 i = .int .i64 (intOf (V0 i)) := fun i hi => by
      obtain ⟨n, y, h⟩ := (hv i hi).1
      obtain ⟨m, h1, _, _⟩ := DataW.trod_int Try.underlying3 h
      simp at h1; rw [h1]; rfl
    have e1 : ∀ i, i < len0 → V1 i = .bool (boolOf (V1 i)) := fun i hi => by
      obtain ⟨n, y, h⟩ := (hv i hi).2
      obtain ⟨m, h1, _⟩ := DataW.trod_bool Try.underlying4 h
      simp at h1; rw [h1]; rfl
    exact ⟨fun i => intOf (V0 i), fun i => boolOf (V1 i), hp.as e0 e1, hl⟩
  unfold maxLen at hl
  clear hA0 hval0
  refine (gateMarks_walk a0 len0 cap0 K M W hr (by omega)).mono fun e W' ⟨he, bel⟩ => ?_
  subst he
  exact ⟨_, rfl, _, _, _, [], _, [], hW', trodAll_mk1 (shut_bool Try.underlying4 _), (trodAll_cons_mk (Below.trod laidOut (by kernel_rfl) (of_decide_eq_true (by kernel_rfl)) k0 bel lt0) trodAll_mk0), rfl, bel.frame _, fun h => by cases h⟩

theorem over : Rows.gateMarksRow.holds Try.pinned (OpenSpec.ofChange Rows.gateMarksSpec) :=
  OpenClaim.holds_of_wide 7 Try.f7 rfl rfl rfl rfl rfl rfl rfl ⟨rfl, rfl, rfl, rfl, rfl⟩ rfl rfl rfl rfl rfl (by kernel_rfl) Try.func7 (by kernel_rfl)
    (of_decide_eq_true (by kernel_rfl)) (by unfold Func.isWrapper; first | (rw [if_pos (by decide +kernel)]; kernel_rfl) | (rw [if_neg (by decide +kernel)]; exact ⟨rfl, rfl⟩))
    (fun os started H enc _ => lifted os started H enc)

end Go.Proofs.Ytbojiafnapcgnaa.gateMarks
namespace Go.Proofs.Ytbojiafnapcgnaa
theorem gateMarks_holds : Rows.GateMarksSaid := gateMarks.over
#print axioms gateMarks_holds
end Go.Proofs.Ytbojiafnapcgnaa
