/-
  GatePlays returns true at every input, and leaves its arguments as they were. Conditions: none.
-/
import Derived.Test.YtbojiafnapcgnaaRows
import Derived.Test.YtbojiafnapcgnaaGatePlaysWalk
import Derived.Test.YtbojiafnapcgnaaPairs
import Derived.WalkKit
import Derived.ProofKit
import Derived.OpenShut
import Derived.ShutString
import Derived.ChangeOld
import Derived.Below
namespace Go.Proofs.Ytbojiafnapcgnaa.gatePlays
open Go.ChangeShapes Go.WideShapes Go.ChangeAt Go.RowKit
open Go.ChangeMaps (open_string shut_string)
set_option linter.unusedVariables false

theorem own : ownKnob Try.prog.godebug = none := by kernel_rfl
theorem laidOut : laidOutB Try.prog = true := by kernel_rfl

set_option maxRecDepth 100000 in
theorem lifted (os : Os) (started : os.Started) (H : Type) (enc : TypeId × Value → H) :
    ReturnsInHanded {} Try.checked os 3 .any (Rows.gatePlaysSpec.pre6 enc Try.prog Try.f3 Rows.gatePlaysRow.domain false) (Rows.gatePlaysSpec.post enc Try.prog Try.f3 false true false false) := by
  refine returnsInHanded_of_change (C := Try.checked) own started (by kernel_rfl) Try.func3
    (ChangeSpec.witness6 (enc := enc) (C := Try.checked) false ⟨#[], #[.int .u64 0, .int .u64 0, .slice none 0 0], []⟩ 8 (by kernel_rfl) (by kernel_rfl) (by kernel_rfl) (by kernel_rfl)) ?_
  intro W base args ds gs before hval0 hW hcnd _
  have hval : ∀ (j : Nat) t v, Try.f3.params[j]? = some t → args[j]? = some v → Value.okWide Try.prog W .any base t v := hval0
  have hW' := hW
  obtain ⟨p, q, hA0, hV, rfl, hfz, hnd⟩ := hW
  have hA : DataW.TrodAll enc Try.prog W 0 (fun _ => true) true Try.f3.params.toList args.toList ds p := hA0
  rw [Try.params3] at hA hval
  obtain ⟨v0, vs0, d0, ds0, p0, q0, hargs, rfl, rfl, h0, r0⟩ := trodAll_cons hA
  obtain ⟨v1, vs1, d1, ds1, p1, q1, rfl, rfl, rfl, h1, r1⟩ := trodAll_cons r0
  obtain ⟨v2, vs2, d2, ds2, p2, q2, rfl, rfl, rfl, h2, r2⟩ := trodAll_cons r1
  obtain ⟨rfl, rfl, rfl⟩ := trodAll_nil r2
  obtain rfl : args = #[v0, v1, v2] := by cases args; simp_all
  obtain ⟨rfl, rfl⟩ := trodVars_none hV
  obtain ⟨a0, rfl, rfl, rfl, w0⟩ := open_int Try.underlying22 (hval 0 22 v0 rfl rfl) h0
  obtain ⟨a1, rfl, rfl, rfl, w1⟩ := open_int Try.underlying22 (hval 1 22 v1 rfl rfl) h1
  have k2 := h2
  have lt2 : ∀ x ∈ p2, x.block < W.heap.size := by obtain ⟨m, hm⟩ := k2; exact DataW.trod_lt m _ _ _ hm
  obtain ⟨a2, len2, cap2, rfl⟩ := okWide_slice Try.underlying23 (hval 2 23 v2 rfl rfl)
  obtain ⟨K, M, hr, hM, hl⟩ : ∃ K M : Nat → Int, PairsOf W a2 len2 (fun i => .int .i64 (K i)) (fun i => .int .u64 (M i)) ∧ (∀ i, i < len2 → 0 ≤ M i) ∧ len2 ≤ maxLen := by
    obtain ⟨fuel, hf⟩ := h2
    obtain ⟨V0, V1, hp, hl, hv⟩ := pairs_open Try.underlying23 Try.underlying30 (by kernel_rfl) rfl rfl (by kernel_rfl) (by kernel_rfl) hf
    have e0 : ∀ i, i < len2 → V0 i = .int .i64 (intOf (V0 i)) := fun i hi => by
      obtain ⟨n, y, h⟩ := (hv i hi).1
      obtain ⟨m, h1, _, _⟩ := DataW.trod_int Try.underlying3 h
      simp at h1; rw [h1]; rfl
    have e1 : ∀ i, i < len2 → V1 i = .int .u64 (intOf (V1 i)) ∧ 0 ≤ intOf (V1 i) := fun i hi => by
      obtain ⟨n, y, h⟩ := (hv i hi).2
      obtain ⟨m, h1, _, h3⟩ := DataW.trod_int Try.underlying22 h
      simp at h1; rw [h1]; exact ⟨rfl, (bounds_u64 h3).1⟩
    exact ⟨fun i => intOf (V0 i), fun i => intOf (V1 i), hp.as e0 (fun i hi => (e1 i hi).1), fun i hi => (e1 i hi).2, hl⟩
  unfold maxLen at hl
  clear hA0 hval0
  have b0 := bounds_u64 w0
  have b1 := bounds_u64 w1
  refine (gatePlays_walk a0 a1 a2 len2 cap2 K M W b0.1 b1.1 b1.2 hM hr (by omega)).mono fun e W' ⟨he, bel⟩ => ?_
  subst he
  exact ⟨_, rfl, _, _, _, [], _, [], hW', trodAll_mk1 (shut_bool Try.underlying4 _), (trodAll_cons_mk (shut_int Try.underlying22 w0) (trodAll_cons_mk (shut_int Try.underlying22 w1) (trodAll_cons_mk (Below.trod laidOut (by kernel_rfl) (of_decide_eq_true (by kernel_rfl)) k2 bel lt2) trodAll_mk0))), rfl, bel.frame _, fun h => by cases h⟩

theorem over : Rows.gatePlaysRow.holds Try.pinned (OpenSpec.ofChange Rows.gatePlaysSpec) :=
  OpenClaim.holds_of_wide 3 Try.f3 rfl rfl rfl rfl rfl rfl rfl ⟨rfl, rfl, rfl, rfl, rfl⟩ rfl rfl rfl rfl rfl (by kernel_rfl) Try.func3 (by kernel_rfl)
    (of_decide_eq_true (by kernel_rfl)) (by unfold Func.isWrapper; first | (rw [if_pos (by decide +kernel)]; kernel_rfl) | (rw [if_neg (by decide +kernel)]; exact ⟨rfl, rfl⟩))
    (fun os started H enc _ => lifted os started H enc)

end Go.Proofs.Ytbojiafnapcgnaa.gatePlays
namespace Go.Proofs.Ytbojiafnapcgnaa
theorem gatePlays_holds : Rows.GatePlaysSaid := gatePlays.over
#print axioms gatePlays_holds
end Go.Proofs.Ytbojiafnapcgnaa
