/-
  TxnApart returns true at every input of bulk at most 1048576, and leaves its arguments as they were. Conditions: that bulk.
-/
import Derived.Test.YtijfjhafjblefaaRows
import Derived.Test.YtijfjhafjblefaaTxnApartWalk
import Derived.JoinedCond
import Derived.WalkKit
import Derived.ProofKit
import Derived.OpenShut
import Derived.ShutString
import Derived.ChangeOld
import Derived.Below
namespace Go.Proofs.Ytijfjhafjblefaa.txnApart
open Go.ChangeShapes Go.WideShapes Go.ChangeAt Go.RowKit
open Go.ChangeMaps (open_string shut_string)
set_option linter.unusedVariables false

theorem own : ownKnob Try.prog.godebug = none := by kernel_rfl
theorem laidOut : laidOutB Try.prog = true := by kernel_rfl

set_option maxRecDepth 100000 in
theorem lifted (os : Os) (started : os.Started) (H : Type) (enc : TypeId × Value → H) (F : Stop.Interp) :
    ReturnsInHanded {} Try.checked os 8 .any ((Rows.OpenSpec.upto Rows.txnApartSpec).pre6 enc Try.prog Try.f8 Rows.txnApartUptoRow.domain false) (((Rows.OpenSpec.upto Rows.txnApartSpec).at F).post enc Try.prog Try.f8 false true false false) := by
  refine returnsInHanded_of_cond (C := Try.checked) (s := Rows.OpenSpec.upto Rows.txnApartSpec) (k := Rows.uptoSmall) rfl own started (by kernel_rfl) Try.func8
    (OpenSpec.witness (enc := enc) (C := Try.checked) (s := Rows.OpenSpec.upto Rows.txnApartSpec) (k := Rows.uptoSmall) rfl false ⟨#[], #[.slice none 0 0, .slice none 0 0], []⟩ 8 (by kernel_rfl) (by kernel_rfl) (by kernel_rfl)
      (x := ([.nil, .nil], [], [])) (by kernel_rfl) rfl (by kernel_rfl)) ?_
  intro W base args ds gs before hval0 hW hcnd hk0 _
  have hval : ∀ (j : Nat) t v, Try.f8.params[j]? = some t → args[j]? = some v → Value.okWide Try.prog W .any base t v := hval0
  have hW' := hW
  obtain ⟨p, q, hA0, hV, rfl, hfz, hnd⟩ := hW
  have hA : DataW.TrodAll enc Try.prog W 0 (fun _ => true) true Try.f8.params.toList args.toList ds p := hA0
  rw [Try.params8] at hA hval
  obtain ⟨v0, vs0, d0, ds0, p0, q0, hargs, rfl, rfl, h0, r0⟩ := trodAll_cons hA
  obtain ⟨v1, vs1, d1, ds1, p1, q1, rfl, rfl, rfl, h1, r1⟩ := trodAll_cons r0
  obtain ⟨rfl, rfl, rfl⟩ := trodAll_nil r1
  obtain rfl : args = #[v0, v1] := by cases args; simp_all
  obtain ⟨rfl, rfl⟩ := trodVars_none hV
  have hk : Rows.uptoBulkAll [d0, d1] ≤ 1048576 := by
    have h : Rows.uptoBulkAll ([d0, d1] ++ []) ≤ 1048576 := of_decide_eq_true hk0
    simpa using h
  have k0 := h0
  have lt0 : ∀ x ∈ p0, x.block < W.heap.size := by obtain ⟨m, hm⟩ := k0; exact DataW.trod_lt m _ _ _ hm
  obtain ⟨a0, len0, cap0, rfl⟩ := okWide_slice Try.underlying44 (hval 0 44 v0 rfl rfl)
  obtain ⟨gs0, hl0, hr0, hp0, hz0⟩ : ∃ gs : List Rg, gs.length ≤ Rows.uptoBulk d0 ∧ RowsAt rgL 7 W a0 gs ∧ (∀ g ∈ gs, RSm W g ∧ g.r.ps.length ≤ Rows.uptoBulk d0) ∧ gs.length = len0 := by
    obtain ⟨fuel0, hf0⟩ := h0
    obtain ⟨gs, a', c', e, h1, h2, h3⟩ := recs_bulk (c := .slice a0 len0 cap0) hf0
    injection e with e1 e2 e3
    subst e1
    exact ⟨gs, h1, h2, h3, e2.symm⟩
  subst hz0
  have k1 := h1
  have lt1 : ∀ x ∈ p1, x.block < W.heap.size := by obtain ⟨m, hm⟩ := k1; exact DataW.trod_lt m _ _ _ hm
  obtain ⟨a1, len1, cap1, rfl⟩ := okWide_slice Try.underlying44 (hval 1 44 v1 rfl rfl)
  obtain ⟨gs1, hl1, hr1, hp1, hz1⟩ : ∃ gs : List Rg, gs.length ≤ Rows.uptoBulk d1 ∧ RowsAt rgL 7 W a1 gs ∧ (∀ g ∈ gs, RSm W g ∧ g.r.ps.length ≤ Rows.uptoBulk d1) ∧ gs.length = len1 := by
    obtain ⟨fuel1, hf1⟩ := h1
    obtain ⟨gs, a', c', e, h1, h2, h3⟩ := recs_bulk (c := .slice a1 len1 cap1) hf1
    injection e with e1 e2 e3
    subst e1
    exact ⟨gs, h1, h2, h3, e2.symm⟩
  subst hz1
  clear hA0 hval0
  have hb0 : Rows.uptoBulk d0 ≤ 1048576 := by simp only [Rows.uptoBulkAll] at hk; omega
  have hb1 : Rows.uptoBulk d1 ≤ 1048576 := by simp only [Rows.uptoBulkAll] at hk; omega
  refine (txnApart_walk W hr0 (Nat.le_trans hl0 hb0) (fun g hg => ⟨(hp0 g hg).1, Nat.le_trans (hp0 g hg).2 hb0⟩) hr1 (Nat.le_trans hl1 hb1) (fun g hg => ⟨(hp1 g hg).1, Nat.le_trans (hp1 g hg).2 hb1⟩)).mono fun e W' ⟨he, bel⟩ => ?_
  subst he
  exact ⟨_, rfl, _, _, _, [], _, [], hW', trodAll_mk1 (shut_bool Try.underlying4 _), (trodAll_cons_mk (Below.trod laidOut (by kernel_rfl) (of_decide_eq_true (by kernel_rfl)) k0 bel lt0) (trodAll_cons_mk (Below.trod laidOut (by kernel_rfl) (of_decide_eq_true (by kernel_rfl)) k1 bel lt1) trodAll_mk0)), rfl, bel.frame _, fun h => by cases h⟩

theorem over : Rows.TxnApartUptoSaid :=
  OpenClaim.holds_of_cond 8 Try.f8 rfl rfl rfl rfl rfl rfl rfl ⟨rfl, rfl, rfl, rfl, rfl⟩ rfl rfl rfl rfl rfl (by kernel_rfl) Try.func8 (by kernel_rfl)
    (of_decide_eq_true (by kernel_rfl)) (by unfold Func.isWrapper; first | (rw [if_pos (by decide +kernel)]; kernel_rfl) | (rw [if_neg (by decide +kernel)]; exact ⟨rfl, rfl⟩))
    (fun os started H enc _ F => lifted os started H enc F)

end Go.Proofs.Ytijfjhafjblefaa.txnApart
namespace Go.Proofs.Ytijfjhafjblefaa
theorem txnApart_holds : Rows.TxnApartUptoSaid := txnApart.over
#print axioms txnApart_holds
end Go.Proofs.Ytijfjhafjblefaa
