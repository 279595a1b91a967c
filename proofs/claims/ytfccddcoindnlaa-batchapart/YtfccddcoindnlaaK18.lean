/-
  Facts of eighteen cells, kept. Plain lemmas. No conditions.
-/
import Derived.Test.YtfccddcoindnlaaBatchBackWalk
namespace Go.Proofs.Ytfccddcoindnlaa
open Go.RowKit
set_option linter.unusedVariables false

theorem chk_vals {b : Bt} (h : chk b ≠ 0) : chk b = 1 ∨ chk b = 2 ∨ chk b = 7 := by
  unfold chk at *
  split
  · exact .inl rfl
  · split
    · exact .inr (.inr rfl)
    · split
      · exact .inr (.inl rfl)
      · rename_i h1 h2 h3; rw [if_neg h1, if_neg h2, if_neg h3] at h; exact absurd rfl h
theorem keep18 {w3 w' : World} {g0 g1 : Nat} {v0 v1 v2 v3 v4 v5 v6 v7 v8 u0 u1 u2 u3 u4 u5 u6 u7 u8 : Value} (h0 : g0 < w3.heap.size) (h1 : g1 < w3.heap.size) (k : w3.cell? ⟨g0, 0, none⟩ = some v0 ∧ w3.cell? ⟨g0, 1, none⟩ = some v1 ∧ w3.cell? ⟨g0, 2, none⟩ = some v2 ∧ w3.cell? ⟨g0, 3, none⟩ = some v3 ∧ w3.cell? ⟨g0, 4, none⟩ = some v4 ∧ w3.cell? ⟨g0, 5, none⟩ = some v5 ∧ w3.cell? ⟨g0, 6, none⟩ = some v6 ∧ w3.cell? ⟨g0, 7, none⟩ = some v7 ∧ w3.cell? ⟨g0, 8, none⟩ = some v8 ∧ w3.cell? ⟨g1, 0, none⟩ = some u0 ∧ w3.cell? ⟨g1, 1, none⟩ = some u1 ∧ w3.cell? ⟨g1, 2, none⟩ = some u2 ∧ w3.cell? ⟨g1, 3, none⟩ = some u3 ∧ w3.cell? ⟨g1, 4, none⟩ = some u4 ∧ w3.cell? ⟨g1, 5, none⟩ = some u5 ∧ w3.cell? ⟨g1, 6, none⟩ = some u6 ∧ w3.cell? ⟨g1, 7, none⟩ = some u7 ∧ w3.cell? ⟨g1, 8, none⟩ = some u8) (hb : Below w3.heap.size w3 w') : w'.cell? ⟨g0, 0, none⟩ = some v0 ∧ w'.cell? ⟨g0, 1, none⟩ = some v1 ∧ w'.cell? ⟨g0, 2, none⟩ = some v2 ∧ w'.cell? ⟨g0, 3, none⟩ = some v3 ∧ w'.cell? ⟨g0, 4, none⟩ = some v4 ∧ w'.cell? ⟨g0, 5, none⟩ = some v5 ∧ w'.cell? ⟨g0, 6, none⟩ = some v6 ∧ w'.cell? ⟨g0, 7, none⟩ = some v7 ∧ w'.cell? ⟨g0, 8, none⟩ = some v8 ∧ w'.cell? ⟨g1, 0, none⟩ = some u0 ∧ w'.cell? ⟨g1, 1, none⟩ = some u1 ∧ w'.cell? ⟨g1, 2, none⟩ = some u2 ∧ w'.cell? ⟨g1, 3, none⟩ = some u3 ∧ w'.cell? ⟨g1, 4, none⟩ = some u4 ∧ w'.cell? ⟨g1, 5, none⟩ = some u5 ∧ w'.cell? ⟨g1, 6, none⟩ = some u6 ∧ w'.cell? ⟨g1, 7, none⟩ = some u7 ∧ w'.cell? ⟨g1, 8, none⟩ = some u8 := by
  obtain ⟨k0, k1, k2, k3, k4, k5, k6, k7, k8, k9, k10, k11, k12, k13, k14, k15, k16, k17⟩ := k
  exact ⟨(hb.cell (p := ⟨g0, 0, none⟩) h0).trans k0, (hb.cell (p := ⟨g0, 1, none⟩) h0).trans k1, (hb.cell (p := ⟨g0, 2, none⟩) h0).trans k2, (hb.cell (p := ⟨g0, 3, none⟩) h0).trans k3, (hb.cell (p := ⟨g0, 4, none⟩) h0).trans k4, (hb.cell (p := ⟨g0, 5, none⟩) h0).trans k5, (hb.cell (p := ⟨g0, 6, none⟩) h0).trans k6, (hb.cell (p := ⟨g0, 7, none⟩) h0).trans k7, (hb.cell (p := ⟨g0, 8, none⟩) h0).trans k8, (hb.cell (p := ⟨g1, 0, none⟩) h1).trans k9, (hb.cell (p := ⟨g1, 1, none⟩) h1).trans k10, (hb.cell (p := ⟨g1, 2, none⟩) h1).trans k11, (hb.cell (p := ⟨g1, 3, none⟩) h1).trans k12, (hb.cell (p := ⟨g1, 4, none⟩) h1).trans k13, (hb.cell (p := ⟨g1, 5, none⟩) h1).trans k14, (hb.cell (p := ⟨g1, 6, none⟩) h1).trans k15, (hb.cell (p := ⟨g1, 7, none⟩) h1).trans k16, (hb.cell (p := ⟨g1, 8, none⟩) h1).trans k17⟩
theorem bool_same {p q : Bool} {A : Prop} (hp : p = true ↔ A) (hq : q = true ↔ A) : p = q := by
  cases p <;> cases q <;> simp_all
end Go.Proofs.Ytfccddcoindnlaa
