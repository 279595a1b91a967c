/-
  The statements' own helpers of layer 3: 'awake' answers true; 'take' answers true, and both readers go on alike. Conditions: the bytes are at most 2^47.
-/
import Derived.Test.YtfbnkeflgddcmaaRd4
namespace Go.Proofs.Ytfbnkeflgddcmaa
open Go.RowKit
set_option linter.unusedVariables false

theorem step_below {B : Nat} {pv v v' : Value} {w0 w w' : World} (h : Below B w0 w) (hB : B ≤ w.heap.size) (st : Step pv w v w' v') (hm : ∀ k, Mine pv v k → B ≤ k) : Below B w0 w' := below_touch h st.touch hB hm
theorem mine_new {B b : Nat} {v : Value} {w : World} (hb : B ≤ b) (hv : ∀ k, v.ownBlock = some k → B ≤ k) (_ : w = w) : ∀ k, Mine (.pointer (some ⟨b, 0, none⟩)) v k → B ≤ k := by
  rintro k (e | e)
  · cases e; exact hb
  · exact hv k e
theorem below_drewN' {B : Nat} {w0 w : World} (h : Below B w0 w) (n : Nat) : Below B w0 (w.drewN n) := h.trans ⟨rfl, rfl, rfl, Nat.le_refl _, fun _ _ => rfl⟩
theorem rU_300 : rU [172, 2] ⟨0, 0⟩ = (300, ⟨2, 0⟩) := by simp [rU, numA]
theorem rE_300 : rE [172, 2] ⟨2, 0⟩ = 0 := by simp [rE]
theorem enc_300 : enc 300 = [172, 2] := by rw [enc_ge (by omega), enc_lt (by omega)]

end Go.Proofs.Ytfbnkeflgddcmaa
