/-
  penstockref03.Reader's other calls. Conditions: the bytes are at most 2^47.
-/
import Derived.Test.YtfbnkeflgddcmaaRf
import Derived.Test.YtfbnkeflgddcmaaRd4
import Derived.Test.YtfbnkeflgddcmaaRfe
namespace Go.Proofs.Ytfbnkeflgddcmaa
open Go.RowKit
set_option linter.unusedVariables false


/-- The upper bytes of four. -/
def upf (t : List Nat) (p : Nat) : Nat → Nat
  | 0 => 0
  | j + 1 => 256 * upf t p j + t.getD (p + (3 - j)) 0
theorem upf_lt {t : List Nat} (h : ∀ x ∈ t, x < 256) {p : Nat} (hp : p + 4 ≤ t.length) (j : Nat) (hj : j ≤ 4) : upf t p j < 256 ^ j := by
  induction j with
  | zero => simp [upf]
  | succ j ih =>
    have h1 := ih (by omega)
    have h2 : t.getD (p + (3 - j)) 0 < 256 := h _ (getD_mem (by omega))
    rw [upf, Nat.pow_succ]
    omega
theorem upf_four (t : List Nat) (p : Nat) : upf t p 4 = unfix t p := by
  simp only [upf, unfix, Nat.sub_self, Nat.add_zero, show 3 - 1 = 2 from rfl, show 3 - 2 = 1 from rfl, show 3 - 0 = 3 from rfl]
  omega

section
variable {a : Option Addr} {cap b : Nat} {t : List Nat} {s : Rst}


end
end Go.Proofs.Ytfbnkeflgddcmaa
