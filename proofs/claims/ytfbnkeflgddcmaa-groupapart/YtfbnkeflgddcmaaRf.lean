/-
  penstockref03.Reader's calls are the same plain functions on lists. Conditions: the bytes are at most 2^47.
-/
import Derived.Test.YtfbnkeflgddcmaaRd3
namespace Go.Proofs.Ytfbnkeflgddcmaa
open Go.RowKit
set_option linter.unusedVariables false

section
variable {a : Option Addr} {cap b : Nat} {t : List Nat} {s : Rst}

theorem add_step {acc x k : Nat} (hk : k ≤ 9) (hacc : acc < 128 ^ k) (h9 : k = 9 → x ≤ 1) : IntKind.u64.wrap ((acc : Int) + IntKind.u64.wrap ((x : Int) % 128 * 2 ^ (7 * k))) = ((acc + x % 128 * 128 ^ k : Nat) : Int) := by
  have h := sum_fits (x := x) hk hacc h9
  rw [sh_wrap hk h9, IntKind.wrap_u64]
  omega

end
end Go.Proofs.Ytfbnkeflgddcmaa
