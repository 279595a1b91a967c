/-
  penstockref03's Same of equal lists. Conditions: the bytes are at most 2^63 - 1.
-/
import Derived.Test.YtfdpnfeaagijhaaLst
import Derived.BigQuiet

namespace Go.Proofs.Ytfdpnfeaagijhaa
open Go.RowKit
set_option linter.unusedVariables false

set_option maxRecDepth 100000 in
theorem same5_any (w : World) (a c : Option Addr) (ca cc : Nat) (l : List Nat) (ha : LAt w a l) (hc : LAt w c l) (hl : l.length ≤ 9223372036854775807) :
    Calls Try.prog 21 #[.slice a l.length ca, .slice c l.length cc] w fun e w' => e = .returned (.bool true) ∧ ∃ n, w' = w.drewN n := by
  have HA := hide ha
  have HC := hide hc
  clear ha hc
  go_enter Try.func21, Try.ntmps21
  go_wp2_with fail
  go_loopw [5] (fun i wr => ∃ k n : Nat, k ≤ l.length ∧ i = .int .i64 k ∧ wr = w.drewN n) (fun i _ => l.length - (intOf i).toNat)
  case atStart => exact ⟨0, 0, Nat.zero_le _, rfl, rfl⟩
  case round =>
    obtain ⟨k, n, hk, rfl, rfl⟩ := hrel
    by_cases h8 : k < l.length
    · obtain ⟨b1, o1, rfl, _, e1, _⟩ := (unhide HA).cell h8
      obtain ⟨b2, o2, rfl, _, e2, _⟩ := (unhide HC).cell h8
      generalize l.getD k 0 = x at *
      have h8' : (k : Int) < (l.length : Int) := by omega
      go_wp2_with fail
      go_quiet (fail)
      go_wp2
      go_roundw
      case rel => exact ⟨k + 1, n + nq, by omega, by go_num, by simp⟩
      case measure => simp [intOf]; omega
    · obtain rfl : k = l.length := by omega
      go_wp2
      go_returns
      exact ⟨rfl, n, rfl⟩

end Go.Proofs.Ytfdpnfeaagijhaa
