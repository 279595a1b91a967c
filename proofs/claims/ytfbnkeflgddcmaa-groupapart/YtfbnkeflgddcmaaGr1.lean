/-
  group's awake and Owner, the document's Owner. Conditions: the members as they lie.
-/
import Derived.Test.YtfbnkeflgddcmaaGr0
namespace Go.Proofs.Ytfbnkeflgddcmaa
open Go.RowKit Go.Maps
set_option linter.unusedVariables false

set_option maxRecDepth 100000 in
set_option maxHeartbeats 2000000 in
theorem gawake_any (w : World) : Calls Try.prog 6 #[] w fun e w' => e = .returned (.bool true) ∧ Below w.heap.size w w' := by
  have KN := hide (gnew_any w)
  have H0 := hide (heap_new w (.cells #[.map none, .map none] 52))
  have B0 : Hid (Below w.heap.size w (w.alloc (.cells #[.map none, .map none] 52))) := (Below.refl _ _).alloc (Nat.le_refl _) _
  go_enter Try.func6, Try.ntmps6
  go_wp2_with fail
  refine (unhide KN).mono ?_
  rintro e w1 ⟨rfl, rfl⟩
  generalize w.alloc (.cells #[.map none, .map none] 52) = W1 at *
  have KJ := hide (join_new (unhide H0) 2 (by decide))
  clear KN
  go_wp2_with fail
  refine (unhide KJ).mono ?_
  rintro e w2 ⟨sa, c, rfl, i2, b2⟩
  have bA : Below w2.heap.size w2 (w2.alloc (.cells #[.int .i64 1, .int .i64 0, .int .i64 1, .slice sa 1 c, .int .i64 0, .int .i64 0] 29)) := (Below.refl _ _).alloc (Nat.le_refl _) _
  obtain ⟨ia, ic, ie, iI, _⟩ := (i2.later bA).iat
  injection ie with ie1 ie2 ie3
  obtain ⟨gb, go, hg, _, hc⟩ := iI 0 (by simp)
  have hsa : sa = some ⟨gb, go, none⟩ := ie1.trans hg
  have hc' : (w2.alloc (.cells #[.int .i64 1, .int .i64 0, .int .i64 1, .slice sa 1 c, .int .i64 0, .int .i64 0] 29)).cell? ⟨gb, go, none⟩ = some (.int .i64 2) := hc
  have BB : Hid (Below w.heap.size w (w2.alloc (.cells #[.int .i64 1, .int .i64 0, .int .i64 1, .slice sa 1 c, .int .i64 0, .int .i64 0] 29))) := ((unhide B0).trans (b2.mono (unhide B0).size)).alloc (Nat.le_trans (unhide B0).size b2.size) _
  clear KJ i2 b2 bA iI hc ie1 ie2 ie3 hg H0 B0
  subst hsa
  go_wp2
  go_ret
  exact ⟨rfl, unhide BB⟩
theorem tmod_nat (k n : Nat) : ((k : Int)).tmod (n : Int) = ((k % n : Nat) : Int) := by
  rw [Int.tmod_eq_emod_of_nonneg (by omega)]; simp
end Go.Proofs.Ytfbnkeflgddcmaa
