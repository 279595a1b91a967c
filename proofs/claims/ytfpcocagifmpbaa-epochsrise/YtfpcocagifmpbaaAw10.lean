/-
  awake of layer 10. No conditions.
-/
import Derived.Test.YtfpcocagifmpbaaEc5
namespace Go.Proofs.Ytfpcocagifmpbaa
open Go.RowKit
set_option linter.unusedVariables false

theorem ris_two : Ris [(1, 0), (3, 5)] := by unfold Ris; simp
theorem ris_one (p : Pr) : Ris [p] := by unfold Ris; simp
set_option maxRecDepth 100000 in
set_option maxHeartbeats 1000000 in
theorem awake10_any (w : World) : Calls Try.prog 10 #[] w fun e w' => e = .returned (.bool true) ∧ Below w.heap.size w w' := by
  go_enter Try.func10, Try.ntmps10
  go_wp2_with fail
  refine (new10_any w).mono ?_
  rintro e w0 ⟨rfl, rfl⟩
  have A1 := hide (assign_any (CaAt.fresh w (Nat.le_refl _)) (by unfold Ris; exact List.Pairwise.nil) (by simp) (by simp) 1 0)
  rw [show asgE 1 0 [] = (0, [(1, 0)]) from rfl] at A1
  have B0 : Hid (Below w.heap.size w (w.alloc (.cells #[.slice none 0 0] 50))) := (Below.refl _ _).alloc (Nat.le_refl _) _
  go_wp2_with fail
  refine (unhide A1).mono ?_
  rintro e w1 ⟨rfl, v1, c1, t1, m1⟩
  have B1 : Hid (Below w.heap.size w w1) := below_touch (unhide B0) t1 (unhide B0).size (fun k hk => by rcases hk with h | h; omega; simp [Value.ownBlock] at h)
  have A2 := hide (assign_any c1 (ris_one _) (by simp) (unhide B1).size 3 5)
  rw [show asgE 3 5 [(1, 0)] = (0, [(1, 0), (3, 5)]) from rfl] at A2
  have N1 : Hid (∀ k, v1.ownBlock = some k → w.heap.size ≤ k) := c1.new
  clear A1 B0 c1 t1 m1
  go_wp2_with fail
  refine (unhide A2).mono ?_
  rintro e w2 ⟨rfl, v2, c2, t2, m2⟩
  have B2 : Hid (Below w.heap.size w w2) := below_touch (unhide B1) t2 (unhide B1).size (fun k hk => by rcases hk with h | h; omega; exact unhide N1 k h)
  have E2 := hide (end_any c2 2 9)
  rw [show endE [(1, 0), (3, 5)] 2 9 = (1, 5, true) from rfl] at E2
  clear A2 B1 N1 c2 t2 m2
  go_wp2_with fail
  refine (unhide E2).mono ?_
  rintro e w3 ⟨rfl, b3⟩
  have B3 := hide ((unhide B2).trans (b3.mono (unhide B2).size))
  clear b3 E2 B2
  go_wp2
  go_returns
  exact ⟨rfl, unhide B3⟩
end Go.Proofs.Ytfpcocagifmpbaa
