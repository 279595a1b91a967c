/-
  The calls on a state of groups that there isn't. Conditions: none.
-/
import Derived.Test.YtjleplggfhdmiaaGr1
import Derived.Deep.CutBlock
namespace Go.Proofs.Ytjleplggfhdmiaa
open Go.RowKit Go.Maps
set_option linter.unusedVariables false

set_option maxHeartbeats 1000000 in
theorem gapply_nil (w : World) (c0 c1 c2 c3 c4 c5 c6 c7 c8 : Value) : Calls Try.prog 4 #[.pointer none, .agg #[c0, c1, c2, c3, c4, c5, c6, c7, c8]] w fun e w' => e = .returned (.tuple #[]) ∧ Below w.heap.size w w' := by
  have B := hide ((Below.refl w.heap.size w).alloc (Nat.le_refl _) (.cells #[c0, c1, c2, c3, c4, c5, c6, c7, c8] 25))
  go_enter Try.func4, Try.ntmps4
  go_wp2
  go_returns
  exact ⟨rfl, unhide B⟩
theorem gteam_nil (w : World) (c0 : Value) : Calls Try.prog 5 #[.pointer none, c0] w fun e w' => e = .returned (.tuple #[.int .i64 0, .slice none 0 0]) ∧ w' = w := by
  go_enter Try.func5, Try.ntmps5
  go_wp2
  go_returns
  exact ⟨rfl, rfl⟩
theorem ggroups_nil (w : World) : Calls Try.prog 10 #[.pointer none] w fun e w' => e = .returned (.slice none 0 0) ∧ w' = w := by
  go_enter Try.func10, Try.ntmps10
  go_wp2
  go_ret
  exact ⟨rfl, rfl⟩
set_option maxHeartbeats 1000000 in
theorem gnamed_nil (w : World) (c0 : Value) : Calls Try.prog 16 #[.pointer none, c0] w fun e w' => e = .returned (.tuple #[.agg #[.int .i64 0, .slice none 0 0, .int .i64 0, .int .i64 0, .int .i64 0, .int .i64 0], .int .i64 5]) ∧ Below w.heap.size w w' := by
  have B := hide ((Below.refl w.heap.size w).alloc (Nat.le_refl _) (.cells #[.int .i64 0, .slice none 0 0, .int .i64 0, .int .i64 0, .int .i64 0, .int .i64 0] 52))
  have HN := hide (heap_new w (.cells #[.int .i64 0, .slice none 0 0, .int .i64 0, .int .i64 0, .int .i64 0, .int .i64 0] 52))
  go_enter Try.func16, Try.ntmps16
  go_wp2
  go_returns
  exact ⟨rfl, unhide B⟩
set_option maxHeartbeats 1000000 in
theorem goffset_nil (w : World) (c0 c1 : Value) : Calls Try.prog 6 #[.pointer none, c0, c1] w fun e w' => e = .returned (.tuple #[.int .i64 0, .int .i64 5]) ∧ Below w.heap.size w w' := by
  have K := hide (gnamed_nil w c0)
  go_enter Try.func6, Try.ntmps6
  go_wp2_with fail
  refine (unhide K).mono ?_
  rintro e w1 ⟨rfl, b1⟩
  have B := hide (b1.alloc b1.size (.cells #[.int .i64 0, .slice none 0 0, .int .i64 0, .int .i64 0, .int .i64 0, .int .i64 0] 52))
  clear b1 K
  go_wp2
  go_returns
  exact ⟨rfl, unhide B⟩
set_option maxHeartbeats 4000000 in
theorem gjoin_nil (w : World) (c0 c1 c2 : Value) : Calls Try.prog 7 #[.pointer none, c0, c1, c2] w fun e w' => e = .returned (.tuple #[.agg #[.int .i64 0, .int .i64 0, .int .i64 0, .slice none 0 0, .int .i64 0, .int .i64 0], .bool false, .int .i64 5]) ∧ Below w.heap.size w w' := by
  have b0 := (Below.refl w.heap.size w).alloc (Nat.le_refl _) (.cells #[.int .i64 0, .int .i64 0, .int .i64 0, .slice none 0 0, .int .i64 0, .int .i64 0] 37)
  have H0 := hide (heap_new w (.cells #[.int .i64 0, .int .i64 0, .int .i64 0, .slice none 0 0, .int .i64 0, .int .i64 0] 37))
  have K := hide (gnamed_nil (w.alloc (.cells #[.int .i64 0, .int .i64 0, .int .i64 0, .slice none 0 0, .int .i64 0, .int .i64 0] 37)) c0)
  have B0 := hide b0
  clear b0
  go_enter Try.func7, Try.ntmps7
  go_wp2_with fail
  generalize w.alloc (.cells #[.int .i64 0, .int .i64 0, .int .i64 0, .slice none 0 0, .int .i64 0, .int .i64 0] 37) = W0 at *
  refine (unhide K).mono ?_
  rintro e w1 ⟨rfl, b1⟩
  have b2 := b1.alloc b1.size (.cells #[.int .i64 0, .slice none 0 0, .int .i64 0, .int .i64 0, .int .i64 0, .int .i64 0] 52)
  have HH := hide (below_keep b2 (unhide H0))
  have B := hide ((unhide B0).trans (b2.mono (unhide B0).size))
  clear b1 b2 K H0 B0
  go_upto_region 2 with fail
  generalize w1.alloc (.cells #[.int .i64 0, .slice none 0 0, .int .i64 0, .int .i64 0, .int .i64 0, .int .i64 0] 52) = W1 at *
  have z0 := cell_of (unhide HH) 0
  have z1 := cell_of (unhide HH) 1
  have z2 := cell_of (unhide HH) 2
  have z3 := cell_of (unhide HH) 3
  have z4 := cell_of (unhide HH) 4
  have z5 := cell_of (unhide HH) 5
  have zf := fun j => frozen_of (unhide HH) j
  simp at z0 z1 z2 z3 z4 z5
  go_wp2
  obtain ⟨S1, S2⟩ := set6 (unhide HH) rfl (.int .i64 0) (.int .i64 0) (.int .i64 0) (.slice none 0 0) (.int .i64 0) (.int .i64 0)
  generalize ((((((W1.setCell ⟨w.heap.size, 0, none⟩ (.int .i64 0)).setCell ⟨w.heap.size, 1, none⟩ (.int .i64 0)).setCell ⟨w.heap.size, 2, none⟩ (.int .i64 0)).setCell ⟨w.heap.size, 3, none⟩ (.slice none 0 0)).setCell ⟨w.heap.size, 4, none⟩ (.int .i64 0)).setCell ⟨w.heap.size, 5, none⟩ (.int .i64 0)) = Y at *
  have y0 := cell_of S1 0
  have y1 := cell_of S1 1
  have y2 := cell_of S1 2
  have y3 := cell_of S1 3
  have y4 := cell_of S1 4
  have y5 := cell_of S1 5
  simp at y0 y1 y2 y3 y4 y5
  refine bodyPost_ret (by simp [results, Try.results7, go_sem, y0, y1, y2, y3, y4, y5]; try rfl) rfl ?_
  exact ⟨rfl, below_touch (unhide B) S2 (by have := (unhide B).size; omega) (fun k hk => by omega)⟩
set_option maxHeartbeats 4000000 in
theorem gcommit_nil (w : World) (c0 c1 c2 c3 c4 : Value) : Calls Try.prog 8 #[.pointer none, c0, c1, c2, c3, c4] w fun e w' => e = .returned (.tuple #[.agg #[.int .i64 0, .int .i64 0, .int .i64 0, .slice none 0 0, .int .i64 0, .int .i64 0], .int .i64 5]) ∧ Below w.heap.size w w' := by
  have b0 := (Below.refl w.heap.size w).alloc (Nat.le_refl _) (.cells #[.int .i64 0, .int .i64 0, .int .i64 0, .slice none 0 0, .int .i64 0, .int .i64 0] 37)
  have H0 := hide (heap_new w (.cells #[.int .i64 0, .int .i64 0, .int .i64 0, .slice none 0 0, .int .i64 0, .int .i64 0] 37))
  have K := hide (gnamed_nil (w.alloc (.cells #[.int .i64 0, .int .i64 0, .int .i64 0, .slice none 0 0, .int .i64 0, .int .i64 0] 37)) c0)
  have B0 := hide b0
  clear b0
  go_enter Try.func8, Try.ntmps8
  go_wp2_with fail
  generalize w.alloc (.cells #[.int .i64 0, .int .i64 0, .int .i64 0, .slice none 0 0, .int .i64 0, .int .i64 0] 37) = W0 at *
  refine (unhide K).mono ?_
  rintro e w1 ⟨rfl, b1⟩
  have b2 := b1.alloc b1.size (.cells #[.int .i64 0, .slice none 0 0, .int .i64 0, .int .i64 0, .int .i64 0, .int .i64 0] 52)
  have HH := hide (below_keep b2 (unhide H0))
  have B := hide ((unhide B0).trans (b2.mono (unhide B0).size))
  clear b1 b2 K H0 B0
  go_upto_region 2 with fail
  generalize w1.alloc (.cells #[.int .i64 0, .slice none 0 0, .int .i64 0, .int .i64 0, .int .i64 0, .int .i64 0] 52) = W1 at *
  have z0 := cell_of (unhide HH) 0
  have z1 := cell_of (unhide HH) 1
  have z2 := cell_of (unhide HH) 2
  have z3 := cell_of (unhide HH) 3
  have z4 := cell_of (unhide HH) 4
  have z5 := cell_of (unhide HH) 5
  have zf := fun j => frozen_of (unhide HH) j
  simp at z0 z1 z2 z3 z4 z5
  go_wp2
  obtain ⟨S1, S2⟩ := set6 (unhide HH) rfl (.int .i64 0) (.int .i64 0) (.int .i64 0) (.slice none 0 0) (.int .i64 0) (.int .i64 0)
  generalize ((((((W1.setCell ⟨w.heap.size, 0, none⟩ (.int .i64 0)).setCell ⟨w.heap.size, 1, none⟩ (.int .i64 0)).setCell ⟨w.heap.size, 2, none⟩ (.int .i64 0)).setCell ⟨w.heap.size, 3, none⟩ (.slice none 0 0)).setCell ⟨w.heap.size, 4, none⟩ (.int .i64 0)).setCell ⟨w.heap.size, 5, none⟩ (.int .i64 0)) = Y at *
  have y0 := cell_of S1 0
  have y1 := cell_of S1 1
  have y2 := cell_of S1 2
  have y3 := cell_of S1 3
  have y4 := cell_of S1 4
  have y5 := cell_of S1 5
  simp at y0 y1 y2 y3 y4 y5
  refine bodyPost_ret (by simp [results, Try.results8, go_sem, y0, y1, y2, y3, y4, y5]; try rfl) rfl ?_
  exact ⟨rfl, below_touch (unhide B) S2 (by have := (unhide B).size; omega) (fun k hk => by omega)⟩
end Go.Proofs.Ytjleplggfhdmiaa
