/-
  The road of GroupNone. Conditions: none.
-/
import Derived.Test.YtjleplggfhdmiaaGn16
import Derived.Deep.CutBlock
namespace Go.Proofs.Ytjleplggfhdmiaa
open Go.RowKit Go.Maps
set_option linter.unusedVariables false

set_option maxRecDepth 100000 in
set_option maxHeartbeats 4000000 in
theorem groupNone_walk (w : World) (c0 c1 c2 c3 c4 c5 c6 c7 c8 c9 c10 c11 c12 c13 c14 c15 c16 : Value) : Calls Try.prog 3 #[.agg #[c0, c1, c2, c3, c4, c5, c6, c7, c8, c9, c10, c11, c12, c13, c14, c15, c16]] w fun e w' => e = .returned (.bool true) ∧ Below w.heap.size w w' := by
  have B0 := hide ((Below.refl w.heap.size w).alloc (Nat.le_refl _) (.cells #[c0, c1, c2, c3, c4, c5, c6, c7, c8, c9, c10, c11, c12, c13, c14, c15, c16] 27))
  have H0 := hide (heap_new w (.cells #[c0, c1, c2, c3, c4, c5, c6, c7, c8, c9, c10, c11, c12, c13, c14, c15, c16] 27))
  go_enter Try.func3, Try.ntmps3
  go_upto_region 2 with fail
  generalize w.alloc (.cells #[c0, c1, c2, c3, c4, c5, c6, c7, c8, c9, c10, c11, c12, c13, c14, c15, c16] 27) = W0 at *
  have p0 := cell_of (unhide H0) 0
  have p1 := cell_of (unhide H0) 1
  have p2 := cell_of (unhide H0) 2
  have p3 := cell_of (unhide H0) 3
  have p4 := cell_of (unhide H0) 4
  have p5 := cell_of (unhide H0) 5
  have p6 := cell_of (unhide H0) 6
  have p7 := cell_of (unhide H0) 7
  have p8 := cell_of (unhide H0) 8
  have p9 := cell_of (unhide H0) 9
  have p10 := cell_of (unhide H0) 10
  have p11 := cell_of (unhide H0) 11
  have p12 := cell_of (unhide H0) 12
  have p13 := cell_of (unhide H0) 13
  have p14 := cell_of (unhide H0) 14
  have p15 := cell_of (unhide H0) 15
  have p16 := cell_of (unhide H0) 16
  simp at p0 p1 p2 p3 p4 p5 p6 p7 p8 p9 p10 p11 p12 p13 p14 p15 p16
  go_wp2_with fail
  refine (gapply_nil W0 c8 c9 c10 c11 c12 c13 c14 c15 c16).mono ?_
  rintro e w1 ⟨rfl, b1⟩
  have H1 := hide (below_keep b1 (unhide H0))
  have B1 := hide ((unhide B0).trans (b1.mono (unhide B0).size))
  clear b1 p0 p1 p2 p3 p4 p5 p6 p7 p8 p9 p10 p11 p12 p13 p14 p15 p16
  have q1 := cell_of (unhide H1) 1
  simp at q1
  go_wp2_with fail
  refine (gteam_nil w1 c1).mono ?_
  rintro e w2 ⟨rfl, rfl⟩
  have q4 := cell_of (unhide H1) 4
  simp at q4
  go_wp2_with fail
  refine (goffset_nil w2 c1 c4).mono ?_
  rintro e w3 ⟨rfl, b3⟩
  have H3 := hide (below_keep b3 (unhide H1))
  have B3 := hide ((unhide B1).trans (b3.mono (unhide B1).size))
  clear b3 q1 q4
  have q1 := cell_of (unhide H3) 1
  have q2 := cell_of (unhide H3) 2
  have q6 := cell_of (unhide H3) 6
  simp at q1 q2 q6
  go_wp2_with fail
  refine (gjoin_nil w3 c1 c2 c6).mono ?_
  rintro e w4 ⟨rfl, b4⟩
  have bA := b4.alloc b4.size (.cells #[.int .i64 0, .int .i64 0, .int .i64 0, .slice none 0 0, .int .i64 0, .int .i64 0] 37)
  have HJ := hide (heap_new w4 (.cells #[.int .i64 0, .int .i64 0, .int .i64 0, .slice none 0 0, .int .i64 0, .int .i64 0] 37))
  have H4 := hide (below_keep bA (unhide H3))
  have B4 := hide ((unhide B3).trans (bA.mono (unhide B3).size))
  clear b4 bA q1 q2 q6
  go_upto_region 6 with fail
  generalize w4.alloc (.cells #[.int .i64 0, .int .i64 0, .int .i64 0, .slice none 0 0, .int .i64 0, .int .i64 0] 37) = W4 at *
  generalize w4.heap.size = jb at *
  have q1 := cell_of (unhide H4) 1
  have q2 := cell_of (unhide H4) 2
  have q3 := cell_of (unhide H4) 3
  have q4 := cell_of (unhide H4) 4
  have q5 := cell_of (unhide H4) 5
  simp at q1 q2 q3 q4 q5
  go_wp2_with fail
  refine (gcommit_nil W4 c1 c2 c3 c4 c5).mono ?_
  rintro e w5 ⟨rfl, b5⟩
  have bC := b5.alloc b5.size (.cells #[.int .i64 0, .int .i64 0, .int .i64 0, .slice none 0 0, .int .i64 0, .int .i64 0] 37)
  have HC := hide (heap_new w5 (.cells #[.int .i64 0, .int .i64 0, .int .i64 0, .slice none 0 0, .int .i64 0, .int .i64 0] 37))
  have HJ5 := hide (below_keep bC (unhide HJ))
  have B5 := hide ((unhide B4).trans (bC.mono (unhide B4).size))
  clear b5 bC q1 q2 q3 q4 q5
  go_upto_region 7 with fail
  generalize w5.alloc (.cells #[.int .i64 0, .int .i64 0, .int .i64 0, .slice none 0 0, .int .i64 0, .int .i64 0] 37) = W5 at *
  generalize w5.heap.size = kb at *
  go_wp2_with (first
    | (go_at_call 9; refine (gawake_any W5).mono ?_; rintro e w6 ⟨rfl, b6⟩; have J0 := cell_of (below_keep b6 (unhide HJ5)) 0; have K0 := cell_of (below_keep b6 (unhide HC)) 0; have B6 := hide ((unhide B5).trans (b6.mono (unhide B5).size)); clear b6; simp at J0 K0)
    | (go_at_call 10; refine (ggroups_nil _).mono ?_; rintro e w7 ⟨rfl, rfl⟩))
  go_returns
  exact ⟨rfl, unhide B6⟩
end Go.Proofs.Ytjleplggfhdmiaa
