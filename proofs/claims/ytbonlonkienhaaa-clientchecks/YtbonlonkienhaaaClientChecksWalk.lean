/-
  The road of ClientChecks. Conditions: the settings as they lie.
-/
import Derived.Test.YtbonlonkienhaaaCs14
namespace Go.Proofs.Ytbonlonkienhaaa
open Go.RowKit
set_option linter.unusedVariables false

set_option maxRecDepth 100000 in
set_option maxHeartbeats 8000000 in
theorem checks_not {w : World} {c : Cf} {m : Int} (h : CfIn w c) (hs : stB c = false) : Calls Try.prog 3 #[.agg (cellsCf c).toArray, .int .i64 m] w fun e w' => e = .returned (.bool true) ∧ Below w.heap.size w w' := by
  have b0 := (Below.refl w.heap.size w).alloc (Nat.le_refl _) (.cells (cellsCf c).toArray 24)
  have B1 := hide b0
  have HY0 := hide (heap_new w (.cells (cellsCf c).toArray 24))
  have HC := hide (h.keep (Touch.of_below b0))
  have HL := hide h.l
  have HS := hide hs
  clear b0 h hs
  have K1 : Hid (Calls Try.prog 6 #[.agg (cellsCf c).toArray] (w.alloc (.cells (cellsCf c).toArray 24)) fun e w' => e = .returned (.int .i64 1) ∧ Touch (fun _ => False) (w.alloc (.cells (cellsCf c).toArray 24)) w') := by
    have := ccheck_any (unhide HC)
    rw [unhide HS] at this
    exact hide this
  go_enter Try.func3, Try.ntmps3
  go_upto_region 1 with fail
  change Code.wp _ _ _ _ (w.alloc (.cells [Value.int .i64 c.nd, .int .i64 c.pt, .int .i64 c.cp, .slice c.a c.ps.length c.c].toArray 24))
  have e1 : w.alloc (.cells [Value.int .i64 c.nd, .int .i64 c.pt, .int .i64 c.cp, .slice c.a c.ps.length c.c].toArray 24) = w.alloc (.cells (cellsCf c).toArray 24) := rfl
  rw [e1]
  clear e1
  generalize w.alloc (.cells (cellsCf c).toArray 24) = w1 at *
  generalize hg : w.heap.size = g at *
  have HG := hide hg
  clear hg
  have HY := HY0
  have y0 : w1.cell? ⟨g, 0, none⟩ = some (.int .i64 c.nd) := cell_of (unhide HY) 0
  have y1 : w1.cell? ⟨g, 1, none⟩ = some (.int .i64 c.pt) := cell_of (unhide HY) 1
  have y2 : w1.cell? ⟨g, 2, none⟩ = some (.int .i64 c.cp) := cell_of (unhide HY) 2
  have y3 : w1.cell? ⟨g, 3, none⟩ = some (.slice c.a c.ps.length c.c) := cell_of (unhide HY) 3
  go_wp2_with fail
  refine (unhide K1).mono ?_
  rintro e w2 ⟨rfl, t2⟩
  have GL : Hid (g ≤ w1.heap.size) := hide (Nat.le_of_lt (lt_of_heap (unhide HY0)))
  have B2 := hide (below_touch (unhide B1) t2 (unhide GL) (fun k hk => hk.elim))
  have HY := hide (t2.keep (unhide HY0) (fun h => h))
  have HC2 := hide ((unhide HC).keep t2)
  clear t2 K1 HY0 HC B1 GL
  clear y0 y1 y2 y3
  have y0 : w2.cell? ⟨g, 0, none⟩ = some (.int .i64 c.nd) := cell_of (unhide HY) 0
  have y1 : w2.cell? ⟨g, 1, none⟩ = some (.int .i64 c.pt) := cell_of (unhide HY) 1
  have y2 : w2.cell? ⟨g, 2, none⟩ = some (.int .i64 c.cp) := cell_of (unhide HY) 2
  have y3 : w2.cell? ⟨g, 3, none⟩ = some (.slice c.a c.ps.length c.c) := cell_of (unhide HY) 3
  have K2 := hide (new_not (m := m) (unhide HC2) (unhide HS))
  go_wp2_with fail
  refine (unhide K2).mono ?_
  rintro e w3 ⟨rfl, t3⟩
  have GL : Hid (g ≤ w2.heap.size) := hide (Nat.le_of_lt (lt_of_heap (unhide HY)))
  have B3 := hide (below_touch (unhide B2) t3 (unhide GL) (fun k hk => hk.elim))
  have HY3 := hide (t3.keep (unhide HY) (fun h => h))
  have HC3 := hide ((unhide HC2).keep t3)
  clear t3 K2 HY HC2 B2 GL
  have HY := HY3
  clear y0 y1 y2 y3
  have y0 : w3.cell? ⟨g, 0, none⟩ = some (.int .i64 c.nd) := cell_of (unhide HY) 0
  have y1 : w3.cell? ⟨g, 1, none⟩ = some (.int .i64 c.pt) := cell_of (unhide HY) 1
  have y2 : w3.cell? ⟨g, 2, none⟩ = some (.int .i64 c.cp) := cell_of (unhide HY) 2
  have y3 : w3.cell? ⟨g, 3, none⟩ = some (.slice c.a c.ps.length c.c) := cell_of (unhide HY) 3
  have K4 : Hid (Calls Try.prog 8 #[.agg (cellsCf c).toArray] w3 fun e w' => e = .returned (.bool true) ∧ Below w3.heap.size w3 w') := by
    have := bad_any (unhide HC3)
    rw [unhide HS] at this
    exact hide this
  go_wp2_with fail
  refine (unhide K4).mono ?_
  rintro e w4 ⟨rfl, b4⟩
  have GL : Hid (g ≤ w3.heap.size) := hide (Nat.le_of_lt (lt_of_heap (unhide HY)))
  have B4 := hide ((unhide B3).trans (Below.mono b4 (unhide GL)))
  have HY4 := hide (below_keep b4 (unhide HY))
  have HC4 := hide ((unhide HC3).keep (Touch.of_below b4))
  clear b4 K4 HY HC3 B3 GL
  have HY := HY4
  clear y0 y1 y2 y3
  have y0 : w4.cell? ⟨g, 0, none⟩ = some (.int .i64 c.nd) := cell_of (unhide HY) 0
  have y1 : w4.cell? ⟨g, 1, none⟩ = some (.int .i64 c.pt) := cell_of (unhide HY) 1
  have y2 : w4.cell? ⟨g, 2, none⟩ = some (.int .i64 c.cp) := cell_of (unhide HY) 2
  have y3 : w4.cell? ⟨g, 3, none⟩ = some (.slice c.a c.ps.length c.c) := cell_of (unhide HY) 3
  have K5 := hide (awake19 w4)
  go_wp2_with fail
  refine (unhide K5).mono ?_
  rintro e w5 ⟨rfl, b5⟩
  have GL : Hid (g ≤ w4.heap.size) := hide (Nat.le_of_lt (lt_of_heap (unhide HY)))
  have B5 := hide ((unhide B4).trans (Below.mono b5 (unhide GL)))
  have HY5 := hide (below_keep b5 (unhide HY))
  have HC5 := hide ((unhide HC4).keep (Touch.of_below b5))
  clear b5 K5 HY HC4 B4 GL
  have HY := HY5
  clear y0 y1 y2 y3
  have y0 : w5.cell? ⟨g, 0, none⟩ = some (.int .i64 c.nd) := cell_of (unhide HY) 0
  have y1 : w5.cell? ⟨g, 1, none⟩ = some (.int .i64 c.pt) := cell_of (unhide HY) 1
  have y2 : w5.cell? ⟨g, 2, none⟩ = some (.int .i64 c.cp) := cell_of (unhide HY) 2
  have y3 : w5.cell? ⟨g, 3, none⟩ = some (.slice c.a c.ps.length c.c) := cell_of (unhide HY) 3
  have K6 : Hid (Calls Try.prog 8 #[.agg (cellsCf c).toArray] w5 fun e w' => e = .returned (.bool true) ∧ Below w5.heap.size w5 w') := by
    have := bad_any (unhide HC5)
    rw [unhide HS] at this
    exact hide this
  go_wp2_with fail
  refine (unhide K6).mono ?_
  rintro e w6 ⟨rfl, b6⟩
  have GL : Hid (g ≤ w5.heap.size) := hide (Nat.le_of_lt (lt_of_heap (unhide HY)))
  have B6 := hide ((unhide B5).trans (Below.mono b6 (unhide GL)))
  have HY6 := hide (below_keep b6 (unhide HY))
  have HC6 := hide ((unhide HC5).keep (Touch.of_below b6))
  clear b6 K6 HY HC5 B5 GL
  have HY := HY6
  clear y0 y1 y2 y3
  have y0 : w6.cell? ⟨g, 0, none⟩ = some (.int .i64 c.nd) := cell_of (unhide HY) 0
  have y1 : w6.cell? ⟨g, 1, none⟩ = some (.int .i64 c.pt) := cell_of (unhide HY) 1
  have y2 : w6.cell? ⟨g, 2, none⟩ = some (.int .i64 c.cp) := cell_of (unhide HY) 2
  have y3 : w6.cell? ⟨g, 3, none⟩ = some (.slice c.a c.ps.length c.c) := cell_of (unhide HY) 3
  have K7 : Hid (Calls Try.prog 8 #[.agg (cellsCf c).toArray] w6 fun e w' => e = .returned (.bool true) ∧ Below w6.heap.size w6 w') := by
    have := bad_any (unhide HC6)
    rw [unhide HS] at this
    exact hide this
  go_wp2_with fail
  refine (unhide K7).mono ?_
  rintro e w7 ⟨rfl, b7⟩
  have GL : Hid (g ≤ w6.heap.size) := hide (Nat.le_of_lt (lt_of_heap (unhide HY)))
  have B7 := hide ((unhide B6).trans (Below.mono b7 (unhide GL)))
  have HY7 := hide (below_keep b7 (unhide HY))
  have HC7 := hide ((unhide HC6).keep (Touch.of_below b7))
  clear b7 K7 HY HC6 B6 GL
  have HY := HY7
  clear y0 y1 y2 y3
  have y0 : w7.cell? ⟨g, 0, none⟩ = some (.int .i64 c.nd) := cell_of (unhide HY) 0
  have y1 : w7.cell? ⟨g, 1, none⟩ = some (.int .i64 c.pt) := cell_of (unhide HY) 1
  have y2 : w7.cell? ⟨g, 2, none⟩ = some (.int .i64 c.cp) := cell_of (unhide HY) 2
  have y3 : w7.cell? ⟨g, 3, none⟩ = some (.slice c.a c.ps.length c.c) := cell_of (unhide HY) 3
  have FF : Hid (Below w.heap.size w w7) := by rw [unhide HG]; exact B7
  clear B7 HC7 HY HY7
  go_wp2
  go_returns
  exact ⟨rfl, unhide FF⟩
set_option maxRecDepth 100000 in
set_option maxHeartbeats 8000000 in
theorem checks_neg {w : World} {c : Cf} {m : Int} (h : CfIn w c) (hs : stB c = true) (hm : m < 0) : Calls Try.prog 3 #[.agg (cellsCf c).toArray, .int .i64 m] w fun e w' => e = .returned (.bool true) ∧ Below w.heap.size w w' := by
  have b0 := (Below.refl w.heap.size w).alloc (Nat.le_refl _) (.cells (cellsCf c).toArray 24)
  have B1 := hide b0
  have HY0 := hide (heap_new w (.cells (cellsCf c).toArray 24))
  have HC := hide (h.keep (Touch.of_below b0))
  have HL := hide h.l
  have HS := hide hs
  clear b0 h hs
  have K1 : Hid (Calls Try.prog 6 #[.agg (cellsCf c).toArray] (w.alloc (.cells (cellsCf c).toArray 24)) fun e w' => e = .returned (.int .i64 0) ∧ Touch (fun _ => False) (w.alloc (.cells (cellsCf c).toArray 24)) w') := by
    have := ccheck_any (unhide HC)
    rw [unhide HS] at this
    exact hide this
  go_enter Try.func3, Try.ntmps3
  go_upto_region 1 with fail
  change Code.wp _ _ _ _ (w.alloc (.cells [Value.int .i64 c.nd, .int .i64 c.pt, .int .i64 c.cp, .slice c.a c.ps.length c.c].toArray 24))
  have e1 : w.alloc (.cells [Value.int .i64 c.nd, .int .i64 c.pt, .int .i64 c.cp, .slice c.a c.ps.length c.c].toArray 24) = w.alloc (.cells (cellsCf c).toArray 24) := rfl
  rw [e1]
  clear e1
  generalize w.alloc (.cells (cellsCf c).toArray 24) = w1 at *
  generalize hg : w.heap.size = g at *
  have HG := hide hg
  clear hg
  have HY := HY0
  have y0 : w1.cell? ⟨g, 0, none⟩ = some (.int .i64 c.nd) := cell_of (unhide HY) 0
  have y1 : w1.cell? ⟨g, 1, none⟩ = some (.int .i64 c.pt) := cell_of (unhide HY) 1
  have y2 : w1.cell? ⟨g, 2, none⟩ = some (.int .i64 c.cp) := cell_of (unhide HY) 2
  have y3 : w1.cell? ⟨g, 3, none⟩ = some (.slice c.a c.ps.length c.c) := cell_of (unhide HY) 3
  go_wp2_with fail
  refine (unhide K1).mono ?_
  rintro e w2 ⟨rfl, t2⟩
  have GL : Hid (g ≤ w1.heap.size) := hide (Nat.le_of_lt (lt_of_heap (unhide HY0)))
  have B2 := hide (below_touch (unhide B1) t2 (unhide GL) (fun k hk => hk.elim))
  have HY := hide (t2.keep (unhide HY0) (fun h => h))
  have HC2 := hide ((unhide HC).keep t2)
  clear t2 K1 HY0 HC B1 GL
  clear y0 y1 y2 y3
  have y0 : w2.cell? ⟨g, 0, none⟩ = some (.int .i64 c.nd) := cell_of (unhide HY) 0
  have y1 : w2.cell? ⟨g, 1, none⟩ = some (.int .i64 c.pt) := cell_of (unhide HY) 1
  have y2 : w2.cell? ⟨g, 2, none⟩ = some (.int .i64 c.cp) := cell_of (unhide HY) 2
  have y3 : w2.cell? ⟨g, 3, none⟩ = some (.slice c.a c.ps.length c.c) := cell_of (unhide HY) 3
  have K2 := hide (new_out (m := m) (unhide HC2) (unhide HS) (.inl hm))
  go_wp2_with fail
  refine (unhide K2).mono ?_
  rintro e w3 ⟨rfl, t3⟩
  have GL : Hid (g ≤ w2.heap.size) := hide (Nat.le_of_lt (lt_of_heap (unhide HY)))
  have B3 := hide (below_touch (unhide B2) t3 (unhide GL) (fun k hk => hk.elim))
  have HY3 := hide (t3.keep (unhide HY) (fun h => h))
  have HC3 := hide ((unhide HC2).keep t3)
  clear t3 K2 HY HC2 B2 GL
  have HY := HY3
  clear y0 y1 y2 y3
  have y0 : w3.cell? ⟨g, 0, none⟩ = some (.int .i64 c.nd) := cell_of (unhide HY) 0
  have y1 : w3.cell? ⟨g, 1, none⟩ = some (.int .i64 c.pt) := cell_of (unhide HY) 1
  have y2 : w3.cell? ⟨g, 2, none⟩ = some (.int .i64 c.cp) := cell_of (unhide HY) 2
  have y3 : w3.cell? ⟨g, 3, none⟩ = some (.slice c.a c.ps.length c.c) := cell_of (unhide HY) 3
  have K4 : Hid (Calls Try.prog 8 #[.agg (cellsCf c).toArray] w3 fun e w' => e = .returned (.bool false) ∧ Below w3.heap.size w3 w') := by
    have := bad_any (unhide HC3)
    rw [unhide HS] at this
    exact hide this
  go_wp2_with fail
  refine (unhide K4).mono ?_
  rintro e w4 ⟨rfl, b4⟩
  have GL : Hid (g ≤ w3.heap.size) := hide (Nat.le_of_lt (lt_of_heap (unhide HY)))
  have B4 := hide ((unhide B3).trans (Below.mono b4 (unhide GL)))
  have HY4 := hide (below_keep b4 (unhide HY))
  have HC4 := hide ((unhide HC3).keep (Touch.of_below b4))
  clear b4 K4 HY HC3 B3 GL
  have HY := HY4
  clear y0 y1 y2 y3
  have y0 : w4.cell? ⟨g, 0, none⟩ = some (.int .i64 c.nd) := cell_of (unhide HY) 0
  have y1 : w4.cell? ⟨g, 1, none⟩ = some (.int .i64 c.pt) := cell_of (unhide HY) 1
  have y2 : w4.cell? ⟨g, 2, none⟩ = some (.int .i64 c.cp) := cell_of (unhide HY) 2
  have y3 : w4.cell? ⟨g, 3, none⟩ = some (.slice c.a c.ps.length c.c) := cell_of (unhide HY) 3
  have K5 := hide (awake19 w4)
  go_wp2_with fail
  refine (unhide K5).mono ?_
  rintro e w5 ⟨rfl, b5⟩
  have GL : Hid (g ≤ w4.heap.size) := hide (Nat.le_of_lt (lt_of_heap (unhide HY)))
  have B5 := hide ((unhide B4).trans (Below.mono b5 (unhide GL)))
  have HY5 := hide (below_keep b5 (unhide HY))
  have HC5 := hide ((unhide HC4).keep (Touch.of_below b5))
  clear b5 K5 HY HC4 B4 GL
  have HY := HY5
  clear y0 y1 y2 y3
  have y0 : w5.cell? ⟨g, 0, none⟩ = some (.int .i64 c.nd) := cell_of (unhide HY) 0
  have y1 : w5.cell? ⟨g, 1, none⟩ = some (.int .i64 c.pt) := cell_of (unhide HY) 1
  have y2 : w5.cell? ⟨g, 2, none⟩ = some (.int .i64 c.cp) := cell_of (unhide HY) 2
  have y3 : w5.cell? ⟨g, 3, none⟩ = some (.slice c.a c.ps.length c.c) := cell_of (unhide HY) 3
  have K6 : Hid (Calls Try.prog 8 #[.agg (cellsCf c).toArray] w5 fun e w' => e = .returned (.bool false) ∧ Below w5.heap.size w5 w') := by
    have := bad_any (unhide HC5)
    rw [unhide HS] at this
    exact hide this
  go_wp2_with fail
  refine (unhide K6).mono ?_
  rintro e w6 ⟨rfl, b6⟩
  have GL : Hid (g ≤ w5.heap.size) := hide (Nat.le_of_lt (lt_of_heap (unhide HY)))
  have B6 := hide ((unhide B5).trans (Below.mono b6 (unhide GL)))
  have HY6 := hide (below_keep b6 (unhide HY))
  have HC6 := hide ((unhide HC5).keep (Touch.of_below b6))
  clear b6 K6 HY HC5 B5 GL
  have HY := HY6
  clear y0 y1 y2 y3
  have y0 : w6.cell? ⟨g, 0, none⟩ = some (.int .i64 c.nd) := cell_of (unhide HY) 0
  have y1 : w6.cell? ⟨g, 1, none⟩ = some (.int .i64 c.pt) := cell_of (unhide HY) 1
  have y2 : w6.cell? ⟨g, 2, none⟩ = some (.int .i64 c.cp) := cell_of (unhide HY) 2
  have y3 : w6.cell? ⟨g, 3, none⟩ = some (.slice c.a c.ps.length c.c) := cell_of (unhide HY) 3
  have K7 : Hid (Calls Try.prog 8 #[.agg (cellsCf c).toArray] w6 fun e w' => e = .returned (.bool false) ∧ Below w6.heap.size w6 w') := by
    have := bad_any (unhide HC6)
    rw [unhide HS] at this
    exact hide this
  go_wp2_with fail
  refine (unhide K7).mono ?_
  rintro e w7 ⟨rfl, b7⟩
  have GL : Hid (g ≤ w6.heap.size) := hide (Nat.le_of_lt (lt_of_heap (unhide HY)))
  have B7 := hide ((unhide B6).trans (Below.mono b7 (unhide GL)))
  have HY7 := hide (below_keep b7 (unhide HY))
  have HC7 := hide ((unhide HC6).keep (Touch.of_below b7))
  clear b7 K7 HY HC6 B6 GL
  have HY := HY7
  clear y0 y1 y2 y3
  have y0 : w7.cell? ⟨g, 0, none⟩ = some (.int .i64 c.nd) := cell_of (unhide HY) 0
  have y1 : w7.cell? ⟨g, 1, none⟩ = some (.int .i64 c.pt) := cell_of (unhide HY) 1
  have y2 : w7.cell? ⟨g, 2, none⟩ = some (.int .i64 c.cp) := cell_of (unhide HY) 2
  have y3 : w7.cell? ⟨g, 3, none⟩ = some (.slice c.a c.ps.length c.c) := cell_of (unhide HY) 3
  have FF : Hid (Below w.heap.size w w7) := by rw [unhide HG]; exact B7
  clear B7 HC7 HY HY7
  go_wp2
  go_returns
  exact ⟨rfl, unhide FF⟩
set_option maxRecDepth 100000 in
set_option maxHeartbeats 8000000 in
theorem checks_over {w : World} {c : Cf} {m : Int} (h : CfIn w c) (hs : stB c = true) (hm : ¬ m < 0) (hn : (c.ps.length : Int) ≤ m) : Calls Try.prog 3 #[.agg (cellsCf c).toArray, .int .i64 m] w fun e w' => e = .returned (.bool true) ∧ Below w.heap.size w w' := by
  have b0 := (Below.refl w.heap.size w).alloc (Nat.le_refl _) (.cells (cellsCf c).toArray 24)
  have B1 := hide b0
  have HY0 := hide (heap_new w (.cells (cellsCf c).toArray 24))
  have HC := hide (h.keep (Touch.of_below b0))
  have HL := hide h.l
  have HS := hide hs
  have hbz : c.ps.length ≤ 9223372036854775807 := by have := unhide HL; unfold maxLen at this; omega
  clear b0 h hs
  have K1 : Hid (Calls Try.prog 6 #[.agg (cellsCf c).toArray] (w.alloc (.cells (cellsCf c).toArray 24)) fun e w' => e = .returned (.int .i64 0) ∧ Touch (fun _ => False) (w.alloc (.cells (cellsCf c).toArray 24)) w') := by
    have := ccheck_any (unhide HC)
    rw [unhide HS] at this
    exact hide this
  go_enter Try.func3, Try.ntmps3
  go_upto_region 1 with fail
  change Code.wp _ _ _ _ (w.alloc (.cells [Value.int .i64 c.nd, .int .i64 c.pt, .int .i64 c.cp, .slice c.a c.ps.length c.c].toArray 24))
  have e1 : w.alloc (.cells [Value.int .i64 c.nd, .int .i64 c.pt, .int .i64 c.cp, .slice c.a c.ps.length c.c].toArray 24) = w.alloc (.cells (cellsCf c).toArray 24) := rfl
  rw [e1]
  clear e1
  generalize w.alloc (.cells (cellsCf c).toArray 24) = w1 at *
  generalize hg : w.heap.size = g at *
  have HG := hide hg
  clear hg
  have HY := HY0
  have y0 : w1.cell? ⟨g, 0, none⟩ = some (.int .i64 c.nd) := cell_of (unhide HY) 0
  have y1 : w1.cell? ⟨g, 1, none⟩ = some (.int .i64 c.pt) := cell_of (unhide HY) 1
  have y2 : w1.cell? ⟨g, 2, none⟩ = some (.int .i64 c.cp) := cell_of (unhide HY) 2
  have y3 : w1.cell? ⟨g, 3, none⟩ = some (.slice c.a c.ps.length c.c) := cell_of (unhide HY) 3
  go_wp2_with fail
  refine (unhide K1).mono ?_
  rintro e w2 ⟨rfl, t2⟩
  have GL : Hid (g ≤ w1.heap.size) := hide (Nat.le_of_lt (lt_of_heap (unhide HY0)))
  have B2 := hide (below_touch (unhide B1) t2 (unhide GL) (fun k hk => hk.elim))
  have HY := hide (t2.keep (unhide HY0) (fun h => h))
  have HC2 := hide ((unhide HC).keep t2)
  clear t2 K1 HY0 HC B1 GL
  clear y0 y1 y2 y3
  have y0 : w2.cell? ⟨g, 0, none⟩ = some (.int .i64 c.nd) := cell_of (unhide HY) 0
  have y1 : w2.cell? ⟨g, 1, none⟩ = some (.int .i64 c.pt) := cell_of (unhide HY) 1
  have y2 : w2.cell? ⟨g, 2, none⟩ = some (.int .i64 c.cp) := cell_of (unhide HY) 2
  have y3 : w2.cell? ⟨g, 3, none⟩ = some (.slice c.a c.ps.length c.c) := cell_of (unhide HY) 3
  have K2 := hide (new_out (m := m) (unhide HC2) (unhide HS) (.inr hn))
  go_wp2_with fail
  refine (unhide K2).mono ?_
  rintro e w3 ⟨rfl, t3⟩
  have GL : Hid (g ≤ w2.heap.size) := hide (Nat.le_of_lt (lt_of_heap (unhide HY)))
  have B3 := hide (below_touch (unhide B2) t3 (unhide GL) (fun k hk => hk.elim))
  have HY3 := hide (t3.keep (unhide HY) (fun h => h))
  have HC3 := hide ((unhide HC2).keep t3)
  clear t3 K2 HY HC2 B2 GL
  have HY := HY3
  clear y0 y1 y2 y3
  have y0 : w3.cell? ⟨g, 0, none⟩ = some (.int .i64 c.nd) := cell_of (unhide HY) 0
  have y1 : w3.cell? ⟨g, 1, none⟩ = some (.int .i64 c.pt) := cell_of (unhide HY) 1
  have y2 : w3.cell? ⟨g, 2, none⟩ = some (.int .i64 c.cp) := cell_of (unhide HY) 2
  have y3 : w3.cell? ⟨g, 3, none⟩ = some (.slice c.a c.ps.length c.c) := cell_of (unhide HY) 3
  have K4 : Hid (Calls Try.prog 8 #[.agg (cellsCf c).toArray] w3 fun e w' => e = .returned (.bool false) ∧ Below w3.heap.size w3 w') := by
    have := bad_any (unhide HC3)
    rw [unhide HS] at this
    exact hide this
  go_wp2_with fail
  refine (unhide K4).mono ?_
  rintro e w4 ⟨rfl, b4⟩
  have GL : Hid (g ≤ w3.heap.size) := hide (Nat.le_of_lt (lt_of_heap (unhide HY)))
  have B4 := hide ((unhide B3).trans (Below.mono b4 (unhide GL)))
  have HY4 := hide (below_keep b4 (unhide HY))
  have HC4 := hide ((unhide HC3).keep (Touch.of_below b4))
  clear b4 K4 HY HC3 B3 GL
  have HY := HY4
  clear y0 y1 y2 y3
  have y0 : w4.cell? ⟨g, 0, none⟩ = some (.int .i64 c.nd) := cell_of (unhide HY) 0
  have y1 : w4.cell? ⟨g, 1, none⟩ = some (.int .i64 c.pt) := cell_of (unhide HY) 1
  have y2 : w4.cell? ⟨g, 2, none⟩ = some (.int .i64 c.cp) := cell_of (unhide HY) 2
  have y3 : w4.cell? ⟨g, 3, none⟩ = some (.slice c.a c.ps.length c.c) := cell_of (unhide HY) 3
  have K5 := hide (awake19 w4)
  go_wp2_with fail
  refine (unhide K5).mono ?_
  rintro e w5 ⟨rfl, b5⟩
  have GL : Hid (g ≤ w4.heap.size) := hide (Nat.le_of_lt (lt_of_heap (unhide HY)))
  have B5 := hide ((unhide B4).trans (Below.mono b5 (unhide GL)))
  have HY5 := hide (below_keep b5 (unhide HY))
  have HC5 := hide ((unhide HC4).keep (Touch.of_below b5))
  clear b5 K5 HY HC4 B4 GL
  have HY := HY5
  clear y0 y1 y2 y3
  have y0 : w5.cell? ⟨g, 0, none⟩ = some (.int .i64 c.nd) := cell_of (unhide HY) 0
  have y1 : w5.cell? ⟨g, 1, none⟩ = some (.int .i64 c.pt) := cell_of (unhide HY) 1
  have y2 : w5.cell? ⟨g, 2, none⟩ = some (.int .i64 c.cp) := cell_of (unhide HY) 2
  have y3 : w5.cell? ⟨g, 3, none⟩ = some (.slice c.a c.ps.length c.c) := cell_of (unhide HY) 3
  have K6 : Hid (Calls Try.prog 8 #[.agg (cellsCf c).toArray] w5 fun e w' => e = .returned (.bool false) ∧ Below w5.heap.size w5 w') := by
    have := bad_any (unhide HC5)
    rw [unhide HS] at this
    exact hide this
  go_wp2_with fail
  refine (unhide K6).mono ?_
  rintro e w6 ⟨rfl, b6⟩
  have GL : Hid (g ≤ w5.heap.size) := hide (Nat.le_of_lt (lt_of_heap (unhide HY)))
  have B6 := hide ((unhide B5).trans (Below.mono b6 (unhide GL)))
  have HY6 := hide (below_keep b6 (unhide HY))
  have HC6 := hide ((unhide HC5).keep (Touch.of_below b6))
  clear b6 K6 HY HC5 B5 GL
  have HY := HY6
  clear y0 y1 y2 y3
  have y0 : w6.cell? ⟨g, 0, none⟩ = some (.int .i64 c.nd) := cell_of (unhide HY) 0
  have y1 : w6.cell? ⟨g, 1, none⟩ = some (.int .i64 c.pt) := cell_of (unhide HY) 1
  have y2 : w6.cell? ⟨g, 2, none⟩ = some (.int .i64 c.cp) := cell_of (unhide HY) 2
  have y3 : w6.cell? ⟨g, 3, none⟩ = some (.slice c.a c.ps.length c.c) := cell_of (unhide HY) 3
  have K7 : Hid (Calls Try.prog 8 #[.agg (cellsCf c).toArray] w6 fun e w' => e = .returned (.bool false) ∧ Below w6.heap.size w6 w') := by
    have := bad_any (unhide HC6)
    rw [unhide HS] at this
    exact hide this
  go_wp2_with fail
  refine (unhide K7).mono ?_
  rintro e w7 ⟨rfl, b7⟩
  have GL : Hid (g ≤ w6.heap.size) := hide (Nat.le_of_lt (lt_of_heap (unhide HY)))
  have B7 := hide ((unhide B6).trans (Below.mono b7 (unhide GL)))
  have HY7 := hide (below_keep b7 (unhide HY))
  have HC7 := hide ((unhide HC6).keep (Touch.of_below b7))
  clear b7 K7 HY HC6 B6 GL
  have HY := HY7
  clear y0 y1 y2 y3
  have y0 : w7.cell? ⟨g, 0, none⟩ = some (.int .i64 c.nd) := cell_of (unhide HY) 0
  have y1 : w7.cell? ⟨g, 1, none⟩ = some (.int .i64 c.pt) := cell_of (unhide HY) 1
  have y2 : w7.cell? ⟨g, 2, none⟩ = some (.int .i64 c.cp) := cell_of (unhide HY) 2
  have y3 : w7.cell? ⟨g, 3, none⟩ = some (.slice c.a c.ps.length c.c) := cell_of (unhide HY) 3
  have FF : Hid (Below w.heap.size w w7) := by rw [unhide HG]; exact B7
  clear B7 HC7 HY HY7
  go_wp2
  go_returns
  exact ⟨rfl, unhide FF⟩
set_option maxRecDepth 100000 in
set_option maxHeartbeats 8000000 in
theorem checks_in {w : World} {c : Cf} {n : Nat} (h : CfIn w c) (hs : stB c = true) (hn : n < c.ps.length) (hz : ∀ p ∈ c.ps, p.a = none → p.c = 0) : Calls Try.prog 3 #[.agg (cellsCf c).toArray, .int .i64 (n : Int)] w fun e w' => e = .returned (.bool true) ∧ Below w.heap.size w w' := by
  have b0 := (Below.refl w.heap.size w).alloc (Nat.le_refl _) (.cells (cellsCf c).toArray 24)
  have B1 := hide b0
  have HY0 := hide (heap_new w (.cells (cellsCf c).toArray 24))
  have HC := hide (h.keep (Touch.of_below b0))
  have HL := hide h.l
  have HS := hide hs
  have hm0 : ¬ (n : Int) < 0 := by omega
  have hm2 : ¬ c.ps.length ≤ n := by omega
  have hm3 : decide ((n : Int) < 0) = false := decide_eq_false hm0
  have hm4 : decide (c.ps.length ≤ n) = false := decide_eq_false hm2
  have hm1 : ¬ (c.ps.length : Int) ≤ (n : Int) := by omega
  have hbz : c.ps.length ≤ 9223372036854775807 := by have := unhide HL; unfold maxLen at this; omega
  have HN := hide hn
  have HZ := hide hz
  clear hn hz
  clear b0 h hs
  have K1 : Hid (Calls Try.prog 6 #[.agg (cellsCf c).toArray] (w.alloc (.cells (cellsCf c).toArray 24)) fun e w' => e = .returned (.int .i64 0) ∧ Touch (fun _ => False) (w.alloc (.cells (cellsCf c).toArray 24)) w') := by
    have := ccheck_any (unhide HC)
    rw [unhide HS] at this
    exact hide this
  go_enter Try.func3, Try.ntmps3
  go_upto_region 1 with fail
  change Code.wp _ _ _ _ (w.alloc (.cells [Value.int .i64 c.nd, .int .i64 c.pt, .int .i64 c.cp, .slice c.a c.ps.length c.c].toArray 24))
  have e1 : w.alloc (.cells [Value.int .i64 c.nd, .int .i64 c.pt, .int .i64 c.cp, .slice c.a c.ps.length c.c].toArray 24) = w.alloc (.cells (cellsCf c).toArray 24) := rfl
  rw [e1]
  clear e1
  generalize w.alloc (.cells (cellsCf c).toArray 24) = w1 at *
  generalize hg : w.heap.size = g at *
  have HG := hide hg
  clear hg
  have HY := HY0
  have y0 : w1.cell? ⟨g, 0, none⟩ = some (.int .i64 c.nd) := cell_of (unhide HY) 0
  have y1 : w1.cell? ⟨g, 1, none⟩ = some (.int .i64 c.pt) := cell_of (unhide HY) 1
  have y2 : w1.cell? ⟨g, 2, none⟩ = some (.int .i64 c.cp) := cell_of (unhide HY) 2
  have y3 : w1.cell? ⟨g, 3, none⟩ = some (.slice c.a c.ps.length c.c) := cell_of (unhide HY) 3
  go_wp2_with fail
  refine (unhide K1).mono ?_
  rintro e w2 ⟨rfl, t2⟩
  have GL : Hid (g ≤ w1.heap.size) := hide (Nat.le_of_lt (lt_of_heap (unhide HY0)))
  have B2 := hide (below_touch (unhide B1) t2 (unhide GL) (fun k hk => hk.elim))
  have HY := hide (t2.keep (unhide HY0) (fun h => h))
  have HC2 := hide ((unhide HC).keep t2)
  clear t2 K1 HY0 HC B1 GL
  clear y0 y1 y2 y3
  have y0 : w2.cell? ⟨g, 0, none⟩ = some (.int .i64 c.nd) := cell_of (unhide HY) 0
  have y1 : w2.cell? ⟨g, 1, none⟩ = some (.int .i64 c.pt) := cell_of (unhide HY) 1
  have y2 : w2.cell? ⟨g, 2, none⟩ = some (.int .i64 c.cp) := cell_of (unhide HY) 2
  have y3 : w2.cell? ⟨g, 3, none⟩ = some (.slice c.a c.ps.length c.c) := cell_of (unhide HY) 3
  have K2 := hide (new_ok (n := n) (p := c.ps[n]'(unhide HN)) (unhide HC2) (unhide HS) (unhide HN) rfl (st_each (unhide HS) _ (List.getElem_mem _)) (unhide HZ _ (List.getElem_mem _)))
  go_wp2_with fail
  refine (unhide K2).mono ?_
  rintro e w3 ⟨bN, aN, kN, rfl, _, _, _, t3⟩
  have GL : Hid (g ≤ w2.heap.size) := hide (Nat.le_of_lt (lt_of_heap (unhide HY)))
  have B3 := hide (below_touch (unhide B2) t3 (unhide GL) (fun k hk => hk.elim))
  have HY3 := hide (t3.keep (unhide HY) (fun h => h))
  have HC3 := hide ((unhide HC2).keep t3)
  clear t3 K2 HY HC2 B2 GL
  have HY := HY3
  clear y0 y1 y2 y3
  have y0 : w3.cell? ⟨g, 0, none⟩ = some (.int .i64 c.nd) := cell_of (unhide HY) 0
  have y1 : w3.cell? ⟨g, 1, none⟩ = some (.int .i64 c.pt) := cell_of (unhide HY) 1
  have y2 : w3.cell? ⟨g, 2, none⟩ = some (.int .i64 c.cp) := cell_of (unhide HY) 2
  have y3 : w3.cell? ⟨g, 3, none⟩ = some (.slice c.a c.ps.length c.c) := cell_of (unhide HY) 3
  have K4 : Hid (Calls Try.prog 8 #[.agg (cellsCf c).toArray] w3 fun e w' => e = .returned (.bool false) ∧ Below w3.heap.size w3 w') := by
    have := bad_any (unhide HC3)
    rw [unhide HS] at this
    exact hide this
  go_wp2_with fail
  refine (unhide K4).mono ?_
  rintro e w4 ⟨rfl, b4⟩
  have GL : Hid (g ≤ w3.heap.size) := hide (Nat.le_of_lt (lt_of_heap (unhide HY)))
  have B4 := hide ((unhide B3).trans (Below.mono b4 (unhide GL)))
  have HY4 := hide (below_keep b4 (unhide HY))
  have HC4 := hide ((unhide HC3).keep (Touch.of_below b4))
  clear b4 K4 HY HC3 B3 GL
  have HY := HY4
  clear y0 y1 y2 y3
  have y0 : w4.cell? ⟨g, 0, none⟩ = some (.int .i64 c.nd) := cell_of (unhide HY) 0
  have y1 : w4.cell? ⟨g, 1, none⟩ = some (.int .i64 c.pt) := cell_of (unhide HY) 1
  have y2 : w4.cell? ⟨g, 2, none⟩ = some (.int .i64 c.cp) := cell_of (unhide HY) 2
  have y3 : w4.cell? ⟨g, 3, none⟩ = some (.slice c.a c.ps.length c.c) := cell_of (unhide HY) 3
  have K5 := hide (awake19 w4)
  go_wp2_with fail
  refine (unhide K5).mono ?_
  rintro e w5 ⟨rfl, b5⟩
  have GL : Hid (g ≤ w4.heap.size) := hide (Nat.le_of_lt (lt_of_heap (unhide HY)))
  have B5 := hide ((unhide B4).trans (Below.mono b5 (unhide GL)))
  have HY5 := hide (below_keep b5 (unhide HY))
  have HC5 := hide ((unhide HC4).keep (Touch.of_below b5))
  clear b5 K5 HY HC4 B4 GL
  have HY := HY5
  clear y0 y1 y2 y3
  have y0 : w5.cell? ⟨g, 0, none⟩ = some (.int .i64 c.nd) := cell_of (unhide HY) 0
  have y1 : w5.cell? ⟨g, 1, none⟩ = some (.int .i64 c.pt) := cell_of (unhide HY) 1
  have y2 : w5.cell? ⟨g, 2, none⟩ = some (.int .i64 c.cp) := cell_of (unhide HY) 2
  have y3 : w5.cell? ⟨g, 3, none⟩ = some (.slice c.a c.ps.length c.c) := cell_of (unhide HY) 3
  have K6 : Hid (Calls Try.prog 8 #[.agg (cellsCf c).toArray] w5 fun e w' => e = .returned (.bool false) ∧ Below w5.heap.size w5 w') := by
    have := bad_any (unhide HC5)
    rw [unhide HS] at this
    exact hide this
  go_wp2_with fail
  refine (unhide K6).mono ?_
  rintro e w6 ⟨rfl, b6⟩
  have GL : Hid (g ≤ w5.heap.size) := hide (Nat.le_of_lt (lt_of_heap (unhide HY)))
  have B6 := hide ((unhide B5).trans (Below.mono b6 (unhide GL)))
  have HY6 := hide (below_keep b6 (unhide HY))
  have HC6 := hide ((unhide HC5).keep (Touch.of_below b6))
  clear b6 K6 HY HC5 B5 GL
  have HY := HY6
  clear y0 y1 y2 y3
  have y0 : w6.cell? ⟨g, 0, none⟩ = some (.int .i64 c.nd) := cell_of (unhide HY) 0
  have y1 : w6.cell? ⟨g, 1, none⟩ = some (.int .i64 c.pt) := cell_of (unhide HY) 1
  have y2 : w6.cell? ⟨g, 2, none⟩ = some (.int .i64 c.cp) := cell_of (unhide HY) 2
  have y3 : w6.cell? ⟨g, 3, none⟩ = some (.slice c.a c.ps.length c.c) := cell_of (unhide HY) 3
  have K7 : Hid (Calls Try.prog 8 #[.agg (cellsCf c).toArray] w6 fun e w' => e = .returned (.bool false) ∧ Below w6.heap.size w6 w') := by
    have := bad_any (unhide HC6)
    rw [unhide HS] at this
    exact hide this
  go_wp2_with fail
  refine (unhide K7).mono ?_
  rintro e w7 ⟨rfl, b7⟩
  have GL : Hid (g ≤ w6.heap.size) := hide (Nat.le_of_lt (lt_of_heap (unhide HY)))
  have B7 := hide ((unhide B6).trans (Below.mono b7 (unhide GL)))
  have HY7 := hide (below_keep b7 (unhide HY))
  have HC7 := hide ((unhide HC6).keep (Touch.of_below b7))
  clear b7 K7 HY HC6 B6 GL
  have HY := HY7
  clear y0 y1 y2 y3
  have y0 : w7.cell? ⟨g, 0, none⟩ = some (.int .i64 c.nd) := cell_of (unhide HY) 0
  have y1 : w7.cell? ⟨g, 1, none⟩ = some (.int .i64 c.pt) := cell_of (unhide HY) 1
  have y2 : w7.cell? ⟨g, 2, none⟩ = some (.int .i64 c.cp) := cell_of (unhide HY) 2
  have y3 : w7.cell? ⟨g, 3, none⟩ = some (.slice c.a c.ps.length c.c) := cell_of (unhide HY) 3
  have FF : Hid (Below w.heap.size w w7) := by rw [unhide HG]; exact B7
  clear B7 HC7 HY HY7
  go_wp2
  go_returns
  exact ⟨by first | rfl | (simp [hm3, hm4]; done), unhide FF⟩
theorem clientChecks_walk {w : World} {c : Cf} (m : Int) (h : CfIn w c) (hz : ∀ p ∈ c.ps, p.a = none → p.c = 0) : Calls Try.prog 3 #[.agg (cellsCf c).toArray, .int .i64 m] w fun e w' => e = .returned (.bool true) ∧ Below w.heap.size w w' := by
  cases hs : stB c with
  | false => exact checks_not h hs
  | true =>
    by_cases hm : m < 0
    · exact checks_neg h hs hm
    · by_cases hn : (c.ps.length : Int) ≤ m
      · exact checks_over h hs hm hn
      · obtain ⟨n, rfl⟩ : ∃ n : Nat, m = (n : Int) := ⟨m.toNat, by omega⟩
        exact checks_in h hs (by omega) hz
end Go.Proofs.Ytbonlonkienhaaa
