/-
  BatchMarks answers true. Conditions: none beyond those of the parameters' types.
-/
import Derived.Test.YtfccddcoindnlaaAw7
import Derived.Deep.RegionHeld3
namespace Go.Proofs.Ytfccddcoindnlaa
open Go.RowKit
set_option linter.unusedVariables false

theorem ra_nil (w : World) : RAt w none [] := fun i hi => by cases hi

theorem keep9 {w3 w' : World} {g : Nat} {v0 v1 v2 v3 v4 v5 v6 v7 v8 : Value} (hlt : g < w3.heap.size) (k : w3.cell? ⟨g, 0, none⟩ = some v0 ∧ w3.cell? ⟨g, 1, none⟩ = some v1 ∧ w3.cell? ⟨g, 2, none⟩ = some v2 ∧ w3.cell? ⟨g, 3, none⟩ = some v3 ∧ w3.cell? ⟨g, 4, none⟩ = some v4 ∧ w3.cell? ⟨g, 5, none⟩ = some v5 ∧ w3.cell? ⟨g, 6, none⟩ = some v6 ∧ w3.cell? ⟨g, 7, none⟩ = some v7 ∧ w3.cell? ⟨g, 8, none⟩ = some v8) (hb : Below w3.heap.size w3 w') : w'.cell? ⟨g, 0, none⟩ = some v0 ∧ w'.cell? ⟨g, 1, none⟩ = some v1 ∧ w'.cell? ⟨g, 2, none⟩ = some v2 ∧ w'.cell? ⟨g, 3, none⟩ = some v3 ∧ w'.cell? ⟨g, 4, none⟩ = some v4 ∧ w'.cell? ⟨g, 5, none⟩ = some v5 ∧ w'.cell? ⟨g, 6, none⟩ = some v6 ∧ w'.cell? ⟨g, 7, none⟩ = some v7 ∧ w'.cell? ⟨g, 8, none⟩ = some v8 := by
  obtain ⟨k0, k1, k2, k3, k4, k5, k6, k7, k8⟩ := k
  exact ⟨(hb.cell (p := ⟨g, 0, none⟩) hlt).trans k0, (hb.cell (p := ⟨g, 1, none⟩) hlt).trans k1, (hb.cell (p := ⟨g, 2, none⟩) hlt).trans k2, (hb.cell (p := ⟨g, 3, none⟩) hlt).trans k3, (hb.cell (p := ⟨g, 4, none⟩) hlt).trans k4, (hb.cell (p := ⟨g, 5, none⟩) hlt).trans k5, (hb.cell (p := ⟨g, 6, none⟩) hlt).trans k6, (hb.cell (p := ⟨g, 7, none⟩) hlt).trans k7, (hb.cell (p := ⟨g, 8, none⟩) hlt).trans k8⟩

/-- Three boxes alike, each with one cell laid anew. -/
theorem marks_after {ba ep pid : Nat} {pe : Int} {com : Bool} (m n v x : Nat) (W : World) (hm : Box W m ⟨(ba : Int), (ep : Int), pid, pe, 0, true, true, com, []⟩ none 0) (hn : Blk W n #[.int .i64 (ba : Int), .int .i64 (ep : Int), .int .u64 (pid : Int), .int .i64 pe, .int .i64 0, .bool true, .bool true, .bool com, .slice none 0 0]) (hv : Blk W v #[.int .i64 (ba : Int), .int .i64 (ep : Int), .int .u64 (pid : Int), .int .i64 pe, .int .i64 0, .bool true, .bool true, .bool com, .slice none 0 0]) (hx : Blk W x #[.int .i64 (ba : Int), .int .i64 (ep : Int), .int .u64 (pid : Int), .int .i64 pe, .int .i64 0, .bool true, .bool true, .bool com, .slice none 0 0]) (a1 : ¬ n = v) (a2 : ¬ n = x) (a3 : ¬ v = x) (a7 : ¬ n = m) (a8 : ¬ v = m) (a9 : ¬ x = m) :
    Box ((((W.setCell ⟨n, 5, none⟩ (.bool false)).setCell ⟨v, 8, none⟩ (.slice (some ⟨W.heap.size, 0, none⟩) 1 1)).setCell ⟨x, 4, none⟩ (.int .i64 1)).alloc (.cells #[.slice none 0 0] 26)) m ⟨(ba : Int), (ep : Int), pid, pe, 0, true, true, com, []⟩ none 0 ∧ Box ((((W.setCell ⟨n, 5, none⟩ (.bool false)).setCell ⟨v, 8, none⟩ (.slice (some ⟨W.heap.size, 0, none⟩) 1 1)).setCell ⟨x, 4, none⟩ (.int .i64 1)).alloc (.cells #[.slice none 0 0] 26)) n ⟨(ba : Int), (ep : Int), pid, pe, 0, false, true, com, []⟩ none 0 ∧ Box ((((W.setCell ⟨n, 5, none⟩ (.bool false)).setCell ⟨v, 8, none⟩ (.slice (some ⟨W.heap.size, 0, none⟩) 1 1)).setCell ⟨x, 4, none⟩ (.int .i64 1)).alloc (.cells #[.slice none 0 0] 26)) v ⟨(ba : Int), (ep : Int), pid, pe, 0, true, true, com, [[]]⟩ (some ⟨W.heap.size, 0, none⟩) 1 ∧ Box ((((W.setCell ⟨n, 5, none⟩ (.bool false)).setCell ⟨v, 8, none⟩ (.slice (some ⟨W.heap.size, 0, none⟩) 1 1)).setCell ⟨x, 4, none⟩ (.int .i64 1)).alloc (.cells #[.slice none 0 0] 26)) x ⟨(ba : Int), (ep : Int), pid, pe, 1, true, true, com, []⟩ none 0 ∧ RAt ((((W.setCell ⟨n, 5, none⟩ (.bool false)).setCell ⟨v, 8, none⟩ (.slice (some ⟨W.heap.size, 0, none⟩) 1 1)).setCell ⟨x, 4, none⟩ (.int .i64 1)).alloc (.cells #[.slice none 0 0] 26)) (some ⟨W.heap.size, 0, none⟩) [[]] := by
  have t1 := touch_set W n 5 (.bool false)
  have t2 := touch_set (W.setCell ⟨n, 5, none⟩ (.bool false)) v 8 (.slice (some ⟨W.heap.size, 0, none⟩) 1 1)
  have t3 := touch_set ((W.setCell ⟨n, 5, none⟩ (.bool false)).setCell ⟨v, 8, none⟩ (.slice (some ⟨W.heap.size, 0, none⟩) 1 1)) x 4 (.int .i64 1)
  refine ⟨heap_old _ (t3.keep (t2.keep (t1.keep hm (by omega)) (by omega)) (by omega)), ?_, ?_, ?_, ?_⟩
  · have h1 := hn.set 5 (.bool false) rfl
    exact heap_old _ (t3.keep (t2.keep h1 (by omega)) (by omega))
  · have h1 := hv.keep t1 (by omega)
    have h2 := h1.set 8 (.slice (some ⟨W.heap.size, 0, none⟩) 1 1) rfl
    exact heap_old _ (t3.keep h2 (by omega))
  · have h1 := (hx.keep t1 (by omega)).keep t2 (by omega)
    have h2 := h1.set 4 (.int .i64 1) rfl
    exact heap_old _ h2
  · intro i hi
    obtain rfl : i = 0 := by simpa using hi
    refine ⟨W.heap.size, 0, .slice none 0 0, rfl, by simp, ?_, none, 0, rfl, (fun j hj => by cases hj), fun _ => rfl⟩
    have := cell_of (heap_new (((W.setCell ⟨n, 5, none⟩ (.bool false)).setCell ⟨v, 8, none⟩ (.slice (some ⟨W.heap.size, 0, none⟩) 1 1)).setCell ⟨x, 4, none⟩ (.int .i64 1)) (.cells #[.slice none 0 0] 26)) 0
    simp only [World.size_setCell] at this
    exact this

set_option maxRecDepth 100000 in
set_option maxHeartbeats 8000000 in
theorem batchMarks_walk (ba ep pid : Nat) (pe : Int) (com : Bool) (w : World) (hba : ba < 65536) (hep : ep < 65536) (hpid : pid < 18446744073709551616) (h1 : -9223372036854775808 ≤ pe) (h2 : pe < 9223372036854775808) :
    Calls Try.prog 8 #[.int .u16 ba, .int .u16 ep, .int .u64 pid, .int .i64 pe, .bool com] w fun e w' => e = .returned (.bool true) ∧ Below w.heap.size w w' := by
  have hW1 : Below w.heap.size w (w.alloc (.cells #[.int .i64 (ba : Int), .int .i64 (ep : Int), .int .u64 (pid : Int), .int .i64 pe, .int .i64 0, .bool true, .bool true, .bool com, .slice none 0 0] 25)) := (Below.refl _ _).alloc (Nat.le_refl _) _
  have KA := hide (awake7_any (w.alloc (.cells #[.int .i64 (ba : Int), .int .i64 (ep : Int), .int .u64 (pid : Int), .int .i64 pe, .int .i64 0, .bool true, .bool true, .bool com, .slice none 0 0] 25)))
  have BX1 : Hid (Box (w.alloc (.cells #[.int .i64 (ba : Int), .int .i64 (ep : Int), .int .u64 (pid : Int), .int .i64 pe, .int .i64 0, .bool true, .bool true, .bool com, .slice none 0 0] 25)) w.heap.size ⟨(ba : Int), (ep : Int), pid, pe, 0, true, true, com, []⟩ none 0) := Box.new w ⟨(ba : Int), (ep : Int), pid, pe, 0, true, true, com, []⟩ none 0
  have B1 := hide hW1
  clear hW1
  by_cases hg : (0 ≤ pe ∧ pe ≤ 1000) ∧ pid ≤ 1000
  · have g1 : 0 ≤ pe := hg.1.1
    have g2 : pe ≤ 1000 := hg.1.2
    have g3 : (pid : Int) ≤ 1000 := by omega
    go_enter Try.func8, Try.ntmps8
    go_wp2_with fail
    refine (unhide KA).mono ?_
    rintro e w2 ⟨rfl, b2⟩
    have BX2 := hide ((unhide BX1).later b2)
    have B2 := hide ((unhide B1).trans (b2.mono (unhide B1).size))
    obtain ⟨k0, k1, k2, k3, k4, k5, k6, k7, k8⟩ := (unhide BX2).cells
    simp only [List.length_nil] at k0 k1 k2 k3 k4 k5 k6 k7 k8
    clear b2 KA BX1 B1
    go_wp2_with fail
    refine (size7_any ⟨(ba : Int), (ep : Int), pid, pe, 0, true, true, com, []⟩ none 0 _).mono ?_
    rintro e w3 ⟨rfl, b3⟩
    have BX3 := hide ((unhide BX2).later b3)
    have B3 := hide ((unhide B2).trans (b3.mono (unhide B2).size))
    clear b3 BX2 B2 k0 k1 k2 k3 k4 k5 k6 k7 k8
    obtain ⟨k0, k1, k2, k3, k4, k5, k6, k7, k8⟩ := (unhide BX3).cells
    simp only [List.length_nil] at k0 k1 k2 k3 k4 k5 k6 k7 k8
    have hlt : w.heap.size < w3.heap.size := lt_of_heap (unhide BX3)
    have K9 := hide (And.intro k0 (And.intro k1 (And.intro k2 (And.intro k3 (And.intro k4 (And.intro k5 (And.intro k6 (And.intro k7 k8))))))))
    simp only [if_true]
    go_wp2_with fail
    go_region_held3 (fun w' => w'.cell? ⟨w.heap.size, 0, none⟩ = some (.int .i64 (ba : Int)) ∧ w'.cell? ⟨w.heap.size, 1, none⟩ = some (.int .i64 (ep : Int)) ∧ w'.cell? ⟨w.heap.size, 2, none⟩ = some (.int .u64 (pid : Int)) ∧ w'.cell? ⟨w.heap.size, 3, none⟩ = some (.int .i64 pe) ∧ w'.cell? ⟨w.heap.size, 4, none⟩ = some (.int .i64 0) ∧ w'.cell? ⟨w.heap.size, 5, none⟩ = some (.bool true) ∧ w'.cell? ⟨w.heap.size, 6, none⟩ = some (.bool true) ∧ w'.cell? ⟨w.heap.size, 7, none⟩ = some (.bool com) ∧ w'.cell? ⟨w.heap.size, 8, none⟩ = some (.slice none 0 0)) (first | exact unhide K9 | exact keep9 hlt (unhide K9) (by go_grown)) (fail)
    all_goals
      have hWB : Below w3.heap.size w3 ((((w3.alloc (.cells #[.int .i64 (ba : Int), .int .i64 (ep : Int), .int .u64 (pid : Int), .int .i64 pe, .int .i64 0, .bool true, .bool true, .bool com, .slice none 0 0] 25)).alloc (.cells #[.int .i64 (ba : Int), .int .i64 (ep : Int), .int .u64 (pid : Int), .int .i64 pe, .int .i64 0, .bool true, .bool true, .bool com, .slice none 0 0] 25)).alloc (.cells #[.int .i64 (ba : Int), .int .i64 (ep : Int), .int .u64 (pid : Int), .int .i64 pe, .int .i64 0, .bool true, .bool true, .bool com, .slice none 0 0] 25)).drew) := ((((Below.refl _ _).alloc (Nat.le_refl _) _).alloc (by simp) _).alloc (by simp only [World.size_alloc]; omega) _).drew
      have Q0 : Hid (Blk ((((w3.alloc (.cells #[.int .i64 (ba : Int), .int .i64 (ep : Int), .int .u64 (pid : Int), .int .i64 pe, .int .i64 0, .bool true, .bool true, .bool com, .slice none 0 0] 25)).alloc (.cells #[.int .i64 (ba : Int), .int .i64 (ep : Int), .int .u64 (pid : Int), .int .i64 pe, .int .i64 0, .bool true, .bool true, .bool com, .slice none 0 0] 25)).alloc (.cells #[.int .i64 (ba : Int), .int .i64 (ep : Int), .int .u64 (pid : Int), .int .i64 pe, .int .i64 0, .bool true, .bool true, .bool com, .slice none 0 0] 25)).drew) w3.heap.size #[.int .i64 (ba : Int), .int .i64 (ep : Int), .int .u64 (pid : Int), .int .i64 pe, .int .i64 0, .bool true, .bool true, .bool com, .slice none 0 0]) := heap_old _ (heap_old _ (heap_new w3 _))
      have Q1 : Hid (Blk ((((w3.alloc (.cells #[.int .i64 (ba : Int), .int .i64 (ep : Int), .int .u64 (pid : Int), .int .i64 pe, .int .i64 0, .bool true, .bool true, .bool com, .slice none 0 0] 25)).alloc (.cells #[.int .i64 (ba : Int), .int .i64 (ep : Int), .int .u64 (pid : Int), .int .i64 pe, .int .i64 0, .bool true, .bool true, .bool com, .slice none 0 0] 25)).alloc (.cells #[.int .i64 (ba : Int), .int .i64 (ep : Int), .int .u64 (pid : Int), .int .i64 pe, .int .i64 0, .bool true, .bool true, .bool com, .slice none 0 0] 25)).drew) (w3.heap.size + 1) #[.int .i64 (ba : Int), .int .i64 (ep : Int), .int .u64 (pid : Int), .int .i64 pe, .int .i64 0, .bool true, .bool true, .bool com, .slice none 0 0]) := by
        have := heap_new (w3.alloc (.cells #[.int .i64 (ba : Int), .int .i64 (ep : Int), .int .u64 (pid : Int), .int .i64 pe, .int .i64 0, .bool true, .bool true, .bool com, .slice none 0 0] 25)) (.cells #[.int .i64 (ba : Int), .int .i64 (ep : Int), .int .u64 (pid : Int), .int .i64 pe, .int .i64 0, .bool true, .bool true, .bool com, .slice none 0 0] 25)
        simp only [World.size_alloc] at this
        exact heap_old _ this
      have Q2 : Hid (Blk ((((w3.alloc (.cells #[.int .i64 (ba : Int), .int .i64 (ep : Int), .int .u64 (pid : Int), .int .i64 pe, .int .i64 0, .bool true, .bool true, .bool com, .slice none 0 0] 25)).alloc (.cells #[.int .i64 (ba : Int), .int .i64 (ep : Int), .int .u64 (pid : Int), .int .i64 pe, .int .i64 0, .bool true, .bool true, .bool com, .slice none 0 0] 25)).alloc (.cells #[.int .i64 (ba : Int), .int .i64 (ep : Int), .int .u64 (pid : Int), .int .i64 pe, .int .i64 0, .bool true, .bool true, .bool com, .slice none 0 0] 25)).drew) (w3.heap.size + 1 + 1) #[.int .i64 (ba : Int), .int .i64 (ep : Int), .int .u64 (pid : Int), .int .i64 pe, .int .i64 0, .bool true, .bool true, .bool com, .slice none 0 0]) := by
        have := heap_new ((w3.alloc (.cells #[.int .i64 (ba : Int), .int .i64 (ep : Int), .int .u64 (pid : Int), .int .i64 pe, .int .i64 0, .bool true, .bool true, .bool com, .slice none 0 0] 25)).alloc (.cells #[.int .i64 (ba : Int), .int .i64 (ep : Int), .int .u64 (pid : Int), .int .i64 pe, .int .i64 0, .bool true, .bool true, .bool com, .slice none 0 0] 25)) (.cells #[.int .i64 (ba : Int), .int .i64 (ep : Int), .int .u64 (pid : Int), .int .i64 pe, .int .i64 0, .bool true, .bool true, .bool com, .slice none 0 0] 25)
        simp only [World.size_alloc] at this
        exact this
      have BX9 := hide ((unhide BX3).later hWB)
      have B9 := hide ((unhide B3).trans (hWB.mono (unhide B3).size))
      clear hWB k0 k1 k2 k3 k4 k5 k6 k7 k8 K9 BX3 B3
      generalize (((w3.alloc (.cells #[.int .i64 (ba : Int), .int .i64 (ep : Int), .int .u64 (pid : Int), .int .i64 pe, .int .i64 0, .bool true, .bool true, .bool com, .slice none 0 0] 25)).alloc (.cells #[.int .i64 (ba : Int), .int .i64 (ep : Int), .int .u64 (pid : Int), .int .i64 pe, .int .i64 0, .bool true, .bool true, .bool com, .slice none 0 0] 25)).alloc (.cells #[.int .i64 (ba : Int), .int .i64 (ep : Int), .int .u64 (pid : Int), .int .i64 pe, .int .i64 0, .bool true, .bool true, .bool com, .slice none 0 0] 25)).drew = W at *
      generalize hq0 : w3.heap.size = q0 at *
      generalize hq2 : q0 + 1 + 1 = q2 at *
      generalize hq1 : q0 + 1 = q1 at *
      have hA : q0 < q1 ∧ q1 < q2 ∧ w.heap.size < q0 := by omega
      have HA := hide hA
      clear hA hq0 hq1 hq2 hlt
    · have hd := unhide HA
      have a1 : ¬ q0 = q1 := by omega
      have a2 : ¬ q0 = q2 := by omega
      have a3 : ¬ q1 = q2 := by omega
      have a4 : ¬ q1 = q0 := by omega
      have a5 : ¬ q2 = q0 := by omega
      have a6 : ¬ q2 = q1 := by omega
      have a7 : ¬ q0 = w.heap.size := by omega
      have a8 : ¬ q1 = w.heap.size := by omega
      have a9 : ¬ q2 = w.heap.size := by omega
      have c1 : q0 < W.heap.size := (unhide Q0).lt
      have c2 : q1 < W.heap.size := (unhide Q1).lt
      have c3 : q2 < W.heap.size := (unhide Q2).lt
      have y1 : W.cell? ⟨q0, 5, none⟩ = some (.bool true) := (unhide Q0).cell 5
      have y2 : W.cell? ⟨q1, 8, none⟩ = some (.slice none 0 0) := (unhide Q1).cell 8
      have y3 : W.cell? ⟨q2, 4, none⟩ = some (.int .i64 0) := (unhide Q2).cell 4
      have z1 : W.frozen? ⟨q0, 5, none⟩ = false := (unhide Q0).fz 5
      have z2 : W.frozen? ⟨q1, 8, none⟩ = false := (unhide Q1).fz 8
      have z3 : W.frozen? ⟨q2, 4, none⟩ = false := (unhide Q2).fz 4
      obtain ⟨k0, k1, k2, k3, k4, k5, k6, k7, k8⟩ := (unhide BX9).cells
      have c4 : w.heap.size < W.heap.size := lt_of_heap (unhide BX9)
      simp only [List.length_nil] at k0 k1 k2 k3 k4 k5 k6 k7 k8
      have PP := hide (marks_after (w.heap.size) q0 q1 q2 W (unhide BX9) (unhide Q0) (unhide Q1) (unhide Q2) a1 a2 a3 a7 a8 a9)
      have hb10 : Below w.heap.size W ((((W.setCell ⟨q0, 5, none⟩ (.bool false)).setCell ⟨q1, 8, none⟩ (.slice (some ⟨W.heap.size, 0, none⟩) 1 1)).setCell ⟨q2, 4, none⟩ (.int .i64 1)).alloc (.cells #[.slice none 0 0] 26)) := (below_touch (below_touch (below_touch (Below.refl _ _) (touch_set W q0 5 (.bool false)) (by omega) (fun k hk => by omega)) (touch_set _ q1 8 (.slice (some ⟨W.heap.size, 0, none⟩) 1 1)) (by simp; omega) (fun k hk => by omega)) (touch_set _ q2 4 (.int .i64 1)) (by simp; omega) (fun k hk => by omega)).alloc (by simp; omega) _
      have B10 := hide ((unhide B9).trans hb10)
      clear hd hb10 BX9 B9 Q0 Q1 Q2
      go_wp2_with fail
      clear y1 y2 y3 z1 z2 z3 k0 k1 k2 k3 k4 k5 k6 k7 k8 c1 c2 c3 c4
      generalize hsz : W.heap.size = gs at *
      clear hsz
      generalize ((((W.setCell ⟨q0, 5, none⟩ (.bool false)).setCell ⟨q1, 8, none⟩ (.slice (some ⟨gs, 0, none⟩) 1 1)).setCell ⟨q2, 4, none⟩ (.int .i64 1)).alloc (.cells #[.slice none 0 0] 26)) = V at *
      obtain ⟨pm, pn, pv, px, pr⟩ := unhide PP
      have PN := hide pn
      have PV := hide pv
      have PX := hide px
      have PR := hide pr
      have NO : ∀ (sq : Int) (tx : Bool) (l : List (List Nat)), 0 ≤ sq → ¬ outB ⟨(ba : Int), (ep : Int), pid, pe, sq, tx, true, com, l⟩ := fun sq tx l hs => by simp only [outB]; omega
      have CN : chk ⟨(ba : Int), (ep : Int), pid, pe, 0, false, true, com, []⟩ = 7 := chk_form (NO 0 false [] (by omega)) (.inr (.inl ⟨rfl, .inr (.inl rfl)⟩))
      have CV : chk ⟨(ba : Int), (ep : Int), pid, pe, 0, true, true, com, [[]]⟩ = 7 := chk_form (NO 0 true [[]] (by omega)) (.inr (.inl ⟨rfl, .inl (by simp)⟩))
      have CX : chk ⟨(ba : Int), (ep : Int), pid, pe, 1, true, true, com, []⟩ = 7 := chk_form (NO 1 true [] (by omega)) (.inr (.inl ⟨rfl, .inr (.inr (.inr (by simp)))⟩))
      have HN := hide CN
      have HV := hide CV
      have HX := hide CX
      have HNO := hide NO
      clear CN CV CX NO PP pn pv px pr pm
      refine (check_any ⟨(ba : Int), (ep : Int), pid, pe, 0, true, true, com, []⟩ none 0 V (ra_nil _)).mono ?_
      rintro e v1 ⟨rfl, b1⟩
      have B11 := hide ((unhide B10).trans (b1.mono (unhide B10).size))
      have pn := (unhide PN).later b1
      have PV1 := hide ((unhide PV).later b1)
      have PX1 := hide ((unhide PX).later b1)
      have PR1 := hide ((unhide PR).later b1)
      obtain ⟨k0, k1, k2, k3, k4, k5, k6, k7, k8⟩ := pn.cells
      simp only [List.length_nil] at k0 k1 k2 k3 k4 k5 k6 k7 k8
      clear b1 pn PN PV PX PR B10
      by_cases hp0 : pid = 0
      · have CM : chk ⟨(ba : Int), (ep : Int), pid, pe, 0, true, true, com, []⟩ = 7 := chk_form (unhide HNO 0 true [] (by omega)) (.inr (.inl ⟨rfl, .inr (.inr (.inl hp0))⟩))
        rw [CM]
        clear CM
        subst hp0
        simp only [Int.natCast_zero] at k2
        go_wp2_with fail
        refine (check_any ⟨(ba : Int), (ep : Int), 0, pe, 0, false, true, com, []⟩ none 0 v1 (ra_nil _)).mono ?_
        rintro e v2 ⟨rfl, b2⟩
        rw [unhide HN]
        have B12 := hide ((unhide B11).trans (b2.mono (unhide B11).size))
        have pv := (unhide PV1).later b2
        have PX2 := hide ((unhide PX1).later b2)
        have PR2 := hide ((unhide PR1).later b2)
        clear k0 k1 k2 k3 k4 k5 k6 k7 k8
        obtain ⟨k0, k1, k2, k3, k4, k5, k6, k7, k8⟩ := pv.cells
        simp only [List.length_singleton, Int.natCast_zero] at k0 k1 k2 k3 k4 k5 k6 k7 k8
        clear b2 pv
        go_wp2_with fail
        refine (check_any ⟨(ba : Int), (ep : Int), 0, pe, 0, true, true, com, [[]]⟩ (some ⟨gs, 0, none⟩) 1 v2 (unhide PR2)).mono ?_
        rintro e v3 ⟨rfl, b3⟩
        rw [unhide HV]
        have B13 := hide ((unhide B12).trans (b3.mono (unhide B12).size))
        have px := (unhide PX2).later b3
        clear k0 k1 k2 k3 k4 k5 k6 k7 k8
        obtain ⟨k0, k1, k2, k3, k4, k5, k6, k7, k8⟩ := px.cells
        simp only [List.length_nil, Int.natCast_zero] at k0 k1 k2 k3 k4 k5 k6 k7 k8
        clear b3 px
        go_wp2_with fail
        refine (check_any ⟨(ba : Int), (ep : Int), 0, pe, 1, true, true, com, []⟩ none 0 v3 (ra_nil _)).mono ?_
        rintro e v4 ⟨rfl, b4⟩
        rw [unhide HX]
        have B14 := hide ((unhide B13).trans (b4.mono (unhide B13).size))
        clear b4 k0 k1 k2 k3 k4 k5 k6 k7 k8
        go_wp2
        go_returns
        exact ⟨by simp, unhide B14⟩
      · have CM : chk ⟨(ba : Int), (ep : Int), pid, pe, 0, true, true, com, []⟩ = 0 := chk_ok (unhide HNO 0 true [] (by omega)) (by rintro (⟨h, _⟩ | ⟨_, h | h | h | h⟩ | ⟨h, _⟩) <;> simp at h <;> omega) (by rintro (h | ⟨v, hv, _⟩) <;> simp at *)
        rw [CM]
        have hp1 : (0 : Int) < (pid : Int) := by omega
        clear CM
        go_wp2_with fail
        refine (check_any ⟨(ba : Int), (ep : Int), pid, pe, 0, false, true, com, []⟩ none 0 v1 (ra_nil _)).mono ?_
        rintro e v2 ⟨rfl, b2⟩
        rw [unhide HN]
        have B12 := hide ((unhide B11).trans (b2.mono (unhide B11).size))
        have pv := (unhide PV1).later b2
        have PX2 := hide ((unhide PX1).later b2)
        have PR2 := hide ((unhide PR1).later b2)
        clear k0 k1 k2 k3 k4 k5 k6 k7 k8
        obtain ⟨k0, k1, k2, k3, k4, k5, k6, k7, k8⟩ := pv.cells
        simp only [List.length_singleton] at k0 k1 k2 k3 k4 k5 k6 k7 k8
        clear b2 pv
        go_wp2_with fail
        refine (check_any ⟨(ba : Int), (ep : Int), pid, pe, 0, true, true, com, [[]]⟩ (some ⟨gs, 0, none⟩) 1 v2 (unhide PR2)).mono ?_
        rintro e v3 ⟨rfl, b3⟩
        rw [unhide HV]
        have B13 := hide ((unhide B12).trans (b3.mono (unhide B12).size))
        have px := (unhide PX2).later b3
        clear k0 k1 k2 k3 k4 k5 k6 k7 k8
        obtain ⟨k0, k1, k2, k3, k4, k5, k6, k7, k8⟩ := px.cells
        simp only [List.length_nil] at k0 k1 k2 k3 k4 k5 k6 k7 k8
        clear b3 px
        go_wp2_with fail
        refine (check_any ⟨(ba : Int), (ep : Int), pid, pe, 1, true, true, com, []⟩ none 0 v3 (ra_nil _)).mono ?_
        rintro e v4 ⟨rfl, b4⟩
        rw [unhide HX]
        have B14 := hide ((unhide B13).trans (b4.mono (unhide B13).size))
        clear b4 k0 k1 k2 k3 k4 k5 k6 k7 k8
        go_wp2
        go_returns
        exact ⟨by simp, unhide B14⟩
    · have hd := unhide HA
      have a1 : ¬ q0 = q2 := by omega
      have a2 : ¬ q0 = q1 := by omega
      have a3 : ¬ q2 = q1 := by omega
      have a4 : ¬ q2 = q0 := by omega
      have a5 : ¬ q1 = q0 := by omega
      have a6 : ¬ q1 = q2 := by omega
      have a7 : ¬ q0 = w.heap.size := by omega
      have a8 : ¬ q2 = w.heap.size := by omega
      have a9 : ¬ q1 = w.heap.size := by omega
      have c1 : q0 < W.heap.size := (unhide Q0).lt
      have c2 : q2 < W.heap.size := (unhide Q2).lt
      have c3 : q1 < W.heap.size := (unhide Q1).lt
      have y1 : W.cell? ⟨q0, 5, none⟩ = some (.bool true) := (unhide Q0).cell 5
      have y2 : W.cell? ⟨q2, 8, none⟩ = some (.slice none 0 0) := (unhide Q2).cell 8
      have y3 : W.cell? ⟨q1, 4, none⟩ = some (.int .i64 0) := (unhide Q1).cell 4
      have z1 : W.frozen? ⟨q0, 5, none⟩ = false := (unhide Q0).fz 5
      have z2 : W.frozen? ⟨q2, 8, none⟩ = false := (unhide Q2).fz 8
      have z3 : W.frozen? ⟨q1, 4, none⟩ = false := (unhide Q1).fz 4
      obtain ⟨k0, k1, k2, k3, k4, k5, k6, k7, k8⟩ := (unhide BX9).cells
      have c4 : w.heap.size < W.heap.size := lt_of_heap (unhide BX9)
      simp only [List.length_nil] at k0 k1 k2 k3 k4 k5 k6 k7 k8
      have PP := hide (marks_after (w.heap.size) q0 q2 q1 W (unhide BX9) (unhide Q0) (unhide Q2) (unhide Q1) a1 a2 a3 a7 a8 a9)
      have hb10 : Below w.heap.size W ((((W.setCell ⟨q0, 5, none⟩ (.bool false)).setCell ⟨q2, 8, none⟩ (.slice (some ⟨W.heap.size, 0, none⟩) 1 1)).setCell ⟨q1, 4, none⟩ (.int .i64 1)).alloc (.cells #[.slice none 0 0] 26)) := (below_touch (below_touch (below_touch (Below.refl _ _) (touch_set W q0 5 (.bool false)) (by omega) (fun k hk => by omega)) (touch_set _ q2 8 (.slice (some ⟨W.heap.size, 0, none⟩) 1 1)) (by simp; omega) (fun k hk => by omega)) (touch_set _ q1 4 (.int .i64 1)) (by simp; omega) (fun k hk => by omega)).alloc (by simp; omega) _
      have B10 := hide ((unhide B9).trans hb10)
      clear hd hb10 BX9 B9 Q0 Q1 Q2
      go_wp2_with fail
      clear y1 y2 y3 z1 z2 z3 k0 k1 k2 k3 k4 k5 k6 k7 k8 c1 c2 c3 c4
      generalize hsz : W.heap.size = gs at *
      clear hsz
      generalize ((((W.setCell ⟨q0, 5, none⟩ (.bool false)).setCell ⟨q2, 8, none⟩ (.slice (some ⟨gs, 0, none⟩) 1 1)).setCell ⟨q1, 4, none⟩ (.int .i64 1)).alloc (.cells #[.slice none 0 0] 26)) = V at *
      obtain ⟨pm, pn, pv, px, pr⟩ := unhide PP
      have PN := hide pn
      have PV := hide pv
      have PX := hide px
      have PR := hide pr
      have NO : ∀ (sq : Int) (tx : Bool) (l : List (List Nat)), 0 ≤ sq → ¬ outB ⟨(ba : Int), (ep : Int), pid, pe, sq, tx, true, com, l⟩ := fun sq tx l hs => by simp only [outB]; omega
      have CN : chk ⟨(ba : Int), (ep : Int), pid, pe, 0, false, true, com, []⟩ = 7 := chk_form (NO 0 false [] (by omega)) (.inr (.inl ⟨rfl, .inr (.inl rfl)⟩))
      have CV : chk ⟨(ba : Int), (ep : Int), pid, pe, 0, true, true, com, [[]]⟩ = 7 := chk_form (NO 0 true [[]] (by omega)) (.inr (.inl ⟨rfl, .inl (by simp)⟩))
      have CX : chk ⟨(ba : Int), (ep : Int), pid, pe, 1, true, true, com, []⟩ = 7 := chk_form (NO 1 true [] (by omega)) (.inr (.inl ⟨rfl, .inr (.inr (.inr (by simp)))⟩))
      have HN := hide CN
      have HV := hide CV
      have HX := hide CX
      have HNO := hide NO
      clear CN CV CX NO PP pn pv px pr pm
      refine (check_any ⟨(ba : Int), (ep : Int), pid, pe, 0, true, true, com, []⟩ none 0 V (ra_nil _)).mono ?_
      rintro e v1 ⟨rfl, b1⟩
      have B11 := hide ((unhide B10).trans (b1.mono (unhide B10).size))
      have pn := (unhide PN).later b1
      have PV1 := hide ((unhide PV).later b1)
      have PX1 := hide ((unhide PX).later b1)
      have PR1 := hide ((unhide PR).later b1)
      obtain ⟨k0, k1, k2, k3, k4, k5, k6, k7, k8⟩ := pn.cells
      simp only [List.length_nil] at k0 k1 k2 k3 k4 k5 k6 k7 k8
      clear b1 pn PN PV PX PR B10
      by_cases hp0 : pid = 0
      · have CM : chk ⟨(ba : Int), (ep : Int), pid, pe, 0, true, true, com, []⟩ = 7 := chk_form (unhide HNO 0 true [] (by omega)) (.inr (.inl ⟨rfl, .inr (.inr (.inl hp0))⟩))
        rw [CM]
        clear CM
        subst hp0
        simp only [Int.natCast_zero] at k2
        go_wp2_with fail
        refine (check_any ⟨(ba : Int), (ep : Int), 0, pe, 0, false, true, com, []⟩ none 0 v1 (ra_nil _)).mono ?_
        rintro e v2 ⟨rfl, b2⟩
        rw [unhide HN]
        have B12 := hide ((unhide B11).trans (b2.mono (unhide B11).size))
        have pv := (unhide PV1).later b2
        have PX2 := hide ((unhide PX1).later b2)
        have PR2 := hide ((unhide PR1).later b2)
        clear k0 k1 k2 k3 k4 k5 k6 k7 k8
        obtain ⟨k0, k1, k2, k3, k4, k5, k6, k7, k8⟩ := pv.cells
        simp only [List.length_singleton, Int.natCast_zero] at k0 k1 k2 k3 k4 k5 k6 k7 k8
        clear b2 pv
        go_wp2_with fail
        refine (check_any ⟨(ba : Int), (ep : Int), 0, pe, 0, true, true, com, [[]]⟩ (some ⟨gs, 0, none⟩) 1 v2 (unhide PR2)).mono ?_
        rintro e v3 ⟨rfl, b3⟩
        rw [unhide HV]
        have B13 := hide ((unhide B12).trans (b3.mono (unhide B12).size))
        have px := (unhide PX2).later b3
        clear k0 k1 k2 k3 k4 k5 k6 k7 k8
        obtain ⟨k0, k1, k2, k3, k4, k5, k6, k7, k8⟩ := px.cells
        simp only [List.length_nil, Int.natCast_zero] at k0 k1 k2 k3 k4 k5 k6 k7 k8
        clear b3 px
        go_wp2_with fail
        refine (check_any ⟨(ba : Int), (ep : Int), 0, pe, 1, true, true, com, []⟩ none 0 v3 (ra_nil _)).mono ?_
        rintro e v4 ⟨rfl, b4⟩
        rw [unhide HX]
        have B14 := hide ((unhide B13).trans (b4.mono (unhide B13).size))
        clear b4 k0 k1 k2 k3 k4 k5 k6 k7 k8
        go_wp2
        go_returns
        exact ⟨by simp, unhide B14⟩
      · have CM : chk ⟨(ba : Int), (ep : Int), pid, pe, 0, true, true, com, []⟩ = 0 := chk_ok (unhide HNO 0 true [] (by omega)) (by rintro (⟨h, _⟩ | ⟨_, h | h | h | h⟩ | ⟨h, _⟩) <;> simp at h <;> omega) (by rintro (h | ⟨v, hv, _⟩) <;> simp at *)
        rw [CM]
        have hp1 : (0 : Int) < (pid : Int) := by omega
        clear CM
        go_wp2_with fail
        refine (check_any ⟨(ba : Int), (ep : Int), pid, pe, 0, false, true, com, []⟩ none 0 v1 (ra_nil _)).mono ?_
        rintro e v2 ⟨rfl, b2⟩
        rw [unhide HN]
        have B12 := hide ((unhide B11).trans (b2.mono (unhide B11).size))
        have pv := (unhide PV1).later b2
        have PX2 := hide ((unhide PX1).later b2)
        have PR2 := hide ((unhide PR1).later b2)
        clear k0 k1 k2 k3 k4 k5 k6 k7 k8
        obtain ⟨k0, k1, k2, k3, k4, k5, k6, k7, k8⟩ := pv.cells
        simp only [List.length_singleton] at k0 k1 k2 k3 k4 k5 k6 k7 k8
        clear b2 pv
        go_wp2_with fail
        refine (check_any ⟨(ba : Int), (ep : Int), pid, pe, 0, true, true, com, [[]]⟩ (some ⟨gs, 0, none⟩) 1 v2 (unhide PR2)).mono ?_
        rintro e v3 ⟨rfl, b3⟩
        rw [unhide HV]
        have B13 := hide ((unhide B12).trans (b3.mono (unhide B12).size))
        have px := (unhide PX2).later b3
        clear k0 k1 k2 k3 k4 k5 k6 k7 k8
        obtain ⟨k0, k1, k2, k3, k4, k5, k6, k7, k8⟩ := px.cells
        simp only [List.length_nil] at k0 k1 k2 k3 k4 k5 k6 k7 k8
        clear b3 px
        go_wp2_with fail
        refine (check_any ⟨(ba : Int), (ep : Int), pid, pe, 1, true, true, com, []⟩ none 0 v3 (ra_nil _)).mono ?_
        rintro e v4 ⟨rfl, b4⟩
        rw [unhide HX]
        have B14 := hide ((unhide B13).trans (b4.mono (unhide B13).size))
        clear b4 k0 k1 k2 k3 k4 k5 k6 k7 k8
        go_wp2
        go_returns
        exact ⟨by simp, unhide B14⟩
    · have hd := unhide HA
      have a1 : ¬ q1 = q0 := by omega
      have a2 : ¬ q1 = q2 := by omega
      have a3 : ¬ q0 = q2 := by omega
      have a4 : ¬ q0 = q1 := by omega
      have a5 : ¬ q2 = q1 := by omega
      have a6 : ¬ q2 = q0 := by omega
      have a7 : ¬ q1 = w.heap.size := by omega
      have a8 : ¬ q0 = w.heap.size := by omega
      have a9 : ¬ q2 = w.heap.size := by omega
      have c1 : q1 < W.heap.size := (unhide Q1).lt
      have c2 : q0 < W.heap.size := (unhide Q0).lt
      have c3 : q2 < W.heap.size := (unhide Q2).lt
      have y1 : W.cell? ⟨q1, 5, none⟩ = some (.bool true) := (unhide Q1).cell 5
      have y2 : W.cell? ⟨q0, 8, none⟩ = some (.slice none 0 0) := (unhide Q0).cell 8
      have y3 : W.cell? ⟨q2, 4, none⟩ = some (.int .i64 0) := (unhide Q2).cell 4
      have z1 : W.frozen? ⟨q1, 5, none⟩ = false := (unhide Q1).fz 5
      have z2 : W.frozen? ⟨q0, 8, none⟩ = false := (unhide Q0).fz 8
      have z3 : W.frozen? ⟨q2, 4, none⟩ = false := (unhide Q2).fz 4
      obtain ⟨k0, k1, k2, k3, k4, k5, k6, k7, k8⟩ := (unhide BX9).cells
      have c4 : w.heap.size < W.heap.size := lt_of_heap (unhide BX9)
      simp only [List.length_nil] at k0 k1 k2 k3 k4 k5 k6 k7 k8
      have PP := hide (marks_after (w.heap.size) q1 q0 q2 W (unhide BX9) (unhide Q1) (unhide Q0) (unhide Q2) a1 a2 a3 a7 a8 a9)
      have hb10 : Below w.heap.size W ((((W.setCell ⟨q1, 5, none⟩ (.bool false)).setCell ⟨q0, 8, none⟩ (.slice (some ⟨W.heap.size, 0, none⟩) 1 1)).setCell ⟨q2, 4, none⟩ (.int .i64 1)).alloc (.cells #[.slice none 0 0] 26)) := (below_touch (below_touch (below_touch (Below.refl _ _) (touch_set W q1 5 (.bool false)) (by omega) (fun k hk => by omega)) (touch_set _ q0 8 (.slice (some ⟨W.heap.size, 0, none⟩) 1 1)) (by simp; omega) (fun k hk => by omega)) (touch_set _ q2 4 (.int .i64 1)) (by simp; omega) (fun k hk => by omega)).alloc (by simp; omega) _
      have B10 := hide ((unhide B9).trans hb10)
      clear hd hb10 BX9 B9 Q0 Q1 Q2
      go_wp2_with fail
      clear y1 y2 y3 z1 z2 z3 k0 k1 k2 k3 k4 k5 k6 k7 k8 c1 c2 c3 c4
      generalize hsz : W.heap.size = gs at *
      clear hsz
      generalize ((((W.setCell ⟨q1, 5, none⟩ (.bool false)).setCell ⟨q0, 8, none⟩ (.slice (some ⟨gs, 0, none⟩) 1 1)).setCell ⟨q2, 4, none⟩ (.int .i64 1)).alloc (.cells #[.slice none 0 0] 26)) = V at *
      obtain ⟨pm, pn, pv, px, pr⟩ := unhide PP
      have PN := hide pn
      have PV := hide pv
      have PX := hide px
      have PR := hide pr
      have NO : ∀ (sq : Int) (tx : Bool) (l : List (List Nat)), 0 ≤ sq → ¬ outB ⟨(ba : Int), (ep : Int), pid, pe, sq, tx, true, com, l⟩ := fun sq tx l hs => by simp only [outB]; omega
      have CN : chk ⟨(ba : Int), (ep : Int), pid, pe, 0, false, true, com, []⟩ = 7 := chk_form (NO 0 false [] (by omega)) (.inr (.inl ⟨rfl, .inr (.inl rfl)⟩))
      have CV : chk ⟨(ba : Int), (ep : Int), pid, pe, 0, true, true, com, [[]]⟩ = 7 := chk_form (NO 0 true [[]] (by omega)) (.inr (.inl ⟨rfl, .inl (by simp)⟩))
      have CX : chk ⟨(ba : Int), (ep : Int), pid, pe, 1, true, true, com, []⟩ = 7 := chk_form (NO 1 true [] (by omega)) (.inr (.inl ⟨rfl, .inr (.inr (.inr (by simp)))⟩))
      have HN := hide CN
      have HV := hide CV
      have HX := hide CX
      have HNO := hide NO
      clear CN CV CX NO PP pn pv px pr pm
      refine (check_any ⟨(ba : Int), (ep : Int), pid, pe, 0, true, true, com, []⟩ none 0 V (ra_nil _)).mono ?_
      rintro e v1 ⟨rfl, b1⟩
      have B11 := hide ((unhide B10).trans (b1.mono (unhide B10).size))
      have pn := (unhide PN).later b1
      have PV1 := hide ((unhide PV).later b1)
      have PX1 := hide ((unhide PX).later b1)
      have PR1 := hide ((unhide PR).later b1)
      obtain ⟨k0, k1, k2, k3, k4, k5, k6, k7, k8⟩ := pn.cells
      simp only [List.length_nil] at k0 k1 k2 k3 k4 k5 k6 k7 k8
      clear b1 pn PN PV PX PR B10
      by_cases hp0 : pid = 0
      · have CM : chk ⟨(ba : Int), (ep : Int), pid, pe, 0, true, true, com, []⟩ = 7 := chk_form (unhide HNO 0 true [] (by omega)) (.inr (.inl ⟨rfl, .inr (.inr (.inl hp0))⟩))
        rw [CM]
        clear CM
        subst hp0
        simp only [Int.natCast_zero] at k2
        go_wp2_with fail
        refine (check_any ⟨(ba : Int), (ep : Int), 0, pe, 0, false, true, com, []⟩ none 0 v1 (ra_nil _)).mono ?_
        rintro e v2 ⟨rfl, b2⟩
        rw [unhide HN]
        have B12 := hide ((unhide B11).trans (b2.mono (unhide B11).size))
        have pv := (unhide PV1).later b2
        have PX2 := hide ((unhide PX1).later b2)
        have PR2 := hide ((unhide PR1).later b2)
        clear k0 k1 k2 k3 k4 k5 k6 k7 k8
        obtain ⟨k0, k1, k2, k3, k4, k5, k6, k7, k8⟩ := pv.cells
        simp only [List.length_singleton, Int.natCast_zero] at k0 k1 k2 k3 k4 k5 k6 k7 k8
        clear b2 pv
        go_wp2_with fail
        refine (check_any ⟨(ba : Int), (ep : Int), 0, pe, 0, true, true, com, [[]]⟩ (some ⟨gs, 0, none⟩) 1 v2 (unhide PR2)).mono ?_
        rintro e v3 ⟨rfl, b3⟩
        rw [unhide HV]
        have B13 := hide ((unhide B12).trans (b3.mono (unhide B12).size))
        have px := (unhide PX2).later b3
        clear k0 k1 k2 k3 k4 k5 k6 k7 k8
        obtain ⟨k0, k1, k2, k3, k4, k5, k6, k7, k8⟩ := px.cells
        simp only [List.length_nil, Int.natCast_zero] at k0 k1 k2 k3 k4 k5 k6 k7 k8
        clear b3 px
        go_wp2_with fail
        refine (check_any ⟨(ba : Int), (ep : Int), 0, pe, 1, true, true, com, []⟩ none 0 v3 (ra_nil _)).mono ?_
        rintro e v4 ⟨rfl, b4⟩
        rw [unhide HX]
        have B14 := hide ((unhide B13).trans (b4.mono (unhide B13).size))
        clear b4 k0 k1 k2 k3 k4 k5 k6 k7 k8
        go_wp2
        go_returns
        exact ⟨by simp, unhide B14⟩
      · have CM : chk ⟨(ba : Int), (ep : Int), pid, pe, 0, true, true, com, []⟩ = 0 := chk_ok (unhide HNO 0 true [] (by omega)) (by rintro (⟨h, _⟩ | ⟨_, h | h | h | h⟩ | ⟨h, _⟩) <;> simp at h <;> omega) (by rintro (h | ⟨v, hv, _⟩) <;> simp at *)
        rw [CM]
        have hp1 : (0 : Int) < (pid : Int) := by omega
        clear CM
        go_wp2_with fail
        refine (check_any ⟨(ba : Int), (ep : Int), pid, pe, 0, false, true, com, []⟩ none 0 v1 (ra_nil _)).mono ?_
        rintro e v2 ⟨rfl, b2⟩
        rw [unhide HN]
        have B12 := hide ((unhide B11).trans (b2.mono (unhide B11).size))
        have pv := (unhide PV1).later b2
        have PX2 := hide ((unhide PX1).later b2)
        have PR2 := hide ((unhide PR1).later b2)
        clear k0 k1 k2 k3 k4 k5 k6 k7 k8
        obtain ⟨k0, k1, k2, k3, k4, k5, k6, k7, k8⟩ := pv.cells
        simp only [List.length_singleton] at k0 k1 k2 k3 k4 k5 k6 k7 k8
        clear b2 pv
        go_wp2_with fail
        refine (check_any ⟨(ba : Int), (ep : Int), pid, pe, 0, true, true, com, [[]]⟩ (some ⟨gs, 0, none⟩) 1 v2 (unhide PR2)).mono ?_
        rintro e v3 ⟨rfl, b3⟩
        rw [unhide HV]
        have B13 := hide ((unhide B12).trans (b3.mono (unhide B12).size))
        have px := (unhide PX2).later b3
        clear k0 k1 k2 k3 k4 k5 k6 k7 k8
        obtain ⟨k0, k1, k2, k3, k4, k5, k6, k7, k8⟩ := px.cells
        simp only [List.length_nil] at k0 k1 k2 k3 k4 k5 k6 k7 k8
        clear b3 px
        go_wp2_with fail
        refine (check_any ⟨(ba : Int), (ep : Int), pid, pe, 1, true, true, com, []⟩ none 0 v3 (ra_nil _)).mono ?_
        rintro e v4 ⟨rfl, b4⟩
        rw [unhide HX]
        have B14 := hide ((unhide B13).trans (b4.mono (unhide B13).size))
        clear b4 k0 k1 k2 k3 k4 k5 k6 k7 k8
        go_wp2
        go_returns
        exact ⟨by simp, unhide B14⟩
    · have hd := unhide HA
      have a1 : ¬ q2 = q0 := by omega
      have a2 : ¬ q2 = q1 := by omega
      have a3 : ¬ q0 = q1 := by omega
      have a4 : ¬ q0 = q2 := by omega
      have a5 : ¬ q1 = q2 := by omega
      have a6 : ¬ q1 = q0 := by omega
      have a7 : ¬ q2 = w.heap.size := by omega
      have a8 : ¬ q0 = w.heap.size := by omega
      have a9 : ¬ q1 = w.heap.size := by omega
      have c1 : q2 < W.heap.size := (unhide Q2).lt
      have c2 : q0 < W.heap.size := (unhide Q0).lt
      have c3 : q1 < W.heap.size := (unhide Q1).lt
      have y1 : W.cell? ⟨q2, 5, none⟩ = some (.bool true) := (unhide Q2).cell 5
      have y2 : W.cell? ⟨q0, 8, none⟩ = some (.slice none 0 0) := (unhide Q0).cell 8
      have y3 : W.cell? ⟨q1, 4, none⟩ = some (.int .i64 0) := (unhide Q1).cell 4
      have z1 : W.frozen? ⟨q2, 5, none⟩ = false := (unhide Q2).fz 5
      have z2 : W.frozen? ⟨q0, 8, none⟩ = false := (unhide Q0).fz 8
      have z3 : W.frozen? ⟨q1, 4, none⟩ = false := (unhide Q1).fz 4
      obtain ⟨k0, k1, k2, k3, k4, k5, k6, k7, k8⟩ := (unhide BX9).cells
      have c4 : w.heap.size < W.heap.size := lt_of_heap (unhide BX9)
      simp only [List.length_nil] at k0 k1 k2 k3 k4 k5 k6 k7 k8
      have PP := hide (marks_after (w.heap.size) q2 q0 q1 W (unhide BX9) (unhide Q2) (unhide Q0) (unhide Q1) a1 a2 a3 a7 a8 a9)
      have hb10 : Below w.heap.size W ((((W.setCell ⟨q2, 5, none⟩ (.bool false)).setCell ⟨q0, 8, none⟩ (.slice (some ⟨W.heap.size, 0, none⟩) 1 1)).setCell ⟨q1, 4, none⟩ (.int .i64 1)).alloc (.cells #[.slice none 0 0] 26)) := (below_touch (below_touch (below_touch (Below.refl _ _) (touch_set W q2 5 (.bool false)) (by omega) (fun k hk => by omega)) (touch_set _ q0 8 (.slice (some ⟨W.heap.size, 0, none⟩) 1 1)) (by simp; omega) (fun k hk => by omega)) (touch_set _ q1 4 (.int .i64 1)) (by simp; omega) (fun k hk => by omega)).alloc (by simp; omega) _
      have B10 := hide ((unhide B9).trans hb10)
      clear hd hb10 BX9 B9 Q0 Q1 Q2
      go_wp2_with fail
      clear y1 y2 y3 z1 z2 z3 k0 k1 k2 k3 k4 k5 k6 k7 k8 c1 c2 c3 c4
      generalize hsz : W.heap.size = gs at *
      clear hsz
      generalize ((((W.setCell ⟨q2, 5, none⟩ (.bool false)).setCell ⟨q0, 8, none⟩ (.slice (some ⟨gs, 0, none⟩) 1 1)).setCell ⟨q1, 4, none⟩ (.int .i64 1)).alloc (.cells #[.slice none 0 0] 26)) = V at *
      obtain ⟨pm, pn, pv, px, pr⟩ := unhide PP
      have PN := hide pn
      have PV := hide pv
      have PX := hide px
      have PR := hide pr
      have NO : ∀ (sq : Int) (tx : Bool) (l : List (List Nat)), 0 ≤ sq → ¬ outB ⟨(ba : Int), (ep : Int), pid, pe, sq, tx, true, com, l⟩ := fun sq tx l hs => by simp only [outB]; omega
      have CN : chk ⟨(ba : Int), (ep : Int), pid, pe, 0, false, true, com, []⟩ = 7 := chk_form (NO 0 false [] (by omega)) (.inr (.inl ⟨rfl, .inr (.inl rfl)⟩))
      have CV : chk ⟨(ba : Int), (ep : Int), pid, pe, 0, true, true, com, [[]]⟩ = 7 := chk_form (NO 0 true [[]] (by omega)) (.inr (.inl ⟨rfl, .inl (by simp)⟩))
      have CX : chk ⟨(ba : Int), (ep : Int), pid, pe, 1, true, true, com, []⟩ = 7 := chk_form (NO 1 true [] (by omega)) (.inr (.inl ⟨rfl, .inr (.inr (.inr (by simp)))⟩))
      have HN := hide CN
      have HV := hide CV
      have HX := hide CX
      have HNO := hide NO
      clear CN CV CX NO PP pn pv px pr pm
      refine (check_any ⟨(ba : Int), (ep : Int), pid, pe, 0, true, true, com, []⟩ none 0 V (ra_nil _)).mono ?_
      rintro e v1 ⟨rfl, b1⟩
      have B11 := hide ((unhide B10).trans (b1.mono (unhide B10).size))
      have pn := (unhide PN).later b1
      have PV1 := hide ((unhide PV).later b1)
      have PX1 := hide ((unhide PX).later b1)
      have PR1 := hide ((unhide PR).later b1)
      obtain ⟨k0, k1, k2, k3, k4, k5, k6, k7, k8⟩ := pn.cells
      simp only [List.length_nil] at k0 k1 k2 k3 k4 k5 k6 k7 k8
      clear b1 pn PN PV PX PR B10
      by_cases hp0 : pid = 0
      · have CM : chk ⟨(ba : Int), (ep : Int), pid, pe, 0, true, true, com, []⟩ = 7 := chk_form (unhide HNO 0 true [] (by omega)) (.inr (.inl ⟨rfl, .inr (.inr (.inl hp0))⟩))
        rw [CM]
        clear CM
        subst hp0
        simp only [Int.natCast_zero] at k2
        go_wp2_with fail
        refine (check_any ⟨(ba : Int), (ep : Int), 0, pe, 0, false, true, com, []⟩ none 0 v1 (ra_nil _)).mono ?_
        rintro e v2 ⟨rfl, b2⟩
        rw [unhide HN]
        have B12 := hide ((unhide B11).trans (b2.mono (unhide B11).size))
        have pv := (unhide PV1).later b2
        have PX2 := hide ((unhide PX1).later b2)
        have PR2 := hide ((unhide PR1).later b2)
        clear k0 k1 k2 k3 k4 k5 k6 k7 k8
        obtain ⟨k0, k1, k2, k3, k4, k5, k6, k7, k8⟩ := pv.cells
        simp only [List.length_singleton, Int.natCast_zero] at k0 k1 k2 k3 k4 k5 k6 k7 k8
        clear b2 pv
        go_wp2_with fail
        refine (check_any ⟨(ba : Int), (ep : Int), 0, pe, 0, true, true, com, [[]]⟩ (some ⟨gs, 0, none⟩) 1 v2 (unhide PR2)).mono ?_
        rintro e v3 ⟨rfl, b3⟩
        rw [unhide HV]
        have B13 := hide ((unhide B12).trans (b3.mono (unhide B12).size))
        have px := (unhide PX2).later b3
        clear k0 k1 k2 k3 k4 k5 k6 k7 k8
        obtain ⟨k0, k1, k2, k3, k4, k5, k6, k7, k8⟩ := px.cells
        simp only [List.length_nil, Int.natCast_zero] at k0 k1 k2 k3 k4 k5 k6 k7 k8
        clear b3 px
        go_wp2_with fail
        refine (check_any ⟨(ba : Int), (ep : Int), 0, pe, 1, true, true, com, []⟩ none 0 v3 (ra_nil _)).mono ?_
        rintro e v4 ⟨rfl, b4⟩
        rw [unhide HX]
        have B14 := hide ((unhide B13).trans (b4.mono (unhide B13).size))
        clear b4 k0 k1 k2 k3 k4 k5 k6 k7 k8
        go_wp2
        go_returns
        exact ⟨by simp, unhide B14⟩
      · have CM : chk ⟨(ba : Int), (ep : Int), pid, pe, 0, true, true, com, []⟩ = 0 := chk_ok (unhide HNO 0 true [] (by omega)) (by rintro (⟨h, _⟩ | ⟨_, h | h | h | h⟩ | ⟨h, _⟩) <;> simp at h <;> omega) (by rintro (h | ⟨v, hv, _⟩) <;> simp at *)
        rw [CM]
        have hp1 : (0 : Int) < (pid : Int) := by omega
        clear CM
        go_wp2_with fail
        refine (check_any ⟨(ba : Int), (ep : Int), pid, pe, 0, false, true, com, []⟩ none 0 v1 (ra_nil _)).mono ?_
        rintro e v2 ⟨rfl, b2⟩
        rw [unhide HN]
        have B12 := hide ((unhide B11).trans (b2.mono (unhide B11).size))
        have pv := (unhide PV1).later b2
        have PX2 := hide ((unhide PX1).later b2)
        have PR2 := hide ((unhide PR1).later b2)
        clear k0 k1 k2 k3 k4 k5 k6 k7 k8
        obtain ⟨k0, k1, k2, k3, k4, k5, k6, k7, k8⟩ := pv.cells
        simp only [List.length_singleton] at k0 k1 k2 k3 k4 k5 k6 k7 k8
        clear b2 pv
        go_wp2_with fail
        refine (check_any ⟨(ba : Int), (ep : Int), pid, pe, 0, true, true, com, [[]]⟩ (some ⟨gs, 0, none⟩) 1 v2 (unhide PR2)).mono ?_
        rintro e v3 ⟨rfl, b3⟩
        rw [unhide HV]
        have B13 := hide ((unhide B12).trans (b3.mono (unhide B12).size))
        have px := (unhide PX2).later b3
        clear k0 k1 k2 k3 k4 k5 k6 k7 k8
        obtain ⟨k0, k1, k2, k3, k4, k5, k6, k7, k8⟩ := px.cells
        simp only [List.length_nil] at k0 k1 k2 k3 k4 k5 k6 k7 k8
        clear b3 px
        go_wp2_with fail
        refine (check_any ⟨(ba : Int), (ep : Int), pid, pe, 1, true, true, com, []⟩ none 0 v3 (ra_nil _)).mono ?_
        rintro e v4 ⟨rfl, b4⟩
        rw [unhide HX]
        have B14 := hide ((unhide B13).trans (b4.mono (unhide B13).size))
        clear b4 k0 k1 k2 k3 k4 k5 k6 k7 k8
        go_wp2
        go_returns
        exact ⟨by simp, unhide B14⟩
    · have hd := unhide HA
      have a1 : ¬ q1 = q2 := by omega
      have a2 : ¬ q1 = q0 := by omega
      have a3 : ¬ q2 = q0 := by omega
      have a4 : ¬ q2 = q1 := by omega
      have a5 : ¬ q0 = q1 := by omega
      have a6 : ¬ q0 = q2 := by omega
      have a7 : ¬ q1 = w.heap.size := by omega
      have a8 : ¬ q2 = w.heap.size := by omega
      have a9 : ¬ q0 = w.heap.size := by omega
      have c1 : q1 < W.heap.size := (unhide Q1).lt
      have c2 : q2 < W.heap.size := (unhide Q2).lt
      have c3 : q0 < W.heap.size := (unhide Q0).lt
      have y1 : W.cell? ⟨q1, 5, none⟩ = some (.bool true) := (unhide Q1).cell 5
      have y2 : W.cell? ⟨q2, 8, none⟩ = some (.slice none 0 0) := (unhide Q2).cell 8
      have y3 : W.cell? ⟨q0, 4, none⟩ = some (.int .i64 0) := (unhide Q0).cell 4
      have z1 : W.frozen? ⟨q1, 5, none⟩ = false := (unhide Q1).fz 5
      have z2 : W.frozen? ⟨q2, 8, none⟩ = false := (unhide Q2).fz 8
      have z3 : W.frozen? ⟨q0, 4, none⟩ = false := (unhide Q0).fz 4
      obtain ⟨k0, k1, k2, k3, k4, k5, k6, k7, k8⟩ := (unhide BX9).cells
      have c4 : w.heap.size < W.heap.size := lt_of_heap (unhide BX9)
      simp only [List.length_nil] at k0 k1 k2 k3 k4 k5 k6 k7 k8
      have PP := hide (marks_after (w.heap.size) q1 q2 q0 W (unhide BX9) (unhide Q1) (unhide Q2) (unhide Q0) a1 a2 a3 a7 a8 a9)
      have hb10 : Below w.heap.size W ((((W.setCell ⟨q1, 5, none⟩ (.bool false)).setCell ⟨q2, 8, none⟩ (.slice (some ⟨W.heap.size, 0, none⟩) 1 1)).setCell ⟨q0, 4, none⟩ (.int .i64 1)).alloc (.cells #[.slice none 0 0] 26)) := (below_touch (below_touch (below_touch (Below.refl _ _) (touch_set W q1 5 (.bool false)) (by omega) (fun k hk => by omega)) (touch_set _ q2 8 (.slice (some ⟨W.heap.size, 0, none⟩) 1 1)) (by simp; omega) (fun k hk => by omega)) (touch_set _ q0 4 (.int .i64 1)) (by simp; omega) (fun k hk => by omega)).alloc (by simp; omega) _
      have B10 := hide ((unhide B9).trans hb10)
      clear hd hb10 BX9 B9 Q0 Q1 Q2
      go_wp2_with fail
      clear y1 y2 y3 z1 z2 z3 k0 k1 k2 k3 k4 k5 k6 k7 k8 c1 c2 c3 c4
      generalize hsz : W.heap.size = gs at *
      clear hsz
      generalize ((((W.setCell ⟨q1, 5, none⟩ (.bool false)).setCell ⟨q2, 8, none⟩ (.slice (some ⟨gs, 0, none⟩) 1 1)).setCell ⟨q0, 4, none⟩ (.int .i64 1)).alloc (.cells #[.slice none 0 0] 26)) = V at *
      obtain ⟨pm, pn, pv, px, pr⟩ := unhide PP
      have PN := hide pn
      have PV := hide pv
      have PX := hide px
      have PR := hide pr
      have NO : ∀ (sq : Int) (tx : Bool) (l : List (List Nat)), 0 ≤ sq → ¬ outB ⟨(ba : Int), (ep : Int), pid, pe, sq, tx, true, com, l⟩ := fun sq tx l hs => by simp only [outB]; omega
      have CN : chk ⟨(ba : Int), (ep : Int), pid, pe, 0, false, true, com, []⟩ = 7 := chk_form (NO 0 false [] (by omega)) (.inr (.inl ⟨rfl, .inr (.inl rfl)⟩))
      have CV : chk ⟨(ba : Int), (ep : Int), pid, pe, 0, true, true, com, [[]]⟩ = 7 := chk_form (NO 0 true [[]] (by omega)) (.inr (.inl ⟨rfl, .inl (by simp)⟩))
      have CX : chk ⟨(ba : Int), (ep : Int), pid, pe, 1, true, true, com, []⟩ = 7 := chk_form (NO 1 true [] (by omega)) (.inr (.inl ⟨rfl, .inr (.inr (.inr (by simp)))⟩))
      have HN := hide CN
      have HV := hide CV
      have HX := hide CX
      have HNO := hide NO
      clear CN CV CX NO PP pn pv px pr pm
      refine (check_any ⟨(ba : Int), (ep : Int), pid, pe, 0, true, true, com, []⟩ none 0 V (ra_nil _)).mono ?_
      rintro e v1 ⟨rfl, b1⟩
      have B11 := hide ((unhide B10).trans (b1.mono (unhide B10).size))
      have pn := (unhide PN).later b1
      have PV1 := hide ((unhide PV).later b1)
      have PX1 := hide ((unhide PX).later b1)
      have PR1 := hide ((unhide PR).later b1)
      obtain ⟨k0, k1, k2, k3, k4, k5, k6, k7, k8⟩ := pn.cells
      simp only [List.length_nil] at k0 k1 k2 k3 k4 k5 k6 k7 k8
      clear b1 pn PN PV PX PR B10
      by_cases hp0 : pid = 0
      · have CM : chk ⟨(ba : Int), (ep : Int), pid, pe, 0, true, true, com, []⟩ = 7 := chk_form (unhide HNO 0 true [] (by omega)) (.inr (.inl ⟨rfl, .inr (.inr (.inl hp0))⟩))
        rw [CM]
        clear CM
        subst hp0
        simp only [Int.natCast_zero] at k2
        go_wp2_with fail
        refine (check_any ⟨(ba : Int), (ep : Int), 0, pe, 0, false, true, com, []⟩ none 0 v1 (ra_nil _)).mono ?_
        rintro e v2 ⟨rfl, b2⟩
        rw [unhide HN]
        have B12 := hide ((unhide B11).trans (b2.mono (unhide B11).size))
        have pv := (unhide PV1).later b2
        have PX2 := hide ((unhide PX1).later b2)
        have PR2 := hide ((unhide PR1).later b2)
        clear k0 k1 k2 k3 k4 k5 k6 k7 k8
        obtain ⟨k0, k1, k2, k3, k4, k5, k6, k7, k8⟩ := pv.cells
        simp only [List.length_singleton, Int.natCast_zero] at k0 k1 k2 k3 k4 k5 k6 k7 k8
        clear b2 pv
        go_wp2_with fail
        refine (check_any ⟨(ba : Int), (ep : Int), 0, pe, 0, true, true, com, [[]]⟩ (some ⟨gs, 0, none⟩) 1 v2 (unhide PR2)).mono ?_
        rintro e v3 ⟨rfl, b3⟩
        rw [unhide HV]
        have B13 := hide ((unhide B12).trans (b3.mono (unhide B12).size))
        have px := (unhide PX2).later b3
        clear k0 k1 k2 k3 k4 k5 k6 k7 k8
        obtain ⟨k0, k1, k2, k3, k4, k5, k6, k7, k8⟩ := px.cells
        simp only [List.length_nil, Int.natCast_zero] at k0 k1 k2 k3 k4 k5 k6 k7 k8
        clear b3 px
        go_wp2_with fail
        refine (check_any ⟨(ba : Int), (ep : Int), 0, pe, 1, true, true, com, []⟩ none 0 v3 (ra_nil _)).mono ?_
        rintro e v4 ⟨rfl, b4⟩
        rw [unhide HX]
        have B14 := hide ((unhide B13).trans (b4.mono (unhide B13).size))
        clear b4 k0 k1 k2 k3 k4 k5 k6 k7 k8
        go_wp2
        go_returns
        exact ⟨by simp, unhide B14⟩
      · have CM : chk ⟨(ba : Int), (ep : Int), pid, pe, 0, true, true, com, []⟩ = 0 := chk_ok (unhide HNO 0 true [] (by omega)) (by rintro (⟨h, _⟩ | ⟨_, h | h | h | h⟩ | ⟨h, _⟩) <;> simp at h <;> omega) (by rintro (h | ⟨v, hv, _⟩) <;> simp at *)
        rw [CM]
        have hp1 : (0 : Int) < (pid : Int) := by omega
        clear CM
        go_wp2_with fail
        refine (check_any ⟨(ba : Int), (ep : Int), pid, pe, 0, false, true, com, []⟩ none 0 v1 (ra_nil _)).mono ?_
        rintro e v2 ⟨rfl, b2⟩
        rw [unhide HN]
        have B12 := hide ((unhide B11).trans (b2.mono (unhide B11).size))
        have pv := (unhide PV1).later b2
        have PX2 := hide ((unhide PX1).later b2)
        have PR2 := hide ((unhide PR1).later b2)
        clear k0 k1 k2 k3 k4 k5 k6 k7 k8
        obtain ⟨k0, k1, k2, k3, k4, k5, k6, k7, k8⟩ := pv.cells
        simp only [List.length_singleton] at k0 k1 k2 k3 k4 k5 k6 k7 k8
        clear b2 pv
        go_wp2_with fail
        refine (check_any ⟨(ba : Int), (ep : Int), pid, pe, 0, true, true, com, [[]]⟩ (some ⟨gs, 0, none⟩) 1 v2 (unhide PR2)).mono ?_
        rintro e v3 ⟨rfl, b3⟩
        rw [unhide HV]
        have B13 := hide ((unhide B12).trans (b3.mono (unhide B12).size))
        have px := (unhide PX2).later b3
        clear k0 k1 k2 k3 k4 k5 k6 k7 k8
        obtain ⟨k0, k1, k2, k3, k4, k5, k6, k7, k8⟩ := px.cells
        simp only [List.length_nil] at k0 k1 k2 k3 k4 k5 k6 k7 k8
        clear b3 px
        go_wp2_with fail
        refine (check_any ⟨(ba : Int), (ep : Int), pid, pe, 1, true, true, com, []⟩ none 0 v3 (ra_nil _)).mono ?_
        rintro e v4 ⟨rfl, b4⟩
        rw [unhide HX]
        have B14 := hide ((unhide B13).trans (b4.mono (unhide B13).size))
        clear b4 k0 k1 k2 k3 k4 k5 k6 k7 k8
        go_wp2
        go_returns
        exact ⟨by simp, unhide B14⟩
    · have hd := unhide HA
      have a1 : ¬ q2 = q1 := by omega
      have a2 : ¬ q2 = q0 := by omega
      have a3 : ¬ q1 = q0 := by omega
      have a4 : ¬ q1 = q2 := by omega
      have a5 : ¬ q0 = q2 := by omega
      have a6 : ¬ q0 = q1 := by omega
      have a7 : ¬ q2 = w.heap.size := by omega
      have a8 : ¬ q1 = w.heap.size := by omega
      have a9 : ¬ q0 = w.heap.size := by omega
      have c1 : q2 < W.heap.size := (unhide Q2).lt
      have c2 : q1 < W.heap.size := (unhide Q1).lt
      have c3 : q0 < W.heap.size := (unhide Q0).lt
      have y1 : W.cell? ⟨q2, 5, none⟩ = some (.bool true) := (unhide Q2).cell 5
      have y2 : W.cell? ⟨q1, 8, none⟩ = some (.slice none 0 0) := (unhide Q1).cell 8
      have y3 : W.cell? ⟨q0, 4, none⟩ = some (.int .i64 0) := (unhide Q0).cell 4
      have z1 : W.frozen? ⟨q2, 5, none⟩ = false := (unhide Q2).fz 5
      have z2 : W.frozen? ⟨q1, 8, none⟩ = false := (unhide Q1).fz 8
      have z3 : W.frozen? ⟨q0, 4, none⟩ = false := (unhide Q0).fz 4
      obtain ⟨k0, k1, k2, k3, k4, k5, k6, k7, k8⟩ := (unhide BX9).cells
      have c4 : w.heap.size < W.heap.size := lt_of_heap (unhide BX9)
      simp only [List.length_nil] at k0 k1 k2 k3 k4 k5 k6 k7 k8
      have PP := hide (marks_after (w.heap.size) q2 q1 q0 W (unhide BX9) (unhide Q2) (unhide Q1) (unhide Q0) a1 a2 a3 a7 a8 a9)
      have hb10 : Below w.heap.size W ((((W.setCell ⟨q2, 5, none⟩ (.bool false)).setCell ⟨q1, 8, none⟩ (.slice (some ⟨W.heap.size, 0, none⟩) 1 1)).setCell ⟨q0, 4, none⟩ (.int .i64 1)).alloc (.cells #[.slice none 0 0] 26)) := (below_touch (below_touch (below_touch (Below.refl _ _) (touch_set W q2 5 (.bool false)) (by omega) (fun k hk => by omega)) (touch_set _ q1 8 (.slice (some ⟨W.heap.size, 0, none⟩) 1 1)) (by simp; omega) (fun k hk => by omega)) (touch_set _ q0 4 (.int .i64 1)) (by simp; omega) (fun k hk => by omega)).alloc (by simp; omega) _
      have B10 := hide ((unhide B9).trans hb10)
      clear hd hb10 BX9 B9 Q0 Q1 Q2
      go_wp2_with fail
      clear y1 y2 y3 z1 z2 z3 k0 k1 k2 k3 k4 k5 k6 k7 k8 c1 c2 c3 c4
      generalize hsz : W.heap.size = gs at *
      clear hsz
      generalize ((((W.setCell ⟨q2, 5, none⟩ (.bool false)).setCell ⟨q1, 8, none⟩ (.slice (some ⟨gs, 0, none⟩) 1 1)).setCell ⟨q0, 4, none⟩ (.int .i64 1)).alloc (.cells #[.slice none 0 0] 26)) = V at *
      obtain ⟨pm, pn, pv, px, pr⟩ := unhide PP
      have PN := hide pn
      have PV := hide pv
      have PX := hide px
      have PR := hide pr
      have NO : ∀ (sq : Int) (tx : Bool) (l : List (List Nat)), 0 ≤ sq → ¬ outB ⟨(ba : Int), (ep : Int), pid, pe, sq, tx, true, com, l⟩ := fun sq tx l hs => by simp only [outB]; omega
      have CN : chk ⟨(ba : Int), (ep : Int), pid, pe, 0, false, true, com, []⟩ = 7 := chk_form (NO 0 false [] (by omega)) (.inr (.inl ⟨rfl, .inr (.inl rfl)⟩))
      have CV : chk ⟨(ba : Int), (ep : Int), pid, pe, 0, true, true, com, [[]]⟩ = 7 := chk_form (NO 0 true [[]] (by omega)) (.inr (.inl ⟨rfl, .inl (by simp)⟩))
      have CX : chk ⟨(ba : Int), (ep : Int), pid, pe, 1, true, true, com, []⟩ = 7 := chk_form (NO 1 true [] (by omega)) (.inr (.inl ⟨rfl, .inr (.inr (.inr (by simp)))⟩))
      have HN := hide CN
      have HV := hide CV
      have HX := hide CX
      have HNO := hide NO
      clear CN CV CX NO PP pn pv px pr pm
      refine (check_any ⟨(ba : Int), (ep : Int), pid, pe, 0, true, true, com, []⟩ none 0 V (ra_nil _)).mono ?_
      rintro e v1 ⟨rfl, b1⟩
      have B11 := hide ((unhide B10).trans (b1.mono (unhide B10).size))
      have pn := (unhide PN).later b1
      have PV1 := hide ((unhide PV).later b1)
      have PX1 := hide ((unhide PX).later b1)
      have PR1 := hide ((unhide PR).later b1)
      obtain ⟨k0, k1, k2, k3, k4, k5, k6, k7, k8⟩ := pn.cells
      simp only [List.length_nil] at k0 k1 k2 k3 k4 k5 k6 k7 k8
      clear b1 pn PN PV PX PR B10
      by_cases hp0 : pid = 0
      · have CM : chk ⟨(ba : Int), (ep : Int), pid, pe, 0, true, true, com, []⟩ = 7 := chk_form (unhide HNO 0 true [] (by omega)) (.inr (.inl ⟨rfl, .inr (.inr (.inl hp0))⟩))
        rw [CM]
        clear CM
        subst hp0
        simp only [Int.natCast_zero] at k2
        go_wp2_with fail
        refine (check_any ⟨(ba : Int), (ep : Int), 0, pe, 0, false, true, com, []⟩ none 0 v1 (ra_nil _)).mono ?_
        rintro e v2 ⟨rfl, b2⟩
        rw [unhide HN]
        have B12 := hide ((unhide B11).trans (b2.mono (unhide B11).size))
        have pv := (unhide PV1).later b2
        have PX2 := hide ((unhide PX1).later b2)
        have PR2 := hide ((unhide PR1).later b2)
        clear k0 k1 k2 k3 k4 k5 k6 k7 k8
        obtain ⟨k0, k1, k2, k3, k4, k5, k6, k7, k8⟩ := pv.cells
        simp only [List.length_singleton, Int.natCast_zero] at k0 k1 k2 k3 k4 k5 k6 k7 k8
        clear b2 pv
        go_wp2_with fail
        refine (check_any ⟨(ba : Int), (ep : Int), 0, pe, 0, true, true, com, [[]]⟩ (some ⟨gs, 0, none⟩) 1 v2 (unhide PR2)).mono ?_
        rintro e v3 ⟨rfl, b3⟩
        rw [unhide HV]
        have B13 := hide ((unhide B12).trans (b3.mono (unhide B12).size))
        have px := (unhide PX2).later b3
        clear k0 k1 k2 k3 k4 k5 k6 k7 k8
        obtain ⟨k0, k1, k2, k3, k4, k5, k6, k7, k8⟩ := px.cells
        simp only [List.length_nil, Int.natCast_zero] at k0 k1 k2 k3 k4 k5 k6 k7 k8
        clear b3 px
        go_wp2_with fail
        refine (check_any ⟨(ba : Int), (ep : Int), 0, pe, 1, true, true, com, []⟩ none 0 v3 (ra_nil _)).mono ?_
        rintro e v4 ⟨rfl, b4⟩
        rw [unhide HX]
        have B14 := hide ((unhide B13).trans (b4.mono (unhide B13).size))
        clear b4 k0 k1 k2 k3 k4 k5 k6 k7 k8
        go_wp2
        go_returns
        exact ⟨by simp, unhide B14⟩
      · have CM : chk ⟨(ba : Int), (ep : Int), pid, pe, 0, true, true, com, []⟩ = 0 := chk_ok (unhide HNO 0 true [] (by omega)) (by rintro (⟨h, _⟩ | ⟨_, h | h | h | h⟩ | ⟨h, _⟩) <;> simp at h <;> omega) (by rintro (h | ⟨v, hv, _⟩) <;> simp at *)
        rw [CM]
        have hp1 : (0 : Int) < (pid : Int) := by omega
        clear CM
        go_wp2_with fail
        refine (check_any ⟨(ba : Int), (ep : Int), pid, pe, 0, false, true, com, []⟩ none 0 v1 (ra_nil _)).mono ?_
        rintro e v2 ⟨rfl, b2⟩
        rw [unhide HN]
        have B12 := hide ((unhide B11).trans (b2.mono (unhide B11).size))
        have pv := (unhide PV1).later b2
        have PX2 := hide ((unhide PX1).later b2)
        have PR2 := hide ((unhide PR1).later b2)
        clear k0 k1 k2 k3 k4 k5 k6 k7 k8
        obtain ⟨k0, k1, k2, k3, k4, k5, k6, k7, k8⟩ := pv.cells
        simp only [List.length_singleton] at k0 k1 k2 k3 k4 k5 k6 k7 k8
        clear b2 pv
        go_wp2_with fail
        refine (check_any ⟨(ba : Int), (ep : Int), pid, pe, 0, true, true, com, [[]]⟩ (some ⟨gs, 0, none⟩) 1 v2 (unhide PR2)).mono ?_
        rintro e v3 ⟨rfl, b3⟩
        rw [unhide HV]
        have B13 := hide ((unhide B12).trans (b3.mono (unhide B12).size))
        have px := (unhide PX2).later b3
        clear k0 k1 k2 k3 k4 k5 k6 k7 k8
        obtain ⟨k0, k1, k2, k3, k4, k5, k6, k7, k8⟩ := px.cells
        simp only [List.length_nil] at k0 k1 k2 k3 k4 k5 k6 k7 k8
        clear b3 px
        go_wp2_with fail
        refine (check_any ⟨(ba : Int), (ep : Int), pid, pe, 1, true, true, com, []⟩ none 0 v3 (ra_nil _)).mono ?_
        rintro e v4 ⟨rfl, b4⟩
        rw [unhide HX]
        have B14 := hide ((unhide B13).trans (b4.mono (unhide B13).size))
        clear b4 k0 k1 k2 k3 k4 k5 k6 k7 k8
        go_wp2
        go_returns
        exact ⟨by simp, unhide B14⟩
  · have BAD : outB ⟨(ba : Int), (ep : Int), pid, pe, 0, true, true, com, []⟩ := by simp only [outB]; omega
    have CB := hide (chk_out BAD)
    have C : ¬ 0 ≤ pe ∨ ((0 ≤ pe ∧ ¬ pe ≤ 1000) ∨ ((0 ≤ pe ∧ pe ≤ 1000) ∧ ¬ (pid : Int) ≤ 1000)) := by omega
    clear BAD hg
    rcases C with g1 | ⟨g1, g2⟩ | ⟨⟨g1, g2⟩, g3⟩
    all_goals
      go_enter Try.func8, Try.ntmps8
      go_wp2_with fail
      refine (unhide KA).mono ?_
      rintro e w2 ⟨rfl, b2⟩
      have BX2 := hide ((unhide BX1).later b2)
      have B2 := hide ((unhide B1).trans (b2.mono (unhide B1).size))
      obtain ⟨k0, k1, k2, k3, k4, k5, k6, k7, k8⟩ := (unhide BX2).cells
      simp only [List.length_nil] at k0 k1 k2 k3 k4 k5 k6 k7 k8
      clear b2 KA BX1 B1
      go_wp2_with fail
      refine (size7_any ⟨(ba : Int), (ep : Int), pid, pe, 0, true, true, com, []⟩ none 0 _).mono ?_
      rintro e w3 ⟨rfl, b3⟩
      have BX3 := hide ((unhide BX2).later b3)
      have B3 := hide ((unhide B2).trans (b3.mono (unhide B2).size))
      clear b3 BX2 B2 k0 k1 k2 k3 k4 k5 k6 k7 k8
      obtain ⟨k0, k1, k2, k3, k4, k5, k6, k7, k8⟩ := (unhide BX3).cells
      simp only [List.length_nil] at k0 k1 k2 k3 k4 k5 k6 k7 k8
      simp only [if_true]
      go_wp2_with fail
      refine (check_any ⟨(ba : Int), (ep : Int), pid, pe, 0, true, true, com, []⟩ none 0 _ (ra_nil _)).mono ?_
      rintro e w4 ⟨rfl, b4⟩
      rw [unhide CB]
      have B4 := hide ((unhide B3).trans (b4.mono (unhide B3).size))
      clear b4 B3 BX3 k0 k1 k2 k3 k4 k5 k6 k7 k8
      go_wp2
      go_returns
      exact ⟨by simp, unhide B4⟩
end Go.Proofs.Ytfccddcoindnlaa
