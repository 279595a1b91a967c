/-
  awake of layer 9, above the general Apply. No conditions.
-/
import Derived.Test.YtjocjnjdmmihnaaQf9
import Derived.Test.YtjocjnjdmmihnaaQg9
namespace Go.Proofs.Ytjocjnjdmmihnaa
open Go.RowKit
set_option linter.unusedVariables false

theorem rat2 {w : World} {g : Nat} {t : TypeId} (h : w.heap[g]? = some (.cells #[.slice none 0 0, .slice none 0 0] t)) : RAt w (some ⟨g, 0, none⟩) [[], []] := by
  intro i hi
  have : i = 0 ∨ i = 1 := by simp at hi; omega
  rcases this with rfl | rfl
  · exact ⟨g, 0, .slice none 0 0, rfl, lt_of_heap h, cell_of h 0, none, 0, rfl, fun i hi => absurd hi (Nat.not_lt_zero _), fun _ => rfl⟩
  · exact ⟨g, 0, .slice none 0 0, rfl, lt_of_heap h, cell_of h 1, none, 0, rfl, fun i hi => absurd hi (Nat.not_lt_zero _), fun _ => rfl⟩
abbrev bS (s : Int) : Bt := ⟨4, 0, 7, 0, s, false, false, false, [[], []]⟩
theorem chk_s {s : Int} (h : 0 ≤ s) : chk (bS s) = 0 := chk_ok (by simp [outB]; omega) (by simp [prodB, kindB]) (by simp [longB])
def ansS (s : Int) : Int × Bool × Int := if s = 0 then (4, true, 0) else if s = 2 then (0, false, 0) else (0, false, 11)
def k7 : Nat → Option Kn := fun s => if s = 7 then some ⟨0, 2, false, 0, [⟨0, 2, 4⟩]⟩ else none
theorem chkK_s {s : Int} (h : 0 ≤ s) : chkK (bS s) (atK (k7 7) 0) = ansS s := by
  have e : atK (k7 7) 0 = ⟨0, 2, false, 0, [⟨0, 2, 4⟩]⟩ := rfl
  rw [e]
  unfold chkK ansS
  rw [chk_s h]
  by_cases h0 : s = 0
  · subst h0; rfl
  · have h0' : ¬ 0 = s := fun e => h0 e.symm
    have : findE [⟨0, 2, 4⟩] s 2 = (0, false) := by
      unfold findE
      simp [h0']
    simp [this, h0]
/-- What the table holds behind the first batch. -/
def Tab9 (w : World) (tb lo : Nat) : Prop := ∃ mv av m n c R, Tb w tb mv av m k7 n c R ∧ ∀ k, R k → k = tb ∨ lo ≤ k
theorem Tab9.later {w w' : World} {tb lo : Nat} (h : Tab9 w tb lo) (hb : Below w.heap.size w w') : Tab9 w' tb lo := by
  obtain ⟨mv, av, m, n, c, R, h1, h2⟩ := h
  exact ⟨mv, av, m, n, c, R, h1.later hb, h2⟩
theorem Tab9.keep {w w' : World} {tb lo g : Nat} (h : Tab9 w tb lo) (ht : Touch (· = g) w w') (hg : g ≠ tb) (hl : g < lo) : Tab9 w' tb lo := by
  obtain ⟨mv, av, m, n, c, R, h1, h2⟩ := h
  exact ⟨mv, av, m, n, c, R, h1.keep ht (fun k hk e => by rcases h2 k hk with e2 | e2 <;> omega), h2⟩
theorem checkS {w : World} {tb lo : Nat} (h : Tab9 w tb lo) {a : Option Addr} (cap : Nat) (hr : RAt w a [[], []]) {s : Int} (hs : 0 ≤ s) :
    Calls Try.prog 8 #[.pointer (some ⟨tb, 0, none⟩), .agg #[.int .i64 4, .int .i64 0, .int .u64 7, .int .i64 0, .int .i64 s, .bool false, .bool false, .bool false, .slice a 2 cap]] w fun e w' => AnsPost w (tup3 (ansS s)) e w' := by
  obtain ⟨mv, av, m, n, c, R, h1, _⟩ := h
  have hc := check_tb h1 (bS s) a cap hr (by show 7 < _; omega)
  rw [show chkK (bS s) (atK (k7 (bS s).pid) (bS s).pep) = ansS s from chkK_s hs] at hc
  exact hc
set_option maxRecDepth 100000 in
set_option maxHeartbeats 1000000 in
theorem awake9_any (w : World) : Calls Try.prog 5 #[] w fun e w' => e = .returned (.bool true) ∧ Below w.heap.size w w' := by
  go_enter Try.func5, Try.ntmps5
  go_wp2_with fail
  refine (new9_any w).mono ?_
  rintro e w0 ⟨rfl, rfl⟩
  go_wp2_with fail
  have B0 : Hid (Below w.heap.size w (((w.alloc (.cells #[.map none, .slice none 0 0] 49)).alloc (.cells #[.slice none 0 0, .slice none 0 0] 64)).alloc (.cells #[.int .i64 4, .int .i64 0, .int .u64 7, .int .i64 0, .int .i64 0, .bool false, .bool false, .bool false, .slice (some ⟨w.heap.size + 1, 0, none⟩) 2 2] 30))) := (((Below.refl _ _).alloc (Nat.le_refl _) _).alloc (by simp) _).alloc (by simp; omega) _
  have T0 : Hid ((((w.alloc (.cells #[.map none, .slice none 0 0] 49)).alloc (.cells #[.slice none 0 0, .slice none 0 0] 64)).alloc (.cells #[.int .i64 4, .int .i64 0, .int .u64 7, .int .i64 0, .int .i64 0, .bool false, .bool false, .bool false, .slice (some ⟨w.heap.size + 1, 0, none⟩) 2 2] 30)).heap[w.heap.size]? = some (.cells #[.map none, .slice none 0 0] 49)) := heap_old _ (heap_old _ (heap_new _ _))
  have V0 : Hid ((((w.alloc (.cells #[.map none, .slice none 0 0] 49)).alloc (.cells #[.slice none 0 0, .slice none 0 0] 64)).alloc (.cells #[.int .i64 4, .int .i64 0, .int .u64 7, .int .i64 0, .int .i64 0, .bool false, .bool false, .bool false, .slice (some ⟨w.heap.size + 1, 0, none⟩) 2 2] 30)).heap[w.heap.size + 1]? = some (.cells #[.slice none 0 0, .slice none 0 0] 64)) := by
    refine heap_old _ ?_
    have := heap_new (w.alloc (.cells #[.map none, .slice none 0 0] 49)) (.cells #[.slice none 0 0, .slice none 0 0] 64)
    simpa using this
  have X0 : Hid ((((w.alloc (.cells #[.map none, .slice none 0 0] 49)).alloc (.cells #[.slice none 0 0, .slice none 0 0] 64)).alloc (.cells #[.int .i64 4, .int .i64 0, .int .u64 7, .int .i64 0, .int .i64 0, .bool false, .bool false, .bool false, .slice (some ⟨w.heap.size + 1, 0, none⟩) 2 2] 30)).heap[w.heap.size + 1 + 1]? = some (.cells #[.int .i64 4, .int .i64 0, .int .u64 7, .int .i64 0, .int .i64 0, .bool false, .bool false, .bool false, .slice (some ⟨w.heap.size + 1, 0, none⟩) 2 2] 30)) := by
    have := heap_new ((w.alloc (.cells #[.map none, .slice none 0 0] 49)).alloc (.cells #[.slice none 0 0, .slice none 0 0] 64)) (.cells #[.int .i64 4, .int .i64 0, .int .u64 7, .int .i64 0, .int .i64 0, .bool false, .bool false, .bool false, .slice (some ⟨w.heap.size + 1, 0, none⟩) 2 2] 30)
    have e : ((w.alloc (.cells #[.map none, .slice none 0 0] 49)).alloc (.cells #[.slice none 0 0, .slice none 0 0] 64)).heap.size = w.heap.size + 1 + 1 := by simp
    rw [e] at this
    exact this
  generalize ((w.alloc (.cells #[.map none, .slice none 0 0] 49)).alloc (.cells #[.slice none 0 0, .slice none 0 0] 64)).alloc (.cells #[.int .i64 4, .int .i64 0, .int .u64 7, .int .i64 0, .int .i64 0, .bool false, .bool false, .bool false, .slice (some ⟨w.heap.size + 1, 0, none⟩) 2 2] 30) = W0 at *
  refine (apply_any (Tb.fresh (unhide T0)) (by omega) (bS 0) (some ⟨w.heap.size + 1, 0, none⟩) 2 (by simp) (by simp)).mono ?_
  rintro e w1 ⟨rfl, mv', av', m', n', R', hTb, hR, tch⟩
  have hW0 : w.heap.size + 1 + 1 < W0.heap.size := lt_of_heap (unhide X0)
  have TB1 : Hid (Tab9 w1 w.heap.size (w.heap.size + 1 + 1 + 1)) := ⟨mv', av', m', n', _, R', hTb, fun k hk => (hR k hk).imp id (fun e => by omega)⟩
  have B1 : Hid (Below w.heap.size w w1) := below_touch (unhide B0) tch (unhide B0).size (fun k hk => by omega)
  have V1 := hide (tch.keep (unhide V0) (show ¬ w.heap.size + 1 = w.heap.size by omega))
  have X1 := hide (tch.keep (unhide X0) (show ¬ w.heap.size + 1 + 1 = w.heap.size by omega))
  clear hTb hR tch T0 V0 X0 B0 hW0
  have C1 : Hid (Calls Try.prog 8 #[.pointer (some ⟨w.heap.size, 0, none⟩), .agg #[.int .i64 4, .int .i64 0, .int .u64 7, .int .i64 0, .int .i64 0, .bool false, .bool false, .bool false, .slice (some ⟨w.heap.size + 1, 0, none⟩) 2 2]] w1 fun e w' => AnsPost w1 (tup3 (ansS 0)) e w') := checkS (unhide TB1) 2 (rat2 (unhide V1)) (by omega)
  have y0 : w1.cell? ⟨w.heap.size + 1 + 1, 0, none⟩ = some (.int .i64 4) := cell_of (unhide X1) 0
  have y1 : w1.cell? ⟨w.heap.size + 1 + 1, 1, none⟩ = some (.int .i64 0) := cell_of (unhide X1) 1
  have y2 : w1.cell? ⟨w.heap.size + 1 + 1, 2, none⟩ = some (.int .u64 7) := cell_of (unhide X1) 2
  have y3 : w1.cell? ⟨w.heap.size + 1 + 1, 3, none⟩ = some (.int .i64 0) := cell_of (unhide X1) 3
  have y4 : w1.cell? ⟨w.heap.size + 1 + 1, 4, none⟩ = some (.int .i64 0) := cell_of (unhide X1) 4
  have y5 : w1.cell? ⟨w.heap.size + 1 + 1, 5, none⟩ = some (.bool false) := cell_of (unhide X1) 5
  have y6 : w1.cell? ⟨w.heap.size + 1 + 1, 6, none⟩ = some (.bool false) := cell_of (unhide X1) 6
  have y7 : w1.cell? ⟨w.heap.size + 1 + 1, 7, none⟩ = some (.bool false) := cell_of (unhide X1) 7
  have y8 : w1.cell? ⟨w.heap.size + 1 + 1, 8, none⟩ = some (.slice (some ⟨w.heap.size + 1, 0, none⟩) 2 2) := cell_of (unhide X1) 8
  go_wp2_with fail
  refine (unhide C1).mono ?_
  rintro e w2 ⟨rfl, b2⟩
  have TB2 := hide ((unhide TB1).later b2)
  have B2 := hide ((unhide B1).trans (b2.mono (unhide B1).size))
  have V2 := hide (below_keep b2 (unhide V1))
  have X2 := hide (below_keep b2 (unhide X1))
  clear b2 C1 TB1 B1 V1 X1 y0 y1 y2 y3 y4 y5 y6 y7 y8
  have TS := touch_set w2 (w.heap.size + 1 + 1) 4 (.int .i64 2)
  have z4 : w2.cell? ⟨w.heap.size + 1 + 1, 4, none⟩ = some (.int .i64 0) := cell_of (unhide X2) 4
  have zf : w2.frozen? ⟨w.heap.size + 1 + 1, 4, none⟩ = false := frozen_of (unhide X2) 4
  have XS : Hid ((w2.setCell ⟨w.heap.size + 1 + 1, 4, none⟩ (.int .i64 2)).heap[w.heap.size + 1 + 1]? = some (.cells #[.int .i64 4, .int .i64 0, .int .u64 7, .int .i64 0, .int .i64 2, .bool false, .bool false, .bool false, .slice (some ⟨w.heap.size + 1, 0, none⟩) 2 2] 30)) := heap_set (unhide X2) 4 _
  have VS := hide (TS.keep (unhide V2) (show ¬ w.heap.size + 1 = w.heap.size + 1 + 1 by omega))
  have TBS := hide ((unhide TB2).keep TS (by omega) (by omega))
  have BS : Hid (Below w.heap.size w (w2.setCell ⟨w.heap.size + 1 + 1, 4, none⟩ (.int .i64 2))) := below_touch (unhide B2) TS (unhide B2).size (fun k hk => by omega)
  have C3 : Hid (Calls Try.prog 8 #[.pointer (some ⟨w.heap.size, 0, none⟩), .agg #[.int .i64 4, .int .i64 0, .int .u64 7, .int .i64 0, .int .i64 2, .bool false, .bool false, .bool false, .slice (some ⟨w.heap.size + 1, 0, none⟩) 2 2]] (w2.setCell ⟨w.heap.size + 1 + 1, 4, none⟩ (.int .i64 2)) fun e w' => AnsPost (w2.setCell ⟨w.heap.size + 1 + 1, 4, none⟩ (.int .i64 2)) (tup3 (ansS 2)) e w') := checkS (unhide TBS) 2 (rat2 (unhide VS)) (by omega)
  have y0 : (w2.setCell ⟨w.heap.size + 1 + 1, 4, none⟩ (.int .i64 2)).cell? ⟨w.heap.size + 1 + 1, 0, none⟩ = some (.int .i64 4) := cell_of (unhide XS) 0
  have y1 : (w2.setCell ⟨w.heap.size + 1 + 1, 4, none⟩ (.int .i64 2)).cell? ⟨w.heap.size + 1 + 1, 1, none⟩ = some (.int .i64 0) := cell_of (unhide XS) 1
  have y2 : (w2.setCell ⟨w.heap.size + 1 + 1, 4, none⟩ (.int .i64 2)).cell? ⟨w.heap.size + 1 + 1, 2, none⟩ = some (.int .u64 7) := cell_of (unhide XS) 2
  have y3 : (w2.setCell ⟨w.heap.size + 1 + 1, 4, none⟩ (.int .i64 2)).cell? ⟨w.heap.size + 1 + 1, 3, none⟩ = some (.int .i64 0) := cell_of (unhide XS) 3
  have y4 : (w2.setCell ⟨w.heap.size + 1 + 1, 4, none⟩ (.int .i64 2)).cell? ⟨w.heap.size + 1 + 1, 4, none⟩ = some (.int .i64 2) := cell_of (unhide XS) 4
  have y5 : (w2.setCell ⟨w.heap.size + 1 + 1, 4, none⟩ (.int .i64 2)).cell? ⟨w.heap.size + 1 + 1, 5, none⟩ = some (.bool false) := cell_of (unhide XS) 5
  have y6 : (w2.setCell ⟨w.heap.size + 1 + 1, 4, none⟩ (.int .i64 2)).cell? ⟨w.heap.size + 1 + 1, 6, none⟩ = some (.bool false) := cell_of (unhide XS) 6
  have y7 : (w2.setCell ⟨w.heap.size + 1 + 1, 4, none⟩ (.int .i64 2)).cell? ⟨w.heap.size + 1 + 1, 7, none⟩ = some (.bool false) := cell_of (unhide XS) 7
  have y8 : (w2.setCell ⟨w.heap.size + 1 + 1, 4, none⟩ (.int .i64 2)).cell? ⟨w.heap.size + 1 + 1, 8, none⟩ = some (.slice (some ⟨w.heap.size + 1, 0, none⟩) 2 2) := cell_of (unhide XS) 8
  clear TS TB2 X2 V2 B2
  go_wp2_with fail
  refine (unhide C3).mono ?_
  rintro e w3 ⟨rfl, b3⟩
  have TB3 := hide ((unhide TBS).later b3)
  have B3 := hide ((unhide BS).trans (b3.mono (unhide BS).size))
  have V3 := hide (below_keep b3 (unhide VS))
  have X3 := hide (below_keep b3 (unhide XS))
  clear b3 C3 TBS BS VS XS y0 y1 y2 y3 y4 y5 y6 y7 y8 z4 zf
  have TS := touch_set w3 (w.heap.size + 1 + 1) 4 (.int .i64 5)
  have z4 : w3.cell? ⟨w.heap.size + 1 + 1, 4, none⟩ = some (.int .i64 2) := cell_of (unhide X3) 4
  have zf : w3.frozen? ⟨w.heap.size + 1 + 1, 4, none⟩ = false := frozen_of (unhide X3) 4
  have XS : Hid ((w3.setCell ⟨w.heap.size + 1 + 1, 4, none⟩ (.int .i64 5)).heap[w.heap.size + 1 + 1]? = some (.cells #[.int .i64 4, .int .i64 0, .int .u64 7, .int .i64 0, .int .i64 5, .bool false, .bool false, .bool false, .slice (some ⟨w.heap.size + 1, 0, none⟩) 2 2] 30)) := heap_set (unhide X3) 4 _
  have VS := hide (TS.keep (unhide V3) (show ¬ w.heap.size + 1 = w.heap.size + 1 + 1 by omega))
  have TBS := hide ((unhide TB3).keep TS (by omega) (by omega))
  have BS : Hid (Below w.heap.size w (w3.setCell ⟨w.heap.size + 1 + 1, 4, none⟩ (.int .i64 5))) := below_touch (unhide B3) TS (unhide B3).size (fun k hk => by omega)
  have C4 : Hid (Calls Try.prog 8 #[.pointer (some ⟨w.heap.size, 0, none⟩), .agg #[.int .i64 4, .int .i64 0, .int .u64 7, .int .i64 0, .int .i64 5, .bool false, .bool false, .bool false, .slice (some ⟨w.heap.size + 1, 0, none⟩) 2 2]] (w3.setCell ⟨w.heap.size + 1 + 1, 4, none⟩ (.int .i64 5)) fun e w' => AnsPost (w3.setCell ⟨w.heap.size + 1 + 1, 4, none⟩ (.int .i64 5)) (tup3 (ansS 5)) e w') := checkS (unhide TBS) 2 (rat2 (unhide VS)) (by omega)
  have y0 : (w3.setCell ⟨w.heap.size + 1 + 1, 4, none⟩ (.int .i64 5)).cell? ⟨w.heap.size + 1 + 1, 0, none⟩ = some (.int .i64 4) := cell_of (unhide XS) 0
  have y1 : (w3.setCell ⟨w.heap.size + 1 + 1, 4, none⟩ (.int .i64 5)).cell? ⟨w.heap.size + 1 + 1, 1, none⟩ = some (.int .i64 0) := cell_of (unhide XS) 1
  have y2 : (w3.setCell ⟨w.heap.size + 1 + 1, 4, none⟩ (.int .i64 5)).cell? ⟨w.heap.size + 1 + 1, 2, none⟩ = some (.int .u64 7) := cell_of (unhide XS) 2
  have y3 : (w3.setCell ⟨w.heap.size + 1 + 1, 4, none⟩ (.int .i64 5)).cell? ⟨w.heap.size + 1 + 1, 3, none⟩ = some (.int .i64 0) := cell_of (unhide XS) 3
  have y4 : (w3.setCell ⟨w.heap.size + 1 + 1, 4, none⟩ (.int .i64 5)).cell? ⟨w.heap.size + 1 + 1, 4, none⟩ = some (.int .i64 5) := cell_of (unhide XS) 4
  have y5 : (w3.setCell ⟨w.heap.size + 1 + 1, 4, none⟩ (.int .i64 5)).cell? ⟨w.heap.size + 1 + 1, 5, none⟩ = some (.bool false) := cell_of (unhide XS) 5
  have y6 : (w3.setCell ⟨w.heap.size + 1 + 1, 4, none⟩ (.int .i64 5)).cell? ⟨w.heap.size + 1 + 1, 6, none⟩ = some (.bool false) := cell_of (unhide XS) 6
  have y7 : (w3.setCell ⟨w.heap.size + 1 + 1, 4, none⟩ (.int .i64 5)).cell? ⟨w.heap.size + 1 + 1, 7, none⟩ = some (.bool false) := cell_of (unhide XS) 7
  have y8 : (w3.setCell ⟨w.heap.size + 1 + 1, 4, none⟩ (.int .i64 5)).cell? ⟨w.heap.size + 1 + 1, 8, none⟩ = some (.slice (some ⟨w.heap.size + 1, 0, none⟩) 2 2) := cell_of (unhide XS) 8
  clear TS TB3 X3 V3 B3
  go_wp2_with fail
  refine (unhide C4).mono ?_
  rintro e w4 ⟨rfl, b4⟩
  have TB4 := hide ((unhide TBS).later b4)
  have B4 := hide ((unhide BS).trans (b4.mono (unhide BS).size))
  have V4 := hide (below_keep b4 (unhide VS))
  have X4 := hide (below_keep b4 (unhide XS))
  clear b4 C4 TBS BS VS XS y0 y1 y2 y3 y4 y5 y6 y7 y8 z4 zf
  clear TB4 V4 X4
  go_wp2
  go_returns
  exact ⟨rfl, unhide B4⟩
end Go.Proofs.Ytjocjnjdmmihnaa
