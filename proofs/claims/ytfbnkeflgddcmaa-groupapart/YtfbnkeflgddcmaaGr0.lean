/-
  A group.State that knows nothing; Join of its first member; awake. Conditions: none.
-/
import Derived.Test.YtfbnkeflgddcmaaIl0
import Derived.Deep.CutBlock
import Derived.WalkMore
namespace Go.Proofs.Ytfbnkeflgddcmaa
open Go.RowKit Go.Maps
set_option linter.unusedVariables false

theorem set1 {u : World} {g : Nat} {cs cs' : Array Value} {t : TypeId} (h : u.heap[g]? = some (.cells cs t)) (i : Nat) (v : Value) (e : cs.setIfInBounds i v = cs') : (u.setCell ⟨g, i, none⟩ v).heap[g]? = some (.cells cs' t) := by
  rw [← e]; exact heap_set h i v
theorem set6 {u : World} {g : Nat} {cs : Array Value} {t : TypeId} (h : u.heap[g]? = some (.cells cs t)) (hs : cs.size = 6) (v0 v1 v2 v3 v4 v5 : Value) :
    ((((((u.setCell ⟨g, 0, none⟩ v0).setCell ⟨g, 1, none⟩ v1).setCell ⟨g, 2, none⟩ v2).setCell ⟨g, 3, none⟩ v3).setCell ⟨g, 4, none⟩ v4).setCell ⟨g, 5, none⟩ v5).heap[g]? = some (.cells #[v0, v1, v2, v3, v4, v5] t) ∧ Touch (· = g) u ((((((u.setCell ⟨g, 0, none⟩ v0).setCell ⟨g, 1, none⟩ v1).setCell ⟨g, 2, none⟩ v2).setCell ⟨g, 3, none⟩ v3).setCell ⟨g, 4, none⟩ v4).setCell ⟨g, 5, none⟩ v5) := by
  match cs, hs with
  | ⟨[c0, c1, c2, c3, c4, c5]⟩, _ =>
    have e0 := set1 h 0 v0 (cs' := #[v0, c1, c2, c3, c4, c5]) rfl
    have e1 := set1 e0 1 v1 (cs' := #[v0, v1, c2, c3, c4, c5]) rfl
    have e2 := set1 e1 2 v2 (cs' := #[v0, v1, v2, c3, c4, c5]) rfl
    have e3 := set1 e2 3 v3 (cs' := #[v0, v1, v2, v3, c4, c5]) rfl
    have e4 := set1 e3 4 v4 (cs' := #[v0, v1, v2, v3, v4, c5]) rfl
    have e5 := set1 e4 5 v5 (cs' := #[v0, v1, v2, v3, v4, v5]) rfl
    refine ⟨e5, ?_⟩
    have t0 := touch_set u g 0 v0
    have t1 := t0.trans (touch_set _ g 1 v1)
    have t2 := t1.trans (touch_set _ g 2 v2)
    have t3 := t2.trans (touch_set _ g 3 v3)
    have t4 := t3.trans (touch_set _ g 4 v4)
    have t5 := t4.trans (touch_set _ g 5 v5)
    exact t5
theorem gnew_any (w : World) : Calls Try.prog 5 #[] w fun e w' => e = .returned (.pointer (some ⟨w.heap.size, 0, none⟩)) ∧ w' = w.alloc (.cells #[.map none, .map none] 52) := by
  go_enter Try.func5, Try.ntmps5
  go_wp2
  go_returns
  exact ⟨rfl, rfl⟩
theorem isGroup_zero (w : World) : Calls Try.prog 29 #[.int .i64 0] w fun e w' => e = .returned (.bool true) ∧ w' = w := by
  go_enter Try.func29, Try.ntmps29
  go_wp2
  go_ret
  exact ⟨rfl, rfl⟩
theorem search_nil (x : Int) (w : World) : Calls Try.prog 25 #[.slice none 0 0, .int .i64 x] w fun e w' => e = .returned (.tuple #[.int .i64 0, .bool false]) ∧ Touch (fun _ => False) w w' := by
  go_enter Try.func25, Try.ntmps25
  go_wp2_with fail
  go_loopw [7, 8] (fun s7 s8 wr => s7 = .int .i64 0 ∧ s8 = .int .i64 0 ∧ wr = w) (fun _ _ _ => 0)
  case atStart => exact ⟨rfl, rfl, rfl⟩
  case round =>
    obtain ⟨rfl, rfl, hww⟩ := hrel
    obtain rfl : w = wr := hww.symm
    clear hww
    go_wp2_with fail
    first
      | (go_returns; exact ⟨rfl, Touch.refl _ _⟩)
      | (go_quiet (fail); go_wp2; go_returns; exact ⟨rfl, by rename_i nq; exact ⟨rfl, rfl, rfl, Nat.le_refl _, fun _ _ _ => rfl⟩⟩)
set_option maxRecDepth 100000 in
theorem zero_team (w : World) : (zeroValue 61).run Try.prog w = .ok (.agg #[.int .i64 0, .slice none 0 0, .int .i64 0, .int .i64 0, .int .i64 0, .int .i64 0]) w := by kernel_rfl
set_option maxRecDepth 100000 in
theorem named_new {w : World} {sb : Nat} (h : w.heap[sb]? = some (.cells #[.map none, .map none] 52)) : Calls Try.prog 19 #[.pointer (some ⟨sb, 0, none⟩), .int .i64 0] w fun e w' => e = .returned (.tuple #[.agg #[.int .i64 0, .slice none 0 0, .int .i64 0, .int .i64 0, .int .i64 0, .int .i64 0], .int .i64 0]) ∧ w' = w.alloc (.cells #[.int .i64 0, .slice none 0 0, .int .i64 0, .int .i64 0, .int .i64 0, .int .i64 0] 61) := by
  have c0 : w.cell? ⟨sb, 0, none⟩ = some (.map none) := cell_of h 0
  have hlt := lt_of_heap h
  have K := hide (isGroup_zero (w.alloc (.cells #[.int .i64 0, .slice none 0 0, .int .i64 0, .int .i64 0, .int .i64 0, .int .i64 0] 61)))
  have hl : (Instr.lookup 49 (.map none) (.int .i64 0) false).run Try.prog (w.alloc (.cells #[.int .i64 0, .slice none 0 0, .int .i64 0, .int .i64 0, .int .i64 0, .int .i64 0] 61)) = .ok (.agg #[.int .i64 0, .slice none 0 0, .int .i64 0, .int .i64 0, .int .i64 0, .int .i64 0]) (w.alloc (.cells #[.int .i64 0, .slice none 0 0, .int .i64 0, .int .i64 0, .int .i64 0, .int .i64 0] 61)) :=
    Maps.look_nil false (int_keyed Try.underlying3) Try.underlying49 (zero_team _) (keyOf_int_mk Try.underlying3 (by decide))
  have hb := heap_new w (.cells #[.int .i64 0, .slice none 0 0, .int .i64 0, .int .i64 0, .int .i64 0, .int .i64 0] 61)
  clear h
  go_enter Try.func19, Try.ntmps19
  go_wp2_with (go_at_call 29; refine (unhide K).mono ?_; rintro e w1 ⟨rfl, rfl⟩)
  generalize w.alloc (.cells #[.int .i64 0, .slice none 0 0, .int .i64 0, .int .i64 0, .int .i64 0, .int .i64 0] 61) = W at *
  have y0 : W.cell? ⟨w.heap.size, 0, none⟩ = some (.int .i64 0) := cell_of hb 0
  have y1 : W.cell? ⟨w.heap.size, 1, none⟩ = some (.slice none 0 0) := cell_of hb 1
  have y2 : W.cell? ⟨w.heap.size, 2, none⟩ = some (.int .i64 0) := cell_of hb 2
  have y3 : W.cell? ⟨w.heap.size, 3, none⟩ = some (.int .i64 0) := cell_of hb 3
  have y4 : W.cell? ⟨w.heap.size, 4, none⟩ = some (.int .i64 0) := cell_of hb 4
  have y5 : W.cell? ⟨w.heap.size, 5, none⟩ = some (.int .i64 0) := cell_of hb 5
  refine bodyPost_ret (by simp [results, Try.results19, go_sem, y0, y1, y2, y3, y4, y5]; try rfl) rfl ?_
  exact ⟨rfl, rfl⟩
def JnP (w : World) (m : Int) (e : Ending) (w' : World) : Prop := ∃ sa c, e = .returned (.tuple #[.agg #[.int .i64 1, .int .i64 0, .int .i64 1, .slice sa 1 c, .int .i64 0, .int .i64 0], .bool true, .int .i64 0]) ∧ IL w' (.slice sa 1 c) [m] ∧ Below w.heap.size w w'
theorem insert_nil (m : Int) (w : World) {vb : Nat} (hv : w.cell? ⟨vb, 0, none⟩ = some (.int .i64 m)) : Calls Try.prog 26 #[.slice none 0 0, .int .i64 0, .slice (some ⟨vb, 0, none⟩) 1 1] w fun e w' => ∃ sa c, e = .returned (.slice sa 1 c) ∧ IL w' (.slice sa 1 c) [m] ∧ New w (.slice sa 1 c) ∧ Below w.heap.size w w' := by
  have K := Any2.slices_Insert_int_end_grow Try.lays221 none 0 0 vb 0 1 1 [] [.int .i64 m] w (by decide) (Nat.le_refl _) (by decide) (by decide) rfl rfl (fun _ => rfl) (fun a h => by cases h) (fun j v hj => by
    match j, hj with
    | 0, hj => cases hj; exact hv) (fun v hv => by rw [List.mem_singleton] at hv; subst hv; rfl)
  change Calls Try.prog 26 _ _ _ at K
  refine K.mono ?_
  rintro e w' ⟨rfl, rfl⟩
  refine ⟨_, _, rfl, ?_, fun k hk => ?_, Below.alloc (Below.drew (Below.refl _ _)) (Nat.le_refl _) _⟩
  · refine ⟨rfl, .inr ⟨w.heap.size, _, _, rfl, Nat.zero_le _, heap_new w.drew _, grownCap_ge w 1 0 _, grownCap_le_maxLen w 1 0 _ (by unfold maxLen; omega), ?_, ?_⟩⟩
    · simp only [Array.size_append, size_zeroCells]
      simp [Value.cells]
      exact Nat.add_sub_cancel' (grownCap_ge w 1 0 _)
    · simp [ints]
  · have : some w.heap.size = some k := hk
    cases this; exact Nat.le_refl _
set_option maxRecDepth 100000 in
set_option maxHeartbeats 2000000 in
theorem join_new {w : World} {sb : Nat} (h : w.heap[sb]? = some (.cells #[.map none, .map none] 52)) (m : Int) (hm : 0 ≤ m) : Calls Try.prog 14 #[.pointer (some ⟨sb, 0, none⟩), .int .i64 0, .int .i64 m, .bool true] w fun e w' => JnP w m e w' := by
  have b0 : Below w.heap.size w (w.alloc (.cells #[.int .i64 0, .int .i64 0, .int .i64 0, .slice none 0 0, .int .i64 0, .int .i64 0] 29)) := (Below.refl _ _).alloc (Nat.le_refl _) _
  have h0 := heap_new w (.cells #[.int .i64 0, .int .i64 0, .int .i64 0, .slice none 0 0, .int .i64 0, .int .i64 0] 29)
  have KN := hide (named_new (heap_old (.cells #[.int .i64 0, .int .i64 0, .int .i64 0, .slice none 0 0, .int .i64 0, .int .i64 0] 29) h))
  have B0 := hide b0
  have H0 := hide h0
  have hmz : ¬ m < 0 := by omega
  clear h b0 h0
  go_enter Try.func14, Try.ntmps14
  go_wp2_with fail
  refine (unhide KN).mono ?_
  rintro e w1 ⟨rfl, rfl⟩
  have B2 : Hid (Below w.heap.size w (((w.alloc (.cells #[.int .i64 0, .int .i64 0, .int .i64 0, .slice none 0 0, .int .i64 0, .int .i64 0] 29)).alloc (.cells #[.int .i64 0, .slice none 0 0, .int .i64 0, .int .i64 0, .int .i64 0, .int .i64 0] 61)).alloc (.cells #[.int .i64 0, .slice none 0 0, .int .i64 0, .int .i64 0, .int .i64 0, .int .i64 0] 61))) := ((unhide B0).alloc (unhide B0).size _).alloc (by simp; omega) _
  have HB2 : Hid ((((w.alloc (.cells #[.int .i64 0, .int .i64 0, .int .i64 0, .slice none 0 0, .int .i64 0, .int .i64 0] 29)).alloc (.cells #[.int .i64 0, .slice none 0 0, .int .i64 0, .int .i64 0, .int .i64 0, .int .i64 0] 61)).alloc (.cells #[.int .i64 0, .slice none 0 0, .int .i64 0, .int .i64 0, .int .i64 0, .int .i64 0] 61)).heap[w.heap.size]? = some (.cells #[.int .i64 0, .int .i64 0, .int .i64 0, .slice none 0 0, .int .i64 0, .int .i64 0] 29)) := heap_old _ (heap_old _ (unhide H0))
  have HT2 : Hid ((((w.alloc (.cells #[.int .i64 0, .int .i64 0, .int .i64 0, .slice none 0 0, .int .i64 0, .int .i64 0] 29)).alloc (.cells #[.int .i64 0, .slice none 0 0, .int .i64 0, .int .i64 0, .int .i64 0, .int .i64 0] 61)).alloc (.cells #[.int .i64 0, .slice none 0 0, .int .i64 0, .int .i64 0, .int .i64 0, .int .i64 0] 61)).heap[w.heap.size + 2]? = some (.cells #[.int .i64 0, .slice none 0 0, .int .i64 0, .int .i64 0, .int .i64 0, .int .i64 0] 61)) := by
    have := heap_new ((w.alloc (.cells #[.int .i64 0, .int .i64 0, .int .i64 0, .slice none 0 0, .int .i64 0, .int .i64 0] 29)).alloc (.cells #[.int .i64 0, .slice none 0 0, .int .i64 0, .int .i64 0, .int .i64 0, .int .i64 0] 61)) (.cells #[.int .i64 0, .slice none 0 0, .int .i64 0, .int .i64 0, .int .i64 0, .int .i64 0] 61)
    simp only [World.size_alloc] at this
    exact this
  clear KN B0 H0
  obtain ⟨gb, hgb⟩ : ∃ y, w.heap.size + 2 = y := ⟨_, rfl⟩
  rw [hgb] at HT2
  go_upto_region 2 with fail
  generalize ((w.alloc (.cells #[.int .i64 0, .int .i64 0, .int .i64 0, .slice none 0 0, .int .i64 0, .int .i64 0] 29)).alloc (.cells #[.int .i64 0, .slice none 0 0, .int .i64 0, .int .i64 0, .int .i64 0, .int .i64 0] 61)).alloc (.cells #[.int .i64 0, .slice none 0 0, .int .i64 0, .int .i64 0, .int .i64 0, .int .i64 0] 61) = V at *
  try rw [hgb]
  clear hgb
  have g0 : V.cell? ⟨gb, 0, none⟩ = some (.int .i64 0) := cell_of (unhide HT2) 0
  have g1 : V.cell? ⟨gb, 1, none⟩ = some (.slice none 0 0) := cell_of (unhide HT2) 1
  have KS := hide (search_nil m V)
  go_wp2_with fail
  refine (unhide KS).mono ?_
  rintro e w3 ⟨rfl, t3⟩
  have B3 : Hid (Below w.heap.size w w3) := (unhide B2).trans ⟨t3.os, t3.tape, t3.output, t3.size, fun j hj => t3.block j (Nat.lt_of_lt_of_le hj (unhide B2).size) (fun h => h)⟩
  have HB3 := hide (t3.keep (unhide HB2) (fun h => h))
  have HT3 := hide (t3.keep (unhide HT2) (fun h => h))
  clear t3 KS B2 HB2 HT2 g0 g1
  have g0 : w3.cell? ⟨gb, 0, none⟩ = some (.int .i64 0) := cell_of (unhide HT3) 0
  have g1 : w3.cell? ⟨gb, 1, none⟩ = some (.slice none 0 0) := cell_of (unhide HT3) 1
  have KC := Any.slices_Clone_int_nil Try.lays215 0 0 w3
  change Calls Try.prog 24 _ _ _ at KC
  have KCH := hide KC
  clear KC
  go_wp2_with fail
  refine (unhide KCH).mono ?_
  rintro e w4 ⟨rfl, hw4⟩
  obtain rfl : w3 = w4 := hw4.symm
  clear hw4
  have bA : Below w3.heap.size w3 (w3.alloc (.cells #[.int .i64 m] 3)) := (Below.refl _ _).alloc (Nat.le_refl _) _
  have KI := hide (insert_nil m (w3.alloc (.cells #[.int .i64 m] 3)) (vb := w3.heap.size) (by rw [cell_of (heap_new w3 _)]; rfl))
  go_wp2_with fail
  refine (unhide KI).mono ?_
  rintro e w6 ⟨ra, rc, rfl, i6, n6, b6⟩
  have HB6 := hide (below_keep b6 (heap_old _ (unhide HB3)))
  have HT6 := hide (below_keep b6 (heap_old _ (unhide HT3)))
  have B6 : Hid (Below w.heap.size w w6) := ((unhide B3).trans (bA.mono (unhide B3).size)).trans (b6.mono (by have := (unhide B3).size; simp; omega))
  have I6 := hide i6
  have N6 : Hid (∀ k, (Value.slice ra 1 rc).ownBlock = some k → w.heap.size < k) := fun k hk => by have h1 := n6 k hk; have h2 := lt_of_heap (unhide HB3); simp at h1; omega
  clear i6 n6 b6 bA KI KCH HB3 HT3 B3 g0 g1
  have g0 : w6.cell? ⟨gb, 0, none⟩ = some (.int .i64 0) := cell_of (unhide HT6) 0
  have x0 : w6.cell? ⟨w.heap.size, 0, none⟩ = some (.int .i64 0) := cell_of (unhide HB6) 0
  have fx0 : w6.frozen? ⟨w.heap.size, 0, none⟩ = false := frozen_of (unhide HB6) 0
  have x1 : w6.cell? ⟨w.heap.size, 1, none⟩ = some (.int .i64 0) := cell_of (unhide HB6) 1
  have fx1 : w6.frozen? ⟨w.heap.size, 1, none⟩ = false := frozen_of (unhide HB6) 1
  have x2 : w6.cell? ⟨w.heap.size, 2, none⟩ = some (.int .i64 0) := cell_of (unhide HB6) 2
  have fx2 : w6.frozen? ⟨w.heap.size, 2, none⟩ = false := frozen_of (unhide HB6) 2
  have x3 : w6.cell? ⟨w.heap.size, 3, none⟩ = some (.slice none 0 0) := cell_of (unhide HB6) 3
  have fx3 : w6.frozen? ⟨w.heap.size, 3, none⟩ = false := frozen_of (unhide HB6) 3
  have x4 : w6.cell? ⟨w.heap.size, 4, none⟩ = some (.int .i64 0) := cell_of (unhide HB6) 4
  have fx4 : w6.frozen? ⟨w.heap.size, 4, none⟩ = false := frozen_of (unhide HB6) 4
  have x5 : w6.cell? ⟨w.heap.size, 5, none⟩ = some (.int .i64 0) := cell_of (unhide HB6) 5
  have fx5 : w6.frozen? ⟨w.heap.size, 5, none⟩ = false := frozen_of (unhide HB6) 5
  go_wp2
  obtain ⟨z1, z2⟩ := set6 (unhide HB6) rfl (.int .i64 1) (.int .i64 0) (.int .i64 1) (.slice ra 1 rc) (.int .i64 0) (.int .i64 0)
  have BT : Hid (Below w.heap.size w ((((((w6.setCell ⟨w.heap.size, 0, none⟩ (.int .i64 1)).setCell ⟨w.heap.size, 1, none⟩ (.int .i64 0)).setCell ⟨w.heap.size, 2, none⟩ (.int .i64 1)).setCell ⟨w.heap.size, 3, none⟩ (.slice ra 1 rc)).setCell ⟨w.heap.size, 4, none⟩ (.int .i64 0)).setCell ⟨w.heap.size, 5, none⟩ (.int .i64 0))) := below_touch (unhide B6) z2 (unhide B6).size (fun k hk => by omega)
  have IT : Hid (IL ((((((w6.setCell ⟨w.heap.size, 0, none⟩ (.int .i64 1)).setCell ⟨w.heap.size, 1, none⟩ (.int .i64 0)).setCell ⟨w.heap.size, 2, none⟩ (.int .i64 1)).setCell ⟨w.heap.size, 3, none⟩ (.slice ra 1 rc)).setCell ⟨w.heap.size, 4, none⟩ (.int .i64 0)).setCell ⟨w.heap.size, 5, none⟩ (.int .i64 0)) (.slice ra 1 rc) [m]) := (unhide I6).keep z2 (fun k hk e => by have := unhide N6 k hk; omega)
  clear z2 HB6 x0 fx0 x1 fx1 x2 fx2 x3 fx3 x4 fx4 x5 fx5
  generalize ((((((w6.setCell ⟨w.heap.size, 0, none⟩ (.int .i64 1)).setCell ⟨w.heap.size, 1, none⟩ (.int .i64 0)).setCell ⟨w.heap.size, 2, none⟩ (.int .i64 1)).setCell ⟨w.heap.size, 3, none⟩ (.slice ra 1 rc)).setCell ⟨w.heap.size, 4, none⟩ (.int .i64 0)).setCell ⟨w.heap.size, 5, none⟩ (.int .i64 0)) = WW at *
  have y0 : WW.cell? ⟨w.heap.size, 0, none⟩ = some (.int .i64 1) := cell_of z1 0
  have y1 : WW.cell? ⟨w.heap.size, 1, none⟩ = some (.int .i64 0) := cell_of z1 1
  have y2 : WW.cell? ⟨w.heap.size, 2, none⟩ = some (.int .i64 1) := cell_of z1 2
  have y3 : WW.cell? ⟨w.heap.size, 3, none⟩ = some (.slice ra 1 rc) := cell_of z1 3
  have y4 : WW.cell? ⟨w.heap.size, 4, none⟩ = some (.int .i64 0) := cell_of z1 4
  have y5 : WW.cell? ⟨w.heap.size, 5, none⟩ = some (.int .i64 0) := cell_of z1 5
  refine bodyPost_ret (by simp [results, Try.results14, go_sem, y0, y1, y2, y3, y4, y5]; try rfl) rfl ?_
  exact ⟨ra, rc, rfl, unhide IT, unhide BT⟩
end Go.Proofs.Ytfbnkeflgddcmaa
