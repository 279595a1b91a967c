/-
  EpochsNone, walked. No conditions.
-/
import Derived.Test.YtfpcocagifmpbaaAw10
namespace Go.Proofs.Ytfpcocagifmpbaa
open Go.RowKit Go.Shelf
set_option linter.unusedVariables false
attribute [local go_sem] Oper.semAt_some

set_option maxRecDepth 100000 in
set_option maxHeartbeats 2000000 in
theorem epochsNone_walk (p q : Int) (w : World) :
    Calls Try.prog 8 #[.int .i64 p, .int .i64 q] w fun e w' => e = .returned (.bool true) ∧ Below w.heap.size w w' := by
  refine (callsIn_wide (n := 3)).1 ?_
  refine callsIn_of_wp_marks Try.func8 rfl trivial ?_ rfl
  simp only [Try.ntmps8, List.size_toArray, List.length_cons, List.length_nil, Nat.reduceAdd, Nat.reduceSub, Array.replicate_succ, Array.replicate_zero, List.push_toArray, List.append_toArray, List.nil_append, List.cons_append]
  gi_wp2_with fail
  refine ⟨trivial, (callsIn_wide.2 (awake10_any w)).mono ?_⟩
  rintro e w1 ⟨rfl, b1⟩
  have B1 := hide b1
  clear b1
  gi_wp2_with fail
  refine ⟨trivial, (callsIn_wide.2 (cut_nil10 p w1)).mono ?_⟩
  rintro e w2 ⟨rfl, rfl⟩
  gi_wp2_with fail
  refine ⟨trivial, (callsIn_wide.2 (last_nil10 w2)).mono ?_⟩
  rintro e w3 ⟨rfl, b3⟩
  have B3 := hide ((unhide B1).trans (b3.mono (unhide B1).size))
  clear b3 B1
  gi_wp2_with fail
  refine ⟨trivial, (callsIn_wide.2 (end_nil10 p q w3)).mono ?_⟩
  rintro e w4 ⟨rfl, b4⟩
  have B4 := hide ((unhide B3).trans (b4.mono (unhide B3).size))
  clear b4 B3
  gi_wp2_with fail
  refine ⟨trivial, (callsIn_wide.2 (all_nil10 _)).mono ?_⟩
  rintro e w5 ⟨v5, rfl, x5, r5, b5⟩
  have bI := (Boxed.new w4 3 (.int .i64 0))
  have cI : w5.cell? ⟨w4.heap.size, 0, none⟩ = some (.int .i64 0) := (b5.cell (p := ⟨w4.heap.size, 0, none⟩) (by simp)).trans bI.cell
  have fI : w5.frozen? ⟨w4.heap.size, 0, none⟩ = false := by
    unfold World.frozen?; rw [b5.block _ (by simp)]; exact bI.frozen
  have h45 : w4.heap.size < w5.heap.size := by have := b5.size; simp at this; omega
  have B5 : Below w.heap.size w w5 := (unhide B4).trans (((Below.refl _ w4).alloc (Nat.le_refl _) _).mono (unhide B4).size |>.trans (b5.mono (by have := (unhide B4).size; simp; omega)))
  have hw4 : w.heap.size ≤ w4.heap.size := (unhide B4).size
  clear B4 b5 bI
  rw [World.size_alloc] at x5 r5
  gi_wp2_with fail
  refine wpIn_rangeFunc_ownG rfl (by omega) (gf := 22) (lb := #[.pointer (some ⟨w4.heap.size + 1, 0, none⟩)]) rfl trivial (enters_of Try.func22 (by kernel_rfl) rfl)
    (alls Fence.wide _ trivial rfl (by omega) (w4.heap.size + 1) v5 [] w5 x5 r5 (by simp)) Keep.trans (Keep.put (Nat.le_refl _)) (Below.refl _ _) (fun _ => rfl)
    (fun pre W => (W.cell? ⟨w4.heap.size, 0, none⟩ = some (.int .i64 0) ∧ W.frozen? ⟨w4.heap.size, 0, none⟩ = false) ∧ Below w.heap.size w W)
    (fun _ _ _ => False)
    (OwnFrom.and (Own.from (fun s A B row hs hg hr => ⟨cell_kept hs.1 hg hr, (frozen_kept hs.1 hg hr).trans hs.2⟩) _) (ownFrom_below (Nat.le_refl _) (by omega)))
    (fun _ _ _ _ _ hs _ _ => hs)
    ⟨⟨cI, fI⟩, B5⟩
    ?a1 ?assign ?body ?done ?stop
  case assign =>
    intro l x W K hK
    gi_wp2
    exact hK
  case body =>
    rintro l pre x W ⟨⟨hc, hf⟩, hB⟩ hlt
    simp at hlt
  case done =>
    rintro D ys W hD rfl ⟨⟨hc, _⟩, hB⟩ hK
    have HB := hide hB
    have HK := hide hK
    clear hB hK
    gi_wp2_with fail
    refine ⟨trivial, (callsIn_wide.2 (assign_nil10 p q W)).mono ?_⟩
    rintro e W6 ⟨rfl, rfl⟩
    gi_wp2
    refine ⟨by simp, .inl ⟨_, _, rfl, run_takeDeferred (unhide HK), ?_⟩⟩
    exact ⟨_, results_tmp rfl _ _ _, rfl, (unhide HB).trans (belowK_b (w := w) (Nat.le_refl _) _ D _ _ (by omega) (unhide HK) rfl rfl)⟩
  case stop =>
    rintro D c pre W _ _ h _
    exact h.elim
end Go.Proofs.Ytfpcocagifmpbaa
