/-
  net's remove, Drop. Conditions: the net is one.
-/
import Derived.Test.YtgpfkedihgoohaaNt5
namespace Go.Proofs.Ytgpfkedihgoohaa
open Go.RowKit
set_option linter.unusedVariables false

theorem flat_erase : ∀ (ps : List Pk) (k : Nat), k < ps.length → (ps.flatMap pkC).take (k * 3) ++ (ps.flatMap pkC).drop ((k + 1) * 3) = (ps.eraseIdx k).flatMap pkC := by
  intro ps
  induction ps with
  | nil => intro k hk; cases hk
  | cons p r ih =>
    intro k hk
    cases k with
    | zero => simp [pkC]
    | succ k =>
      have h1 : (k + 1) * 3 = (k * 3) + 3 := by omega
      have h2 : (k + 1 + 1) * 3 = (k + 1) * 3 + 3 := by omega
      have := ih k (by simpa using hk)
      rw [h2, h1, List.eraseIdx_cons_succ, List.flatMap_cons, List.flatMap_cons, ← this]
      simp [pkC]
      omega
theorem flat_one (ps : List Pk) : ∀ u ∈ ps.flatMap pkC, u.oneCell' = true := by
  intro u hu
  obtain ⟨p, _, h⟩ := List.mem_flatMap.1 hu
  exact pkC_one p u h
/-- What remove leaves. -/
def RmPost (w : World) (nb : Nat) (v : Value) (ps : List Pk) (k : Nat) (hk : k < ps.length) (us : List Value) (T : TypeId) (e : Ending) (w' : World) : Prop :=
  e = .returned (pkV ps[k]) ∧ ∃ v', w'.heap[nb]? = some (.cells (v' :: us).toArray T) ∧ Wide w' 33 3 v' (ps.eraseIdx k).length ((ps.eraseIdx k).flatMap pkC) ∧ Touch (fun k => k = nb ∨ v.ownBlock = some k) w w' ∧ v'.ownBlock = v.ownBlock
set_option maxRecDepth 100000 in
set_option maxHeartbeats 2000000 in
theorem remove_any {w : World} {nb : Nat} {v : Value} {us : List Value} {T : TypeId} {ps : List Pk} (h : w.heap[nb]? = some (.cells (v :: us).toArray T)) (hr : PL w v ps) (hT : T ≠ 33) {k : Nat} (hk : k < ps.length) :
    Calls Try.prog 31 #[.pointer (some ⟨nb, 0, none⟩), .int .i64 (k : Int)] w fun e w' => RmPost w nb v ps k hk us T e w' := by
  have hne : v.ownBlock ≠ some nb := fun e => by
    obtain ⟨cs, hc⟩ := hr.row.heap e
    rw [h] at hc
    exact hT (Obj.cells.inj (Option.some.inj hc)).2.1
  have hnb := lt_of_heap h
  obtain ⟨g, cap, rfl, hg, hcap, hmax, y0, y1, y2⟩ := hr.at_ hk
  have hgn : g ≠ nb := fun e => hne (by rw [← e]; rfl)
  unfold maxLen at hmax
  have hkl : (k : Int) < (ps.length : Int) := by omega
  have hz : (0 : Int) ≤ (k : Int) := by omega
  have hw1 : IntKind.i64.wrap ((k : Int) + 1) = (k : Int) + 1 := wrap_low (by omega) (by omega)
  obtain ⟨p, hp⟩ : ∃ p, ps[k] = p := ⟨_, rfl⟩
  rw [hp] at y0 y1 y2
  have HP := hide hp
  clear hp
  obtain ⟨fr, to, a, c, l⟩ := p
  simp only [pkS] at y0 y1 y2
  have hA : Below w.heap.size w (w.alloc (.cells #[.int .i64 0, .int .i64 0, .slice none 0 0] 33)) := (Below.refl _ _).alloc (Nat.le_refl _) _
  have hB : Below w.heap.size w ((w.alloc (.cells #[.int .i64 0, .int .i64 0, .slice none 0 0] 33)).alloc (.cells #[.int .i64 fr, .int .i64 to, .slice a l.length c] 33)) := hA.alloc (by simp) _
  have c0 : w.cell? ⟨nb, 0, none⟩ = some (.slice (some ⟨g, 0, none⟩) ps.length cap) := by rw [cell_of h]; simp
  have k0 := (hA.cell (p := ⟨nb, 0, none⟩) hnb).trans c0
  have j0 := (hB.cell (p := ⟨nb, 0, none⟩) hnb).trans c0
  have z0 := (hA.cell (p := ⟨g, k * 3, none⟩) hg).trans y0
  have z1 := (hA.cell (p := ⟨g, k * 3 + 1, none⟩) hg).trans y1
  have z2 := (hA.cell (p := ⟨g, k * 3 + 2, none⟩) hg).trans y2
  have G0 : Hid (((w.alloc (.cells #[.int .i64 0, .int .i64 0, .slice none 0 0] 33)).alloc (.cells #[.int .i64 fr, .int .i64 to, .slice a l.length c] 33)).heap[w.heap.size]? = some (.cells #[.int .i64 0, .int .i64 0, .slice none 0 0] 33)) := heap_old _ (heap_new _ _)
  have G1 : Hid (((w.alloc (.cells #[.int .i64 0, .int .i64 0, .slice none 0 0] 33)).alloc (.cells #[.int .i64 fr, .int .i64 to, .slice a l.length c] 33)).heap[w.heap.size + 1]? = some (.cells #[.int .i64 fr, .int .i64 to, .slice a l.length c] 33)) := by
    have := heap_new (w.alloc (.cells #[.int .i64 0, .int .i64 0, .slice none 0 0] 33)) (.cells #[.int .i64 fr, .int .i64 to, .slice a l.length c] 33)
    rw [World.size_alloc] at this
    exact this
  have GB := hide (below_keep hB h)
  have DL := hide (delete_any (hr.row.later hB) hk (flat_one ps))
  have HB := hide hB
  have hle : Hid ((ps.eraseIdx k).length = ps.length - 1) := by show _ = _; rw [List.length_eraseIdx, if_pos hk]
  have FX : Hid (∀ W w2 w5, Below w.heap.size w W → W.heap[nb]? = some (.cells (Value.slice (some ⟨g, 0, none⟩) ps.length cap :: us).toArray T) → W.heap[w.heap.size]? = some (.cells #[.int .i64 0, .int .i64 0, .slice none 0 0] 33) → W.heap[w.heap.size + 1]? = some (.cells #[.int .i64 fr, .int .i64 to, .slice a l.length c] 33) →
      DlPost W g ps.length cap k (ps.flatMap pkC) (.returned (.slice (some ⟨g, 0, none⟩) (ps.length - 1) cap)) w2 →
      w5 = (((w2.setCell ⟨nb, 0, none⟩ (.slice (some ⟨g, 0, none⟩) (ps.length - 1) cap)).setCell ⟨w.heap.size, 0, none⟩ (.int .i64 fr)).setCell ⟨w.heap.size, 1, none⟩ (.int .i64 to)).setCell ⟨w.heap.size, 2, none⟩ (.slice a l.length c) →
      w5.heap[w.heap.size]? = some (.cells #[.int .i64 fr, .int .i64 to, .slice a l.length c] 33) ∧ RmPost w nb (.slice (some ⟨g, 0, none⟩) ps.length cap) ps k hk us T (.returned (.agg #[.int .i64 fr, .int .i64 to, .slice a l.length c])) w5) := fun W w2 w5 hW gb g0 g1 dl h5 => by
    subst h5
    obtain ⟨_, d2, d3⟩ := dl
    have g0' := (touch_set w2 nb 0 (.slice (some ⟨g, 0, none⟩) (ps.length - 1) cap)).keep (d3.keep g0 (show ¬ w.heap.size = g by omega)) (show ¬ w.heap.size = nb by omega)
    have T3 : Touch (fun k => k = w.heap.size) (w2.setCell ⟨nb, 0, none⟩ (.slice (some ⟨g, 0, none⟩) (ps.length - 1) cap)) ((((w2.setCell ⟨nb, 0, none⟩ (.slice (some ⟨g, 0, none⟩) (ps.length - 1) cap)).setCell ⟨w.heap.size, 0, none⟩ (.int .i64 fr)).setCell ⟨w.heap.size, 1, none⟩ (.int .i64 to)).setCell ⟨w.heap.size, 2, none⟩ (.slice a l.length c)) := (((Touch.refl (fun k => k = w.heap.size) _).setCell (p := ⟨w.heap.size, 0, none⟩) rfl _).setCell (p := ⟨w.heap.size, 1, none⟩) rfl _).setCell (p := ⟨w.heap.size, 2, none⟩) rfl _
    have ts := touch_set w2 nb 0 (.slice (some ⟨g, 0, none⟩) (ps.length - 1) cap)
    refine ⟨set3 g0' _ _ _, ?_, .slice (some ⟨g, 0, none⟩) (ps.length - 1) cap, ?_, ?_, ?_, rfl⟩
    · rw [unhide HP]
    · have := heap_set (d3.keep gb (show ¬ nb = g by omega)) 0 (.slice (some ⟨g, 0, none⟩) (ps.length - 1) cap)
      refine T3.keep ?_ (show ¬ nb = w.heap.size by omega)
      simpa using this
    · rw [unhide hle, ← flat_erase ps k hk]
      refine Wide.keep (Wide.keep d2 ts (fun j hj e => ?_)) T3 (fun j hj e => ?_)
      · have : g = j := by simpa [Value.ownBlock] using hj
        omega
      · have : g = j := by simpa [Value.ownBlock] using hj
        omega
    · have T5 : Touch (fun j => j = nb ∨ (Value.slice (some ⟨g, 0, none⟩) ps.length cap).ownBlock = some j) w (w2.setCell ⟨nb, 0, none⟩ (.slice (some ⟨g, 0, none⟩) (ps.length - 1) cap)) :=
        ((Touch.of_below hW).trans (d3.mono (fun j hj => .inr (by rw [hj]; rfl)))).trans (ts.mono (fun j hj => .inl hj))
      refine ⟨T3.os.trans T5.os, T3.tape.trans T5.tape, T3.output.trans T5.output, Nat.le_trans T5.size T3.size, fun j hj hs => ?_⟩
      rw [T3.block j (Nat.lt_of_lt_of_le hj T5.size) (show ¬ j = w.heap.size by omega)]
      exact T5.block j hj hs
  clear hA hB h hr y0 y1 y2 c0 HP hle
  generalize l.length = m at *
  go_enter Try.func31, Try.ntmps31
  go_wp2_with fail
  generalize (w.alloc (.cells #[.int .i64 0, .int .i64 0, .slice none 0 0] 33)).alloc (.cells #[.int .i64 fr, .int .i64 to, .slice a m c] 33) = W at *
  refine (unhide DL).mono ?_
  rintro e w2 dl
  obtain ⟨rfl, d2, d3⟩ := id dl
  have F5 := hide (fun w5 => unhide FX W w2 w5 (unhide HB) (unhide GB) (unhide G0) (unhide G1) dl)
  have g0 := d3.keep (unhide G0) (show ¬ w.heap.size = g by omega)
  have g1 := d3.keep (unhide G1) (show ¬ w.heap.size + 1 = g by omega)
  have gb := d3.keep (unhide GB) (show ¬ nb = g by omega)
  have x0 : w2.cell? ⟨w.heap.size + 1, 0, none⟩ = some (.int .i64 fr) := by rw [cell_of g1]; rfl
  have x1 : w2.cell? ⟨w.heap.size + 1, 1, none⟩ = some (.int .i64 to) := by rw [cell_of g1]; rfl
  have x2 : w2.cell? ⟨w.heap.size + 1, 2, none⟩ = some (.slice a m c) := by rw [cell_of g1]; rfl
  have u0 : w2.cell? ⟨w.heap.size, 0, none⟩ = some (.int .i64 0) := by rw [cell_of g0]; rfl
  have u1 : w2.cell? ⟨w.heap.size, 1, none⟩ = some (.int .i64 0) := by rw [cell_of g0]; rfl
  have u2 : w2.cell? ⟨w.heap.size, 2, none⟩ = some (.slice none 0 0) := by rw [cell_of g0]; rfl
  have e0 : w2.frozen? ⟨w.heap.size, 0, none⟩ = false := frozen_of g0 0
  have e1 : w2.frozen? ⟨w.heap.size, 1, none⟩ = false := frozen_of g0 1
  have e2 : w2.frozen? ⟨w.heap.size, 2, none⟩ = false := frozen_of g0 2
  have b0 : w2.cell? ⟨nb, 0, none⟩ = some (.slice (some ⟨g, 0, none⟩) ps.length cap) := by rw [cell_of gb]; simp
  have f0 : w2.frozen? ⟨nb, 0, none⟩ = false := frozen_of gb 0
  have ne1 : ¬ w.heap.size = nb := by omega
  have ne2 : ¬ nb = w.heap.size := by omega
  have ne3 : ¬ w.heap.size + 1 = nb := by omega
  have ne4 : ¬ nb = w.heap.size + 1 := by omega
  clear FX DL HB GB G0 G1 dl d2 d3 g0 g1 gb
  go_wp2
  obtain ⟨vg, vf⟩ := unhide F5 _ rfl
  generalize (((w2.setCell ⟨nb, 0, none⟩ (.slice (some ⟨g, 0, none⟩) (ps.length - 1) cap)).setCell ⟨w.heap.size, 0, none⟩ (.int .i64 fr)).setCell ⟨w.heap.size, 1, none⟩ (.int .i64 to)).setCell ⟨w.heap.size, 2, none⟩ (.slice a m c) = V at *
  have v0 := cell_of vg 0
  have v1 := cell_of vg 1
  have v2 := cell_of vg 2
  simp only [List.getElem?_toArray, List.getElem?_cons_zero, List.getElem?_cons_succ] at v0 v1 v2
  refine bodyPost_ret (by simp [results, Try.results31, go_sem, v0, v1, v2]; try rfl) rfl ?_
  exact vf
end Go.Proofs.Ytgpfkedihgoohaa
