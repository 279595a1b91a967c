/-
  net's Take. Conditions: the net is one; numbers within 64 bits.
-/
import Derived.Test.YtgpfkedihgoohaaNt7
namespace Go.Proofs.Ytgpfkedihgoohaa
open Go.RowKit
set_option linter.unusedVariables false

theorem NPost.mark {w W w' V : World} {nb : Nat} {R : Nat → Prop} {qs : List Pa} {D : Cts} (hR : ∀ k, R k → k < w.heap.size) (hW : Below w.heap.size w W) (hs : w.heap.size < W.heap.size) (h : NPost W nb R qs D w') (t : Touch (· = w.heap.size) w' V) : NPost w nb R qs D V := by
  obtain ⟨R', h1, h2, h3⟩ := h
  refine ⟨R', h1.keep t (fun k hk e => ?_), ?_, fun k hk => ?_⟩
  · rcases h3 k hk with e2 | e2
    · have := hR k e2; omega
    · omega
  · have T1 : Touch R w w' := (Touch.of_below hW).trans h2
    exact ⟨t.os.trans T1.os, t.tape.trans T1.tape, t.output.trans T1.output, Nat.le_trans T1.size t.size, fun k hk hs => (t.block k (Nat.lt_of_lt_of_le hk T1.size) (show ¬ k = w.heap.size by omega)).trans (T1.block k hk hs)⟩
  · rcases h3 k hk with e2 | e2
    · exact .inl e2
    · exact .inr (by omega)
theorem goes_ns {w : World} {nb : Nat} {R : Nat → Prop} {qs : List Pa} {D : Cts} (h : NS w nb R qs D) {p : Pk} (hf : InR p.fr) (ht : InR p.to) : Calls Try.prog 32 #[.pointer (some ⟨nb, 0, none⟩), pkV p] w fun e w' => e = .returned (.bool (!isC D p.fr p.to)) ∧ Below w.heap.size w w' := by
  obtain ⟨v, cm, ps, h1, h2, h3⟩ := h.ex
  exact goes_any h1 hf ht
/-- What Take tells. -/
def tkP (qs : List Pa) (D : Cts) (i : Int) : Pa := match qs[rnd i qs.length]? with | some q => (if isC D q.fr q.to then ⟨0, 0, []⟩ else q) | none => ⟨0, 0, []⟩
def tkB (qs : List Pa) (D : Cts) (i : Int) : Bool := match qs[rnd i qs.length]? with | some q => !isC D q.fr q.to | none => false
def TakePost (w : World) (nb : Nat) (R : Nat → Prop) (qs : List Pa) (D : Cts) (i : Int) (e : Ending) (w' : World) : Prop := ∃ p', e = .returned (.tuple #[pkV p', .bool (tkB qs D i)]) ∧ p'.abs = tkP qs D i ∧ PRow w' p' ∧ NPost w nb R (qs.eraseIdx (rnd i qs.length)) D w'
theorem take_nil (i : Int) (w : World) : Calls Try.prog 15 #[.pointer none, .int .i64 i] w fun e w' => e = .returned (.tuple #[pkV pk0, .bool false]) ∧ Below w.heap.size w w' := by
  have K := hide (place_nil i (w.alloc (.cells #[.int .i64 0, .int .i64 0, .slice none 0 0] 33)))
  have A : Hid (Below w.heap.size w (w.alloc (.cells #[.int .i64 0, .int .i64 0, .slice none 0 0] 33))) := (Below.refl _ _).alloc (Nat.le_refl _) _
  have hb := heap_new w (.cells #[.int .i64 0, .int .i64 0, .slice none 0 0] 33)
  have y0 := cell_of hb 0
  have y1 := cell_of hb 1
  have y2 := cell_of hb 2
  simp only [List.getElem?_toArray, List.getElem?_cons_zero, List.getElem?_cons_succ] at y0 y1 y2
  clear hb
  go_enter Try.func15, Try.ntmps15
  go_wp2_with fail
  refine (unhide K).mono ?_
  rintro e w1 ⟨rfl, rfl⟩
  clear K
  go_wp2
  refine bodyPost_ret (by simp [results, Try.results15, go_sem, y0, y1, y2]; try rfl) rfl ?_
  exact ⟨rfl, unhide A⟩
set_option maxRecDepth 100000 in
set_option maxHeartbeats 1000000 in
theorem take_none {w : World} {nb : Nat} {R : Nat → Prop} {D : Cts} (h : NS w nb R [] D) (i : Int) : Calls Try.prog 15 #[.pointer (some ⟨nb, 0, none⟩), .int .i64 i] w fun e w' => TakePost w nb R [] D i e w' := by
  have hA : Below w.heap.size w (w.alloc (.cells #[.int .i64 0, .int .i64 0, .slice none 0 0] 33)) := (Below.refl _ _).alloc (Nat.le_refl _) _
  have K := hide (place_none (h.later hA) i)
  have F : Hid (TakePost w nb R [] D i (.returned (.tuple #[.agg #[.int .i64 0, .int .i64 0, .slice none 0 0], .bool false])) (w.alloc (.cells #[.int .i64 0, .int .i64 0, .slice none 0 0] 33))) := ⟨pk0, rfl, rfl, PRow.zero _, h.post hA⟩
  have hb := heap_new w (.cells #[.int .i64 0, .int .i64 0, .slice none 0 0] 33)
  have y0 := cell_of hb 0
  have y1 := cell_of hb 1
  have y2 := cell_of hb 2
  simp only [List.getElem?_toArray, List.getElem?_cons_zero, List.getElem?_cons_succ] at y0 y1 y2
  clear hb h hA
  go_enter Try.func15, Try.ntmps15
  go_wp2_with fail
  refine (unhide K).mono ?_
  rintro e w1 ⟨rfl, rfl⟩
  clear K
  go_wp2
  refine bodyPost_ret (by simp [results, Try.results15, go_sem, y0, y1, y2]; try rfl) rfl ?_
  exact unhide F
set_option maxRecDepth 100000 in
set_option maxHeartbeats 2000000 in
theorem take_some {w : World} {nb : Nat} {R : Nat → Prop} {qs : List Pa} {D : Cts} (h : NS w nb R qs D) (h0 : 0 < qs.length) (i : Int) (hi : InR i) : Calls Try.prog 15 #[.pointer (some ⟨nb, 0, none⟩), .int .i64 i] w fun e w' => TakePost w nb R qs D i e w' := by
  have hA : Below w.heap.size w (w.alloc (.cells #[.int .i64 0, .int .i64 0, .slice none 0 0] 33)) := (Below.refl _ _).alloc (Nat.le_refl _) _
  have G0 : Hid ((w.alloc (.cells #[.int .i64 0, .int .i64 0, .slice none 0 0] 33)).heap[w.heap.size]? = some (.cells #[.int .i64 0, .int .i64 0, .slice none 0 0] 33)) := heap_new _ _
  have hsz : w.heap.size < (w.alloc (.cells #[.int .i64 0, .int .i64 0, .slice none 0 0] 33)).heap.size := by simp
  have hlt := h.lt
  have hN := h.later hA
  have K := hide (place_some hN h0 i hi)
  obtain ⟨v, cm, ps, h1, rfl, h3⟩ := hN.ex
  obtain ⟨k, hke⟩ : ∃ k, k = rnd i (ps.map Pk.abs).length := ⟨_, rfl⟩
  have hk : k < ps.length := by rw [hke]; have := rnd_lt i h0; simpa using this
  rw [← hke] at K
  have RM := hide (remove_any (us := [.map cm]) h1.box h1.list (by decide) hk)
  have hin := (h1.list.each _ (List.getElem_mem hk)).in_
  have hq : (ps.map Pk.abs)[rnd i (ps.map Pk.abs).length]? = some ps[k].abs := by rw [← hke, List.getElem?_map, List.getElem?_eq_getElem hk]; rfl
  have hTB : tkB (ps.map Pk.abs) D i = !isC D ps[k].fr ps[k].to := by unfold tkB; rw [hq]
  have hTP : tkP (ps.map Pk.abs) D i = (if isC D ps[k].fr ps[k].to then ⟨0, 0, []⟩ else ps[k].abs) := by unfold tkP; rw [hq]
  have RB : Hid (∀ j, (pkS ps[k]).ownBlock = some j → j < w.heap.size) := fun j hj => hlt j (h3 j (.inr (.inr (.inr ⟨_, List.getElem_mem hk, hj⟩))))
  have PF : Hid (∀ e w', RmPost (w.alloc (.cells #[.int .i64 0, .int .i64 0, .slice none 0 0] 33)) nb v ps k hk [.map cm] 56 e w' → NPost (w.alloc (.cells #[.int .i64 0, .int .i64 0, .slice none 0 0] 33)) nb R ((ps.map Pk.abs).eraseIdx k) D w' ∧ PRow w' ps[k]) := fun e w' hr => rm_post h1 h3 hr
  have hnw : ∀ j, (j = nb ∨ v.ownBlock = some j) → j < w.heap.size := fun j hj => hlt j (h3 j (hj.elim (fun e => .inl e) (fun e => .inr (.inr (.inl e)))))
  have HNW := hide hnw
  have FX : Hid (∀ w4 V q, NPost (w.alloc (.cells #[.int .i64 0, .int .i64 0, .slice none 0 0] 33)) nb R ((ps.map Pk.abs).eraseIdx k) D w4 → PRow w4 ps[k] → Touch (· = w.heap.size) w4 V → (q = if isC D ps[k].fr ps[k].to then pk0 else ps[k]) → TakePost w nb R (ps.map Pk.abs) D i (.returned (.tuple #[pkV q, .bool (!isC D ps[k].fr ps[k].to)])) V) := fun w4 V q np pr t hq => by
    refine ⟨q, by rw [hTB], ?_, ?_, ?_⟩
    · rw [hTP, hq]; split <;> rfl
    · rw [hq]
      split
      · exact PRow.zero _
      · exact pr.keep t (fun j hj e => by have := unhide RB j hj; omega)
    · rw [← hke]
      exact NPost.mark hlt hA hsz np t
  have HF := hide hin.fr
  have HT := hide hin.to
  clear h h1 h3 hN hA hTB hTP hq hnw RB hin hlt h0 hke
  have GO : Hid (∀ X R' qs', NS X nb R' qs' D → Calls Try.prog 32 #[.pointer (some ⟨nb, 0, none⟩), pkV ps[k]] X fun e w' => e = .returned (.bool (!isC D ps[k].fr ps[k].to)) ∧ Below X.heap.size X w') := fun X R' qs' hX => goes_ns hX (unhide HF) (unhide HT)
  clear HF HT
  go_enter Try.func15, Try.ntmps15
  go_wp2_with fail
  generalize w.alloc (.cells #[.int .i64 0, .int .i64 0, .slice none 0 0] 33) = W at *
  refine (unhide K).mono ?_
  rintro e w1 ⟨rfl, rfl⟩
  clear K
  go_wp2_with fail
  refine (unhide RM).mono ?_
  rintro e w2 hr
  obtain ⟨np, pr⟩ := unhide PF e w2 hr
  obtain ⟨rfl, v', _, _, t2, _⟩ := hr
  have g2 := t2.keep (unhide G0) (fun hj => by have := unhide HNW _ hj; omega)
  clear t2 RM PF G0 HNW
  generalize ps[k] = p at *
  obtain ⟨fr, to, a, c, l⟩ := p
  simp only [pkV, pkS] at *
  have hB : Below w2.heap.size w2 (w2.alloc (.cells #[.int .i64 fr, .int .i64 to, .slice a l.length c] 33)) := (Below.refl _ _).alloc (Nat.le_refl _) _
  have NP3 := hide (np.later hB)
  have PR3 := hide (pr.later hB)
  have G3 := hide (below_keep hB g2)
  have G4 : Hid ((w2.alloc (.cells #[.int .i64 fr, .int .i64 to, .slice a l.length c] 33)).heap[w2.heap.size]? = some (.cells #[.int .i64 fr, .int .i64 to, .slice a l.length c] 33)) := heap_new _ _
  have hs2 : w.heap.size < w2.heap.size := lt_of_heap g2
  have x0 : (w2.alloc (.cells #[.int .i64 fr, .int .i64 to, .slice a l.length c] 33)).cell? ⟨w2.heap.size, 0, none⟩ = some (.int .i64 fr) := by rw [cell_of (unhide G4)]; rfl
  have x1 : (w2.alloc (.cells #[.int .i64 fr, .int .i64 to, .slice a l.length c] 33)).cell? ⟨w2.heap.size, 1, none⟩ = some (.int .i64 to) := by rw [cell_of (unhide G4)]; rfl
  have x2 : (w2.alloc (.cells #[.int .i64 fr, .int .i64 to, .slice a l.length c] 33)).cell? ⟨w2.heap.size, 2, none⟩ = some (.slice a l.length c) := by rw [cell_of (unhide G4)]; rfl
  clear hB np pr g2
  generalize hm : l.length = m at *
  have HM := hide hm
  clear hm
  generalize isC D fr to = cut at *
  go_wp2_with fail
  generalize w2.alloc (.cells #[.int .i64 fr, .int .i64 to, .slice a m c] 33) = w3 at *
  obtain ⟨R', ns, _⟩ := id (unhide NP3)
  refine (unhide GO _ _ _ ns).mono ?_
  rintro e w4 ⟨rfl, b4⟩
  have NP4 := hide ((unhide NP3).later b4)
  have PR4 := hide ((unhide PR3).later b4)
  have g4 := below_keep b4 (unhide G4)
  have g3 := below_keep b4 (unhide G3)
  clear b4 ns GO NP3 PR3 G3 G4 x0 x1 x2
  have x0 : w4.cell? ⟨w2.heap.size, 0, none⟩ = some (.int .i64 fr) := by rw [cell_of g4]; rfl
  have x1 : w4.cell? ⟨w2.heap.size, 1, none⟩ = some (.int .i64 to) := by rw [cell_of g4]; rfl
  have x2 : w4.cell? ⟨w2.heap.size, 2, none⟩ = some (.slice a m c) := by rw [cell_of g4]; rfl
  have y0 : w4.cell? ⟨w.heap.size, 0, none⟩ = some (.int .i64 0) := by rw [cell_of g3]; rfl
  have y1 : w4.cell? ⟨w.heap.size, 1, none⟩ = some (.int .i64 0) := by rw [cell_of g3]; rfl
  have y2 : w4.cell? ⟨w.heap.size, 2, none⟩ = some (.slice none 0 0) := by rw [cell_of g3]; rfl
  have e0 : w4.frozen? ⟨w.heap.size, 0, none⟩ = false := frozen_of g3 0
  have e1 : w4.frozen? ⟨w.heap.size, 1, none⟩ = false := frozen_of g3 1
  have e2 : w4.frozen? ⟨w.heap.size, 2, none⟩ = false := frozen_of g3 2
  have VF : Hid (∀ r0 r1 r2, (((w4.setCell ⟨w.heap.size, 0, none⟩ r0).setCell ⟨w.heap.size, 1, none⟩ r1).setCell ⟨w.heap.size, 2, none⟩ r2).heap[w.heap.size]? = some (.cells #[r0, r1, r2] 33) ∧ Touch (· = w.heap.size) w4 (((w4.setCell ⟨w.heap.size, 0, none⟩ r0).setCell ⟨w.heap.size, 1, none⟩ r1).setCell ⟨w.heap.size, 2, none⟩ r2)) := fun r0 r1 r2 =>
    ⟨set3 g3 _ _ _, (((Touch.refl (· = w.heap.size) w4).setCell (p := ⟨w.heap.size, 0, none⟩) rfl _).setCell (p := ⟨w.heap.size, 1, none⟩) rfl _).setCell (p := ⟨w.heap.size, 2, none⟩) rfl _⟩
  clear g3 g4
  cases cut
  · have FF := hide (fun V t => unhide FX w4 V ⟨fr, to, a, c, l⟩ (unhide NP4) (unhide PR4) t rfl)
    simp only [Bool.not_false] at FF
    rw [unhide HM] at FF
    clear FX NP4 PR4 HM
    go_wp2
    obtain ⟨vg, vt⟩ := unhide VF (.int .i64 fr) (.int .i64 to) (.slice a m c)
    generalize ((w4.setCell ⟨w.heap.size, 0, none⟩ (.int .i64 fr)).setCell ⟨w.heap.size, 1, none⟩ (.int .i64 to)).setCell ⟨w.heap.size, 2, none⟩ (.slice a m c) = V at *
    have v0 := cell_of vg 0
    have v1 := cell_of vg 1
    have v2 := cell_of vg 2
    simp only [List.getElem?_toArray, List.getElem?_cons_zero, List.getElem?_cons_succ] at v0 v1 v2
    refine bodyPost_ret (by simp [results, Try.results15, go_sem, v0, v1, v2]; try rfl) rfl ?_
    exact unhide FF V vt
  · have FF : Hid (∀ V, Touch (· = w.heap.size) w4 V → TakePost w nb R (ps.map Pk.abs) D i (.returned (.tuple #[.agg #[.int .i64 0, .int .i64 0, .slice none 0 0], .bool false])) V) := fun V t => unhide FX w4 V pk0 (unhide NP4) (unhide PR4) t rfl
    clear FX NP4 PR4 HM
    go_wp2
    obtain ⟨vg, vt⟩ := unhide VF (.int .i64 0) (.int .i64 0) (.slice none 0 0)
    generalize ((w4.setCell ⟨w.heap.size, 0, none⟩ (.int .i64 0)).setCell ⟨w.heap.size, 1, none⟩ (.int .i64 0)).setCell ⟨w.heap.size, 2, none⟩ (.slice none 0 0) = V at *
    have v0 := cell_of vg 0
    have v1 := cell_of vg 1
    have v2 := cell_of vg 2
    simp only [List.getElem?_toArray, List.getElem?_cons_zero, List.getElem?_cons_succ] at v0 v1 v2
    refine bodyPost_ret (by simp [results, Try.results15, go_sem, v0, v1, v2]; try rfl) rfl ?_
    exact unhide FF V vt
theorem take_any {w : World} {nb : Nat} {R : Nat → Prop} {qs : List Pa} {D : Cts} (h : NS w nb R qs D) (i : Int) (hi : InR i) : Calls Try.prog 15 #[.pointer (some ⟨nb, 0, none⟩), .int .i64 i] w fun e w' => TakePost w nb R qs D i e w' := by
  by_cases h0 : 0 < qs.length
  · exact take_some h h0 i hi
  · obtain rfl : qs = [] := List.eq_nil_of_length_eq_zero (by omega)
    exact take_none h i
end Go.Proofs.Ytgpfkedihgoohaa
