/-
  net's Copy, Peek and Heal. Conditions: the net is one; numbers within 64 bits.
-/
import Derived.Test.YtgpfkedihgoohaaNt8
namespace Go.Proofs.Ytgpfkedihgoohaa
open Go.RowKit
set_option linter.unusedVariables false

def cpE (qs : List Pa) (i : Int) : List Pa := match qs[rnd i qs.length]? with | some q => sendE qs q | none => qs
def CopyPost (w : World) (nb : Nat) (R : Nat → Prop) (qs : List Pa) (D : Cts) (i : Int) (e : Ending) (w' : World) : Prop := e = .returned (.bool (decide (0 < qs.length) && decide (qs.length < 256))) ∧ NPost w nb R (cpE qs i) D w'
theorem copy_nil (i : Int) (w : World) : Calls Try.prog 19 #[.pointer none, .int .i64 i] w fun e w' => e = .returned (.bool false) ∧ w' = w := by
  have K := hide (place_nil i w)
  go_enter Try.func19, Try.ntmps19
  go_wp2_with fail
  refine (unhide K).mono ?_
  rintro e w1 ⟨rfl, rfl⟩
  clear K
  go_wp2
  go_returns
  exact ⟨rfl, rfl⟩
set_option maxRecDepth 100000 in
set_option maxHeartbeats 1000000 in
theorem copy_any {w : World} {nb : Nat} {R : Nat → Prop} {qs : List Pa} {D : Cts} (h : NS w nb R qs D) (i : Int) (hi : InR i) : Calls Try.prog 19 #[.pointer (some ⟨nb, 0, none⟩), .int .i64 i] w fun e w' => CopyPost w nb R qs D i e w' := by
  by_cases h0 : 0 < qs.length
  · have K := hide (place_some h h0 i hi)
    have HNS := hide h
    obtain ⟨v, cm, ps, h1, rfl, h3⟩ := h.ex
    obtain ⟨k, hke⟩ : ∃ k, k = rnd i (ps.map Pk.abs).length := ⟨_, rfl⟩
    have hk : k < ps.length := by rw [hke]; have := rnd_lt i h0; simpa using this
    rw [← hke] at K
    have hq : (ps.map Pk.abs)[rnd i (ps.map Pk.abs).length]? = some ps[k].abs := by rw [← hke, List.getElem?_map, List.getElem?_eq_getElem hk]; rfl
    have hcp : cpE (ps.map Pk.abs) i = sendE (ps.map Pk.abs) ps[k].abs := by unfold cpE; rw [hq]
    have GT := hide (get_any h1 hk)
    have SD : Hid (∀ X, Below w.heap.size w X → Calls Try.prog 12 #[.pointer (some ⟨nb, 0, none⟩), pkV ps[k]] X fun e w' => SendPost X nb R (ps.map Pk.abs) D ps[k].abs e w') := fun X hX => send_any ((unhide HNS).later hX) ((h1.list.each _ (List.getElem_mem hk)).pin.later hX)
    have F : Hid (∀ X w', Below w.heap.size w X → NPost X nb R (sendE (ps.map Pk.abs) ps[k].abs) D w' → CopyPost w nb R (ps.map Pk.abs) D i (.returned (.bool (decide ((ps.map Pk.abs).length < 256)))) w') := fun X w' hX np => ⟨by simp only [h0, decide_true, Bool.true_and], by rw [hcp]; exact np.after hX⟩
    clear h h1 h3 hke h0 hq hcp HNS
    unfold SendPost at SD
    generalize decide ((ps.map Pk.abs).length < 256) = r at *
    generalize ps[k] = p at *
    obtain ⟨fr, to, a, c, l⟩ := p
    unfold GetPost at GT
    simp only [pkV, pkS] at *
    generalize l.length = m at *
    go_enter Try.func19, Try.ntmps19
    go_wp2_with fail
    refine (unhide K).mono ?_
    rintro e w1 ⟨rfl, rfl⟩
    clear K
    go_wp2_with fail
    refine (unhide GT).mono ?_
    rintro e w2 ⟨rfl, b2⟩
    have SD2 := hide (unhide SD w2 b2)
    have F2 := hide (fun w' => unhide F w2 w' b2)
    clear GT SD F b2
    go_wp2_with fail
    refine (unhide SD2).mono ?_
    rintro e w3 ⟨rfl, np⟩
    have FF := hide (unhide F2 w3 np)
    clear F2 SD2 np
    go_wp2
    go_returns
    exact unhide FF
  · obtain rfl : qs = [] := List.eq_nil_of_length_eq_zero (by omega)
    have K := hide (place_none h i)
    have F : Hid (CopyPost w nb R [] D i (.returned (.bool false)) w) := ⟨rfl, h.post (Below.refl _ _)⟩
    clear h h0
    go_enter Try.func19, Try.ntmps19
    go_wp2_with fail
    refine (unhide K).mono ?_
    rintro e w1 ⟨rfl, rfl⟩
    clear K
    go_wp2
    go_returns
    exact unhide F

/-- What Peek tells. -/
def pkE (qs : List Pa) (i : Int) : Pa := (qs[rnd i qs.length]?).getD ⟨0, 0, []⟩
def PeekPost (w : World) (qs : List Pa) (i : Int) (e : Ending) (w' : World) : Prop := ∃ p', e = .returned (.tuple #[pkV p', .bool (decide (0 < qs.length))]) ∧ p'.abs = pkE qs i ∧ PRow w' p' ∧ New w (pkS p') ∧ Below w.heap.size w w'
theorem peek_nil (i : Int) (w : World) : Calls Try.prog 25 #[.pointer none, .int .i64 i] w fun e w' => e = .returned (.tuple #[pkV pk0, .bool false]) ∧ Below w.heap.size w w' := by
  have K := hide (place_nil i (w.alloc (.cells #[.int .i64 0, .int .i64 0, .slice none 0 0] 33)))
  have A : Hid (Below w.heap.size w (w.alloc (.cells #[.int .i64 0, .int .i64 0, .slice none 0 0] 33))) := (Below.refl _ _).alloc (Nat.le_refl _) _
  have hb := heap_new w (.cells #[.int .i64 0, .int .i64 0, .slice none 0 0] 33)
  have y0 := cell_of hb 0
  have y1 := cell_of hb 1
  have y2 := cell_of hb 2
  simp only [List.getElem?_toArray, List.getElem?_cons_zero, List.getElem?_cons_succ] at y0 y1 y2
  clear hb
  go_enter Try.func25, Try.ntmps25
  go_wp2_with fail
  refine (unhide K).mono ?_
  rintro e w1 ⟨rfl, rfl⟩
  clear K
  go_wp2
  refine bodyPost_ret (by simp [results, Try.results25, go_sem, y0, y1, y2]; try rfl) rfl ?_
  exact ⟨rfl, unhide A⟩
set_option maxRecDepth 100000 in
set_option maxHeartbeats 1000000 in
theorem peek_none {w : World} {nb : Nat} {R : Nat → Prop} {D : Cts} (h : NS w nb R [] D) (i : Int) : Calls Try.prog 25 #[.pointer (some ⟨nb, 0, none⟩), .int .i64 i] w fun e w' => PeekPost w [] i e w' := by
  have hA : Below w.heap.size w (w.alloc (.cells #[.int .i64 0, .int .i64 0, .slice none 0 0] 33)) := (Below.refl _ _).alloc (Nat.le_refl _) _
  have K := hide (place_none (h.later hA) i)
  have F : Hid (PeekPost w [] i (.returned (.tuple #[.agg #[.int .i64 0, .int .i64 0, .slice none 0 0], .bool false])) (w.alloc (.cells #[.int .i64 0, .int .i64 0, .slice none 0 0] 33))) := ⟨pk0, rfl, rfl, PRow.zero _, New.nil _, hA⟩
  have hb := heap_new w (.cells #[.int .i64 0, .int .i64 0, .slice none 0 0] 33)
  have y0 := cell_of hb 0
  have y1 := cell_of hb 1
  have y2 := cell_of hb 2
  simp only [List.getElem?_toArray, List.getElem?_cons_zero, List.getElem?_cons_succ] at y0 y1 y2
  clear hb h hA
  go_enter Try.func25, Try.ntmps25
  go_wp2_with fail
  refine (unhide K).mono ?_
  rintro e w1 ⟨rfl, rfl⟩
  clear K
  go_wp2
  refine bodyPost_ret (by simp [results, Try.results25, go_sem, y0, y1, y2]; try rfl) rfl ?_
  exact unhide F
set_option maxRecDepth 100000 in
set_option maxHeartbeats 1000000 in
theorem peek_some {w : World} {nb : Nat} {R : Nat → Prop} {qs : List Pa} {D : Cts} (h : NS w nb R qs D) (h0 : 0 < qs.length) (i : Int) (hi : InR i) : Calls Try.prog 25 #[.pointer (some ⟨nb, 0, none⟩), .int .i64 i] w fun e w' => PeekPost w qs i e w' := by
  have hA : Below w.heap.size w (w.alloc (.cells #[.int .i64 0, .int .i64 0, .slice none 0 0] 33)) := (Below.refl _ _).alloc (Nat.le_refl _) _
  have G0 : Hid ((w.alloc (.cells #[.int .i64 0, .int .i64 0, .slice none 0 0] 33)).heap[w.heap.size]? = some (.cells #[.int .i64 0, .int .i64 0, .slice none 0 0] 33)) := heap_new _ _
  have hsz : w.heap.size < (w.alloc (.cells #[.int .i64 0, .int .i64 0, .slice none 0 0] 33)).heap.size := by simp
  have hN := h.later hA
  have K := hide (place_some hN h0 i hi)
  obtain ⟨v, cm, ps, h1, rfl, h3⟩ := hN.ex
  obtain ⟨k, hke⟩ : ∃ k, k = rnd i (ps.map Pk.abs).length := ⟨_, rfl⟩
  have hk : k < ps.length := by rw [hke]; have := rnd_lt i h0; simpa using this
  rw [← hke] at K
  have hq : pkE (ps.map Pk.abs) i = ps[k].abs := by unfold pkE; rw [← hke, List.getElem?_map, List.getElem?_eq_getElem hk]; rfl
  have GT := hide (get_any h1 hk)
  have PI := hide (h1.list.each _ (List.getElem_mem hk)).pin
  have FX : Hid (∀ X w4 V p', Below (w.alloc (.cells #[.int .i64 0, .int .i64 0, .slice none 0 0] 33)).heap.size (w.alloc (.cells #[.int .i64 0, .int .i64 0, .slice none 0 0] 33)) X → p'.abs = ps[k].abs → PRow w4 p' → New X (pkS p') → Below X.heap.size X w4 → Touch (· = w.heap.size) w4 V → PeekPost w (ps.map Pk.abs) i (.returned (.tuple #[pkV p', .bool true])) V) := fun X w4 V p' bX e1 e2 e3 b4 t => by
    have hX : Below w.heap.size w X := hA.trans (bX.mono hA.size)
    refine ⟨p', by simp only [h0, decide_true], by rw [hq]; exact e1, e2.keep t (fun j hj e => ?_), fun j hj => ?_, below_touch (hX.trans (b4.mono hX.size)) t (by have := b4.size; have := bX.size; omega) (fun j hj => by omega)⟩
    · have := e3 j hj; have := bX.size; omega
    · have := e3 j hj; have := bX.size; omega
  clear h h1 h3 hN hA hq h0 hke
  go_enter Try.func25, Try.ntmps25
  go_wp2_with fail
  generalize w.alloc (.cells #[.int .i64 0, .int .i64 0, .slice none 0 0] 33) = W at *
  refine (unhide K).mono ?_
  rintro e w1 ⟨rfl, rfl⟩
  clear K
  unfold GetPost at GT
  generalize ps[k] = p at *
  obtain ⟨fr, to, a, c, l⟩ := p
  simp only [pkV, pkS] at GT
  go_wp2_with fail
  refine (unhide GT).mono ?_
  rintro e w2 ⟨rfl, b2⟩
  have OW := hide (own11_any ((unhide PI).later b2))
  have FX2 := hide (fun w4 V p' => unhide FX w2 w4 V p' b2)
  have g2 := hide (below_keep b2 (unhide G0))
  clear b2 GT FX PI G0
  simp only [pkV, pkS] at OW
  generalize l.length = m at *
  go_wp2_with fail
  refine (unhide OW).mono ?_
  rintro e w4 ⟨p', rfl, e1, e2, e3, b4⟩
  have g3 := below_keep b4 (unhide g2)
  have FF := hide (fun V t => unhide FX2 w4 V p' e1 e2 e3 b4 t)
  clear FX2 OW g2 e1 e2 e3 b4
  have y0 : w4.cell? ⟨w.heap.size, 0, none⟩ = some (.int .i64 0) := by rw [cell_of g3]; rfl
  have y1 : w4.cell? ⟨w.heap.size, 1, none⟩ = some (.int .i64 0) := by rw [cell_of g3]; rfl
  have y2 : w4.cell? ⟨w.heap.size, 2, none⟩ = some (.slice none 0 0) := by rw [cell_of g3]; rfl
  have e0 : w4.frozen? ⟨w.heap.size, 0, none⟩ = false := frozen_of g3 0
  have e1 : w4.frozen? ⟨w.heap.size, 1, none⟩ = false := frozen_of g3 1
  have e2 : w4.frozen? ⟨w.heap.size, 2, none⟩ = false := frozen_of g3 2
  have VF : Hid (∀ r0 r1 r2, (((w4.setCell ⟨w.heap.size, 0, none⟩ r0).setCell ⟨w.heap.size, 1, none⟩ r1).setCell ⟨w.heap.size, 2, none⟩ r2).heap[w.heap.size]? = some (.cells #[r0, r1, r2] 33) ∧ Touch (· = w.heap.size) w4 (((w4.setCell ⟨w.heap.size, 0, none⟩ r0).setCell ⟨w.heap.size, 1, none⟩ r1).setCell ⟨w.heap.size, 2, none⟩ r2)) := fun r0 r1 r2 =>
    ⟨set3 g3 _ _ _, (((Touch.refl (· = w.heap.size) w4).setCell (p := ⟨w.heap.size, 0, none⟩) rfl _).setCell (p := ⟨w.heap.size, 1, none⟩) rfl _).setCell (p := ⟨w.heap.size, 2, none⟩) rfl _⟩
  clear g3
  obtain ⟨fr', to', a', c', l'⟩ := p'
  simp only [pkV, pkS] at FF ⊢
  generalize l'.length = m' at *
  go_wp2
  obtain ⟨vg, vt⟩ := unhide VF (.int .i64 fr') (.int .i64 to') (.slice a' m' c')
  generalize ((w4.setCell ⟨w.heap.size, 0, none⟩ (.int .i64 fr')).setCell ⟨w.heap.size, 1, none⟩ (.int .i64 to')).setCell ⟨w.heap.size, 2, none⟩ (.slice a' m' c') = V at *
  have v0 := cell_of vg 0
  have v1 := cell_of vg 1
  have v2 := cell_of vg 2
  simp only [List.getElem?_toArray, List.getElem?_cons_zero, List.getElem?_cons_succ] at v0 v1 v2
  refine bodyPost_ret (by simp [results, Try.results25, go_sem, v0, v1, v2]; try rfl) rfl ?_
  exact unhide FF V vt
theorem peek_any {w : World} {nb : Nat} {R : Nat → Prop} {qs : List Pa} {D : Cts} (h : NS w nb R qs D) (i : Int) (hi : InR i) : Calls Try.prog 25 #[.pointer (some ⟨nb, 0, none⟩), .int .i64 i] w fun e w' => PeekPost w qs i e w' := by
  by_cases h0 : 0 < qs.length
  · exact peek_some h h0 i hi
  · obtain rfl : qs = [] := List.eq_nil_of_length_eq_zero (by omega)
    exact peek_none h i
end Go.Proofs.Ytgpfkedihgoohaa
