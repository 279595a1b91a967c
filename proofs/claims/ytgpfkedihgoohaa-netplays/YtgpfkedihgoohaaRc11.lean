/-
  The document's net: Take, Drop, Copy, Cut. Conditions: the net is one, with at most 256 packets; numbers within 64 bits.
-/
import Derived.Test.YtgpfkedihgoohaaRb11
namespace Go.Proofs.Ytgpfkedihgoohaa
open Go.RowKit
set_option linter.unusedVariables false

abbrev NoX : Nat → Prop := fun _ => False
/-- Behind out. -/
theorem rout_post {w w' : World} {rb : Nat} {v cv : Value} {ps : List Pk} {D : Cts} {R : Nat → Prop} (h : RefAt w rb v cv ps D) (hR : ∀ k, RB rb v cv ps k → R k) {k : Nat} {hk : k < ps.length} {e : Ending} (hr : OutPost w rb cv ps k hk e w') : RPost w rb R NoX ((ps.map Pk.abs).eraseIdx k) D w' ∧ PRow w' ps[k] := by
  obtain ⟨_, v', h1, h2, h3, h4⟩ := hr
  obtain ⟨a1, a2, a3, a4⟩ := h.apart
  have each : ∀ p ∈ ps, PRow w' p := fun p hp => (h.list.each p hp).keep h3 (fun j hj hS => by subst hS; exact a1 p hp hj)
  refine ⟨RPost.of (ps' := ps.eraseIdx k) hR ⟨h1, ⟨h2, fun p hp => each p (mem_erase hp)⟩, h.cuts.keep h3 (fun m hm hs => by subst hs; exact a3 hm), h.cin⟩ (erase_map _ _ _).symm (h3.mono (fun j hj => .inl hj)) (fun j hj => ?_), each _ (List.getElem_mem hk)⟩
  rcases hj with rfl | hj | hj | ⟨p, hp, hj⟩
  · exact .inl (.inl rfl)
  · exact .inl (.inr (.inl hj))
  · exact .inr (.inr (h4 j hj))
  · exact .inl (.inr (.inr (.inr ⟨p, mem_erase hp, hj⟩)))
theorem RPost.mark {w W w' V : World} {nb : Nat} {R X : Nat → Prop} {qs : List Pa} {D : Cts} (hR : ∀ k, R k → k < w.heap.size) (hX : ∀ k, X k → k ≠ w.heap.size) (hW : Below w.heap.size w W) (hs : w.heap.size < W.heap.size) (h : RPost W nb R X qs D w') (t : Touch (· = w.heap.size) w' V) : RPost w nb R X qs D V := by
  obtain ⟨R', h1, h2, h3⟩ := h
  refine ⟨R', h1.keep t (fun k hk e => ?_), ?_, fun k hk => ?_⟩
  · rcases h3 k hk with e2 | e2 | e2
    · have := hR k e2; omega
    · exact hX k e2 e
    · omega
  · have T1 : Touch R w w' := (Touch.of_below hW).trans h2
    exact ⟨t.os.trans T1.os, t.tape.trans T1.tape, t.output.trans T1.output, Nat.le_trans T1.size t.size, fun k hk hs => (t.block k (Nat.lt_of_lt_of_le hk T1.size) (show ¬ k = w.heap.size by omega)).trans (T1.block k hk hs)⟩
  · rcases h3 k hk with e2 | e2 | e2
    · exact .inl e2
    · exact .inr (.inl e2)
    · exact .inr (.inr (by omega))
theorem rcut_ns {w : World} {rb : Nat} {R : Nat → Prop} {qs : List Pa} {D : Cts} (h : RS w rb R qs D) {a b : Int} (ha : InR a) (hb : InR b) (hl : D.length ≤ 9000000000000000) : Calls Try.prog 35 #[.pointer (some ⟨rb, 0, none⟩), .int .i64 a, .int .i64 b] w fun e w' => e = .returned (.bool (isC D a b)) ∧ w' = w := by
  obtain ⟨v, cm, ps, h1, h2, h3⟩ := h.ex
  exact rcut_any h1 ha hb hl
def RDropPost (w : World) (rb : Nat) (R : Nat → Prop) (qs : List Pa) (D : Cts) (i : Int) (e : Ending) (w' : World) : Prop := e = .returned (.bool (decide (0 < qs.length))) ∧ RPost w rb R NoX (qs.eraseIdx (rnd i qs.length)) D w'
set_option maxRecDepth 100000 in
theorem rdrop_any {w : World} {rb : Nat} {R : Nat → Prop} {qs : List Pa} {D : Cts} (h : RS w rb R qs D) (hl : qs.length ≤ 256) (i : Int) (hi : InR i) : Calls Try.prog 18 #[.pointer (some ⟨rb, 0, none⟩), .int .i64 i] w fun e w' => RDropPost w rb R qs D i e w' := by
  have K := hide (rat_any h i hi)
  by_cases h0 : 0 < qs.length
  · have hat : atE i qs.length = (rnd i qs.length : Int) := by unfold atE; rw [if_neg (by omega)]
    rw [hat] at K
    obtain ⟨v, cv, ps, h1, rfl, h3⟩ := h.ex
    obtain ⟨k, hke⟩ : ∃ k, k = rnd i (ps.map Pk.abs).length := ⟨_, rfl⟩
    have hk : k < ps.length := by rw [hke]; have := rnd_lt i h0; simpa using this
    rw [← hke] at K
    have RM := hide (rout_any h1 (by simpa using hl) hk)
    have F : Hid (∀ e w', OutPost w rb cv ps k hk e w' → RDropPost w rb R (ps.map Pk.abs) D i (.returned (.bool true)) w') := fun e w' hr => ⟨by simp only [h0, decide_true], by rw [← hke]; exact (rout_post h1 h3 hr).1⟩
    clear h h1 h3 hke h0 hat hl
    have g1 : (0 : Int) ≤ (k : Int) := by omega
    go_enter Try.func18, Try.ntmps18
    go_wp2_with fail
    refine (unhide K).mono ?_
    rintro e w1 ⟨rfl, rfl⟩
    clear K
    go_wp2_with fail
    refine (unhide RM).mono ?_
    rintro e w2 hr
    have FF := hide (unhide F e w2 hr)
    obtain ⟨rfl, _⟩ := hr
    clear RM F
    go_wp2
    go_returns
    exact unhide FF
  · obtain rfl : qs = [] := List.eq_nil_of_length_eq_zero (by omega)
    have F : Hid (RDropPost w rb R [] D i (.returned (.bool false)) w) := ⟨rfl, h.post (Below.refl _ _)⟩
    have hat : atE i ([] : List Pa).length = -1 := rfl
    rw [hat] at K
    clear h h0 hat hl
    go_enter Try.func18, Try.ntmps18
    go_wp2_with fail
    refine (unhide K).mono ?_
    rintro e w1 ⟨rfl, rfl⟩
    clear K
    go_wp2
    go_returns
    exact unhide F
def RCopyPost (w : World) (rb : Nat) (R : Nat → Prop) (qs : List Pa) (D : Cts) (i : Int) (e : Ending) (w' : World) : Prop := e = .returned (.bool (decide (0 < qs.length) && decide (qs.length < 256))) ∧ RPost w rb R NoX (cpE qs i) D w'
set_option maxRecDepth 100000 in
set_option maxHeartbeats 1000000 in
theorem rcopy_any {w : World} {rb : Nat} {R : Nat → Prop} {qs : List Pa} {D : Cts} (h : RS w rb R qs D) (i : Int) (hi : InR i) : Calls Try.prog 20 #[.pointer (some ⟨rb, 0, none⟩), .int .i64 i] w fun e w' => RCopyPost w rb R qs D i e w' := by
  have K := hide (rat_any h i hi)
  by_cases h0 : 0 < qs.length
  · have hat : atE i qs.length = (rnd i qs.length : Int) := by unfold atE; rw [if_neg (by omega)]
    rw [hat] at K
    have HNS := hide h
    obtain ⟨v, cv, ps, h1, rfl, h3⟩ := h.ex
    obtain ⟨k, hke⟩ : ∃ k, k = rnd i (ps.map Pk.abs).length := ⟨_, rfl⟩
    have hk : k < ps.length := by rw [hke]; have := rnd_lt i h0; simpa using this
    rw [← hke] at K
    have hq : (ps.map Pk.abs)[rnd i (ps.map Pk.abs).length]? = some ps[k].abs := by rw [← hke, List.getElem?_map, List.getElem?_eq_getElem hk]; rfl
    have hcp : cpE (ps.map Pk.abs) i = sendE (ps.map Pk.abs) ps[k].abs := by unfold cpE; rw [hq]
    have SD := hide (rsend_any (unhide HNS) (h1.list.each _ (List.getElem_mem hk)))
    have F : Hid (∀ w', RPost w rb R (fun j => (pkS ps[k]).ownBlock = some j) (sendE (ps.map Pk.abs) ps[k].abs) D w' → RCopyPost w rb R (ps.map Pk.abs) D i (.returned (.bool (decide ((ps.map Pk.abs).length < 256)))) w') := fun w' np => by
      refine ⟨by simp only [h0, decide_true, Bool.true_and], ?_⟩
      rw [hcp]
      obtain ⟨R', n1, n2, n3⟩ := np
      refine ⟨R', n1, n2, fun j hj => ?_⟩
      rcases n3 j hj with e | e | e
      · exact .inl e
      · exact .inl (h3 j (.inr (.inr (.inr ⟨_, List.getElem_mem hk, e⟩))))
      · exact .inr (.inr e)
    obtain ⟨g, cap, hv, hg, hcap, hmax, y0, y1, y2⟩ := h1.list.at_ hk
    have c0 : w.cell? ⟨rb, 0, none⟩ = some (.slice (some ⟨g, 0, none⟩) ps.length cap) := by rw [cell_of h1.box, ← hv]; rfl
    have hkl : (k : Int) < (ps.length : Int) := by omega
    have g1 : (0 : Int) ≤ (k : Int) := by omega
    clear h h1 h3 hke h0 hq hcp HNS hat hv
    unfold RsPost at SD
    generalize decide ((ps.map Pk.abs).length < 256) = r at *
    generalize ps[k] = p at *
    obtain ⟨fr, to, a, c, l⟩ := p
    simp only [pkV, pkS] at *
    generalize l.length = m at *
    go_enter Try.func20, Try.ntmps20
    go_wp2_with fail
    refine (unhide K).mono ?_
    rintro e w1 ⟨rfl, rfl⟩
    clear K
    go_wp2_with fail
    refine (unhide SD).mono ?_
    rintro e w3 ⟨rfl, np⟩
    have FF := hide (unhide F w3 np)
    clear F SD np
    go_wp2
    go_returns
    exact unhide FF
  · obtain rfl : qs = [] := List.eq_nil_of_length_eq_zero (by omega)
    have F : Hid (RCopyPost w rb R [] D i (.returned (.bool false)) w) := ⟨rfl, h.post (Below.refl _ _)⟩
    have hat : atE i ([] : List Pa).length = -1 := rfl
    rw [hat] at K
    clear h h0 hat
    go_enter Try.func20, Try.ntmps20
    go_wp2_with fail
    refine (unhide K).mono ?_
    rintro e w1 ⟨rfl, rfl⟩
    clear K
    go_wp2
    go_returns
    exact unhide F
def RTakePost (w : World) (rb : Nat) (R : Nat → Prop) (qs : List Pa) (D : Cts) (i : Int) (e : Ending) (w' : World) : Prop := ∃ p', e = .returned (.tuple #[pkV p', .bool (tkB qs D i)]) ∧ p'.abs = tkP qs D i ∧ PRow w' p' ∧ (∀ j, (pkS p').ownBlock = some j → R j) ∧ RPost w rb R NoX (qs.eraseIdx (rnd i qs.length)) D w'
set_option maxRecDepth 100000 in
set_option maxHeartbeats 1000000 in
theorem rtake_none {w : World} {rb : Nat} {R : Nat → Prop} {D : Cts} (h : RS w rb R [] D) (i : Int) (hi : InR i) : Calls Try.prog 16 #[.pointer (some ⟨rb, 0, none⟩), .int .i64 i] w fun e w' => RTakePost w rb R [] D i e w' := by
  have hA : Below w.heap.size w (w.alloc (.cells #[.int .i64 0, .int .i64 0, .slice none 0 0] 33)) := (Below.refl _ _).alloc (Nat.le_refl _) _
  have K := hide (rat_any (h.later hA) i hi)
  have hat : atE i ([] : List Pa).length = -1 := rfl
  rw [hat] at K
  have F : Hid (RTakePost w rb R [] D i (.returned (.tuple #[.agg #[.int .i64 0, .int .i64 0, .slice none 0 0], .bool false])) (w.alloc (.cells #[.int .i64 0, .int .i64 0, .slice none 0 0] 33))) := ⟨pk0, rfl, rfl, PRow.zero _, fun j hj => by simp [Value.ownBlock, pk0] at hj, h.post hA⟩
  have hb := heap_new w (.cells #[.int .i64 0, .int .i64 0, .slice none 0 0] 33)
  have y0 := cell_of hb 0
  have y1 := cell_of hb 1
  have y2 := cell_of hb 2
  simp only [List.getElem?_toArray, List.getElem?_cons_zero, List.getElem?_cons_succ] at y0 y1 y2
  clear hb h hA hat
  go_enter Try.func16, Try.ntmps16
  go_wp2_with fail
  refine (unhide K).mono ?_
  rintro e w1 ⟨rfl, rfl⟩
  clear K
  go_wp2
  refine bodyPost_ret (by simp [results, Try.results16, go_sem, y0, y1, y2]; try rfl) rfl ?_
  exact unhide F
set_option maxRecDepth 100000 in
set_option maxHeartbeats 2000000 in
theorem rtake_some {w : World} {rb : Nat} {R : Nat → Prop} {qs : List Pa} {D : Cts} (h : RS w rb R qs D) (h0 : 0 < qs.length) (hl : qs.length ≤ 256) (hD : D.length ≤ 9000000000000000) (i : Int) (hi : InR i) : Calls Try.prog 16 #[.pointer (some ⟨rb, 0, none⟩), .int .i64 i] w fun e w' => RTakePost w rb R qs D i e w' := by
  have hA : Below w.heap.size w (w.alloc (.cells #[.int .i64 0, .int .i64 0, .slice none 0 0] 33)) := (Below.refl _ _).alloc (Nat.le_refl _) _
  have G0 : Hid ((w.alloc (.cells #[.int .i64 0, .int .i64 0, .slice none 0 0] 33)).heap[w.heap.size]? = some (.cells #[.int .i64 0, .int .i64 0, .slice none 0 0] 33)) := heap_new _ _
  have hsz : w.heap.size < (w.alloc (.cells #[.int .i64 0, .int .i64 0, .slice none 0 0] 33)).heap.size := by simp
  have hlt := h.lt
  have hN := h.later hA
  have K := hide (rat_any hN i hi)
  have hat : atE i qs.length = (rnd i qs.length : Int) := by unfold atE; rw [if_neg (by omega)]
  rw [hat] at K
  obtain ⟨v, cv, ps, h1, rfl, h3⟩ := hN.ex
  obtain ⟨k, hke⟩ : ∃ k, k = rnd i (ps.map Pk.abs).length := ⟨_, rfl⟩
  have hk : k < ps.length := by rw [hke]; have := rnd_lt i h0; simpa using this
  rw [← hke] at K
  have RM := hide (rout_any h1 (by simpa using hl) hk)
  have hin := (h1.list.each _ (List.getElem_mem hk)).in_
  have hq : (ps.map Pk.abs)[rnd i (ps.map Pk.abs).length]? = some ps[k].abs := by rw [← hke, List.getElem?_map, List.getElem?_eq_getElem hk]; rfl
  have hTB : tkB (ps.map Pk.abs) D i = !isC D ps[k].fr ps[k].to := by unfold tkB; rw [hq]
  have hTP : tkP (ps.map Pk.abs) D i = (if isC D ps[k].fr ps[k].to then ⟨0, 0, []⟩ else ps[k].abs) := by unfold tkP; rw [hq]
  have RBB : Hid (∀ j, (pkS ps[k]).ownBlock = some j → R j) := fun j hj => h3 j (.inr (.inr (.inr ⟨_, List.getElem_mem hk, hj⟩)))
  have PF : Hid (∀ e w', OutPost (w.alloc (.cells #[.int .i64 0, .int .i64 0, .slice none 0 0] 33)) rb cv ps k hk e w' → RPost (w.alloc (.cells #[.int .i64 0, .int .i64 0, .slice none 0 0] 33)) rb R NoX ((ps.map Pk.abs).eraseIdx k) D w' ∧ PRow w' ps[k]) := fun e w' hr => rout_post h1 h3 hr
  have HNW : Hid (rb < w.heap.size) := hlt rb (h3 rb (.inl rfl))
  have FX : Hid (∀ w4 V q, RPost (w.alloc (.cells #[.int .i64 0, .int .i64 0, .slice none 0 0] 33)) rb R NoX ((ps.map Pk.abs).eraseIdx k) D w4 → PRow w4 ps[k] → Touch (· = w.heap.size) w4 V → (q = if isC D ps[k].fr ps[k].to then pk0 else ps[k]) → RTakePost w rb R (ps.map Pk.abs) D i (.returned (.tuple #[pkV q, .bool (!isC D ps[k].fr ps[k].to)])) V) := fun w4 V q np pr t hq => by
    refine ⟨q, by rw [hTB], ?_, ?_, ?_, ?_⟩
    · rw [hTP, hq]; split <;> rfl
    · rw [hq]
      split
      · exact PRow.zero _
      · exact pr.keep t (fun j hj e => by have := hlt j (unhide RBB j hj); omega)
    · rw [hq]
      split
      · intro j hj; simp [Value.ownBlock, pk0] at hj
      · exact unhide RBB
    · rw [← hke]
      exact RPost.mark hlt (fun _ h => h.elim) hA hsz np t
  have HF := hide hin.fr
  have HT := hide hin.to
  clear h h1 h3 hN hA hTB hTP hq RBB hin hlt h0 hke hat hl
  have GO : Hid (∀ X R' qs', RS X rb R' qs' D → Calls Try.prog 35 #[.pointer (some ⟨rb, 0, none⟩), .int .i64 ps[k].fr, .int .i64 ps[k].to] X fun e w' => e = .returned (.bool (isC D ps[k].fr ps[k].to)) ∧ w' = X) := fun X R' qs' hX => rcut_ns hX (unhide HF) (unhide HT) hD
  clear HF HT
  have g1 : ¬ (k : Int) < 0 := by omega
  go_enter Try.func16, Try.ntmps16
  go_wp2_with fail
  generalize w.alloc (.cells #[.int .i64 0, .int .i64 0, .slice none 0 0] 33) = W at *
  refine (unhide K).mono ?_
  rintro e w1 ⟨rfl, rfl⟩
  clear K
  go_wp2_with fail
  refine (unhide RM).mono ?_
  rintro e w2 hr
  obtain ⟨np, pr⟩ := unhide PF e w2 hr
  obtain ⟨rfl, v', _, _, t2, _⟩ := hr
  have g2 := t2.keep (unhide G0) (show ¬ w.heap.size = rb by have := unhide HNW; omega)
  clear t2 RM PF G0 HNW
  generalize ps[k] = p at *
  obtain ⟨fr, to, a, c, l⟩ := p
  simp only [pkV, pkS] at *
  have hB : Below w2.heap.size w2 (w2.alloc (.cells #[.int .i64 fr, .int .i64 to, .slice a l.length c] 33)) := (Below.refl _ _).alloc (Nat.le_refl _) _
  have NP3 := hide (np.later hB)
  have PR3 := hide (pr.later hB)
  have G3 := hide (below_keep hB g2)
  have G4 : Hid ((w2.alloc (.cells #[.int .i64 fr, .int .i64 to, .slice a l.length c] 33)).heap[w2.heap.size]? = some (.cells #[.int .i64 fr, .int .i64 to, .slice a l.length c] 33)) := heap_new _ _
  have hs2 : w.heap.size < w2.heap.size := lt_of_heap g2
  have x0 : (w2.alloc (.cells #[.int .i64 fr, .int .i64 to, .slice a l.length c] 33)).cell? ⟨w2.heap.size, 0, none⟩ = some (.int .i64 fr) := by rw [cell_of (unhide G4)]; rfl
  have x1 : (w2.alloc (.cells #[.int .i64 fr, .int .i64 to, .slice a l.length c] 33)).cell? ⟨w2.heap.size, 1, none⟩ = some (.int .i64 to) := by rw [cell_of (unhide G4)]; rfl
  have x2 : (w2.alloc (.cells #[.int .i64 fr, .int .i64 to, .slice a l.length c] 33)).cell? ⟨w2.heap.size, 2, none⟩ = some (.slice a l.length c) := by rw [cell_of (unhide G4)]; rfl
  clear hB np pr g2
  generalize hm : l.length = m at *
  have HM := hide hm
  clear hm
  generalize isC D fr to = cut at *
  go_wp2_with fail
  generalize w2.alloc (.cells #[.int .i64 fr, .int .i64 to, .slice a m c] 33) = w3 at *
  obtain ⟨R', ns, _⟩ := id (unhide NP3)
  refine (unhide GO _ _ _ ns).mono ?_
  rintro e w4 ⟨rfl, rfl⟩
  have g4 := unhide G4
  have g3 := unhide G3
  have NP4 := NP3
  have PR4 := PR3
  clear ns GO NP3 PR3 G3 G4
  have y0 : w4.cell? ⟨w.heap.size, 0, none⟩ = some (.int .i64 0) := by rw [cell_of g3]; rfl
  have y1 : w4.cell? ⟨w.heap.size, 1, none⟩ = some (.int .i64 0) := by rw [cell_of g3]; rfl
  have y2 : w4.cell? ⟨w.heap.size, 2, none⟩ = some (.slice none 0 0) := by rw [cell_of g3]; rfl
  have e0 : w4.frozen? ⟨w.heap.size, 0, none⟩ = false := frozen_of g3 0
  have e1 : w4.frozen? ⟨w.heap.size, 1, none⟩ = false := frozen_of g3 1
  have e2 : w4.frozen? ⟨w.heap.size, 2, none⟩ = false := frozen_of g3 2
  have VF : Hid (∀ r0 r1 r2, (((w4.setCell ⟨w.heap.size, 0, none⟩ r0).setCell ⟨w.heap.size, 1, none⟩ r1).setCell ⟨w.heap.size, 2, none⟩ r2).heap[w.heap.size]? = some (.cells #[r0, r1, r2] 33) ∧ Touch (· = w.heap.size) w4 (((w4.setCell ⟨w.heap.size, 0, none⟩ r0).setCell ⟨w.heap.size, 1, none⟩ r1).setCell ⟨w.heap.size, 2, none⟩ r2)) := fun r0 r1 r2 =>
    ⟨set3 g3 _ _ _, (((Touch.refl (· = w.heap.size) w4).setCell (p := ⟨w.heap.size, 0, none⟩) rfl _).setCell (p := ⟨w.heap.size, 1, none⟩) rfl _).setCell (p := ⟨w.heap.size, 2, none⟩) rfl _⟩
  clear g3 g4
  cases cut
  · have FF := hide (fun V t => unhide FX w4 V ⟨fr, to, a, c, l⟩ (unhide NP4) (unhide PR4) t rfl)
    simp only [Bool.not_false] at FF
    rw [unhide HM] at FF
    clear FX NP4 PR4 HM
    go_wp2
    obtain ⟨vg, vt⟩ := unhide VF (.int .i64 fr) (.int .i64 to) (.slice a m c)
    generalize ((w4.setCell ⟨w.heap.size, 0, none⟩ (.int .i64 fr)).setCell ⟨w.heap.size, 1, none⟩ (.int .i64 to)).setCell ⟨w.heap.size, 2, none⟩ (.slice a m c) = V at *
    have v0 := cell_of vg 0
    have v1 := cell_of vg 1
    have v2 := cell_of vg 2
    simp only [List.getElem?_toArray, List.getElem?_cons_zero, List.getElem?_cons_succ] at v0 v1 v2
    refine bodyPost_ret (by simp [results, Try.results16, go_sem, v0, v1, v2]; try rfl) rfl ?_
    exact unhide FF V vt
  · have FF : Hid (∀ V, Touch (· = w.heap.size) w4 V → RTakePost w rb R (ps.map Pk.abs) D i (.returned (.tuple #[.agg #[.int .i64 0, .int .i64 0, .slice none 0 0], .bool false])) V) := fun V t => unhide FX w4 V pk0 (unhide NP4) (unhide PR4) t rfl
    clear FX NP4 PR4 HM
    go_wp2
    obtain ⟨vg, vt⟩ := unhide VF (.int .i64 0) (.int .i64 0) (.slice none 0 0)
    generalize ((w4.setCell ⟨w.heap.size, 0, none⟩ (.int .i64 0)).setCell ⟨w.heap.size, 1, none⟩ (.int .i64 0)).setCell ⟨w.heap.size, 2, none⟩ (.slice none 0 0) = V at *
    have v0 := cell_of vg 0
    have v1 := cell_of vg 1
    have v2 := cell_of vg 2
    simp only [List.getElem?_toArray, List.getElem?_cons_zero, List.getElem?_cons_succ] at v0 v1 v2
    refine bodyPost_ret (by simp [results, Try.results16, go_sem, v0, v1, v2]; try rfl) rfl ?_
    exact unhide FF V vt
theorem rtake_any {w : World} {rb : Nat} {R : Nat → Prop} {qs : List Pa} {D : Cts} (h : RS w rb R qs D) (hl : qs.length ≤ 256) (hD : D.length ≤ 9000000000000000) (i : Int) (hi : InR i) : Calls Try.prog 16 #[.pointer (some ⟨rb, 0, none⟩), .int .i64 i] w fun e w' => RTakePost w rb R qs D i e w' := by
  by_cases h0 : 0 < qs.length
  · exact rtake_some h h0 hl hD i hi
  · obtain rfl : qs = [] := List.eq_nil_of_length_eq_zero (by omega)
    exact rtake_none h i hi
end Go.Proofs.Ytgpfkedihgoohaa
