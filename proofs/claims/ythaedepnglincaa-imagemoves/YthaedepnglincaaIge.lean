/-
  endMove: a move ends as soon as all that it goes to are in sync. Conditions: all in sync and all that it goes to are nodes; epochs and versions are below 2^62.
-/
import Derived.Test.YthaedepnglincaaIgd
import Derived.Deep.CutBlock
import Derived.Deep.RegionHeld3
namespace Go.Proofs.Ythaedepnglincaa
open Go.RowKit Go.Maps
set_option linter.unusedVariables false

def behind (q : Pt) (y : Int) : Bool := !q.is.contains y
def q1Of (q : Pt) : Pt := ⟨q.ld, q.ep, q.ve + 1, q.ts, q.ts, []⟩
def endQ (ns : List Nd) (q : Pt) : Pt :=
  if q.ts.length = 0 then q else if q.ts.any (behind q) then q else if q.ts.contains q.ld then q1Of q else electQ ns (q1Of q)
section
variable {w w' : World} {mb : Nat} {m : Im}
theorem ImAt.moved {W : World} (h : ImAt w mb m) {i pg cap : Nat} (hi : i < m.ps.length) (hg : m.pv = .slice (some ⟨pg, 0, none⟩) m.ps.length cap) {q : Pt} {vi vr vt v : Value} (hp : m.ps[i] = ⟨q, vi, vr, vt⟩) (hb : Below w.heap.size w W) (hl : IL W v q.ts) (hn : New w v) :
    ImTo w mb m (((W.setCell ⟨pg, i * 6 + 4, none⟩ vt).setCell ⟨pg, i * 6 + 3, none⟩ v).setCell ⟨pg, i * 6 + 5, none⟩ (.slice none 0 0)) (m.put i ⟨⟨q.ld, q.ep, q.ve, q.ts, q.ts, []⟩, v, vt, .slice none 0 0⟩) := by
  have hbk : m.pv.ownBlock = some pg := by rw [hg]; rfl
  have t1 := (((touch_set W pg (i * 6 + 4) vt).trans (touch_set _ pg (i * 6 + 3) v)).trans (touch_set _ pg (i * 6 + 5) (.slice none 0 0)))
  have hin := h.each i hi
  rw [hp] at hin
  have hB : ∀ k, vt.ownBlock = some k → (m.ps[i]).B k := fun k hk => by rw [hp]; exact .inr (.inr hk)
  have hw := (h.later hb).pts
  rw [hg] at hw
  have hw2 := ((hw.set (i * 6 + 4) vt).set (i * 6 + 3) v).set (i * 6 + 5) (.slice none 0 0)
  rw [flat_set pmC pmC_len m.ps i 4 vt ⟨⟨q.ld, q.ep, q.ve, q.is, q.ts, q.ts⟩, vi, vt, vt⟩ hi (by omega) (by rw [hp]; rfl), flat_set pmC pmC_len _ i 3 v ⟨⟨q.ld, q.ep, q.ve, q.ts, q.ts, q.ts⟩, v, vt, vt⟩ (by simp; exact hi) (by omega) (by simp [pmC]), List.set_set, flat_set pmC pmC_len _ i 5 (.slice none 0 0) ⟨⟨q.ld, q.ep, q.ve, q.ts, q.ts, []⟩, v, vt, .slice none 0 0⟩ (by simp; exact hi) (by omega) (by simp [pmC]), List.set_set] at hw2
  have nb : ∀ k, v.ownBlock = some k → k ≠ pg := fun k hk e => by
    have := hn k hk
    have := h.lt (k := pg) (.inr (.inr (.inr (.inl hbk))))
    omega
  have vb : ∀ k, vt.ownBlock = some k → k ≠ pg := fun k hk e => (h.ii hi (hB k hk)).2.2.2 (by rw [hbk, e])
  have T : Touch (· = pg) w (((W.setCell ⟨pg, i * 6 + 4, none⟩ vt).setCell ⟨pg, i * 6 + 3, none⟩ v).setCell ⟨pg, i * 6 + 5, none⟩ (.slice none 0 0)) := (Touch.of_below hb).trans t1
  refine h.toPut hi _ T (fun k hk => .inl (by rw [hbk, hk])) (by rw [hg]; exact hw2) ⟨hl.keep t1 (fun k hk e => nb k hk e), (hin.lt.later hb).keep t1 (fun k hk e => vb k hk e), IL.nil _, fun k h1 h2 => ?_, fun k _ e => by simp [Value.ownBlock] at e, fun k _ e => by simp [Value.ownBlock] at e⟩ (fun k hk => ?_)
  · have := hn k h1
    have := h.lt (k := k) (.inr (.inr (.inr (.inr ⟨i, hi, hB k h2⟩))))
    omega
  · rcases hk with hk | hk | hk
    · exact .inr (hn k hk)
    · exact .inl (hB k hk)
    · simp [Value.ownBlock] at hk
/-- endMove$1: isn't it in sync? -/
theorem tells_behind {W : World} {pg o bp : Nat} {q : Pt} {va : Option Addr} {vc : Nat} (hb : W.cell? ⟨bp, 0, none⟩ = some (.pointer (some ⟨pg, o, none⟩))) (h3 : W.cell? ⟨pg, o + 3, none⟩ = some (.slice va q.is.length vc)) (hi : IAt W va q.is) (hl : q.is.length ≤ maxLen) (l : List Int) :
    Tells W 44 #[] #[.pointer (some ⟨bp, 0, none⟩)] l (behind q) := by
  intro x _ Z t
  have hb' := (World.cell?_of_block (a := ⟨bp, 0, none⟩) (t.block bp (lt_of_cell hb) (fun h => h))).trans hb
  have h3' := (World.cell?_of_block (a := ⟨pg, o + 3, none⟩) (t.block pg (lt_of_cell h3) (fun h => h))).trans h3
  have K := hide (contains_any (c := vc) x (hi.keep t (fun _ _ _ h => h)) hl)
  show Calls Try.prog 44 #[.int .i64 x, .pointer (some ⟨bp, 0, none⟩)] Z _
  unfold behind
  clear hi hl h3 hb t
  generalize q.is.contains x = r at *
  generalize q.is.length = n at *
  go_enter Try.func44, Try.ntmps44
  go_wp2_with (go_at_call 29; refine (unhide K).mono ?_; rintro e w' ⟨rfl, rfl⟩)
  go_ret
  exact ⟨by simp, Touch.refl _ _⟩
theorem eg_behind : ∀ args w, (callFunc 44 args).run Try.prog w = .ok (.enter 44 args) w := enters_of Try.func44 (by kernel_rfl) rfl
set_option maxHeartbeats 100000000 in
theorem endMove_any (h : ImAt w mb m) {i pg cap : Nat} (hi : i < m.ps.length) (hg : m.pv = .slice (some ⟨pg, 0, none⟩) m.ps.length cap) {q : Pt} {vi vr vt : Value} (hp : m.ps[i] = ⟨q, vi, vr, vt⟩) (hin : inN m.ns.length q.ts) (hpo : (0 ≤ q.ep ∧ q.ep ≤ 4611686018427387904) ∧ 0 ≤ q.ve ∧ q.ve ≤ 4611686018427387904) (hlen : q.ts.length ≤ 1000000) :
    Calls Try.prog 37 #[.pointer (some ⟨mb, 0, none⟩), .pointer (some ⟨pg, i * 6, none⟩)] w fun e w' => e = .returned (.tuple #[]) ∧ ∃ ui ur ut, ImTo w mb m w' (m.put i ⟨endQ m.ns q, ui, ur, ut⟩) := by
  have b0 := (Below.refl w.heap.size w).alloc (Nat.le_refl _) (.cells #[.pointer (some ⟨pg, i * 6, none⟩)] 58)
  have h0 := h.later b0
  have BX := hide (heap_new w (.cells #[.pointer (some ⟨pg, i * 6, none⟩)] 58))
  obtain ⟨pg', cap', e', _, _, hc, hf⟩ := h0.pc hi
  rw [hg] at e'
  cases e'
  rw [hp] at hc
  have d0 := hc 0 (by omega)
  have d3 := hc 3 (by omega)
  have d5 := hc 5 (by omega)
  simp only [pmC, List.getElem?_cons_zero, List.getElem?_cons_succ, Nat.add_zero] at d0 d3 d5
  have PI := h0.each i hi
  rw [hp] at PI
  obtain ⟨va, vc, ev, via, _, _, _⟩ := PI.li.iat
  obtain ⟨ta, tc, et, tia, _, _, _⟩ := PI.lt.iat
  simp only at ev via et tia
  have hll := PI.li.len
  have hlt := PI.lt.len
  simp only at hll hlt
  have bc : (w.alloc (.cells #[.pointer (some ⟨pg, i * 6, none⟩)] 58)).cell? ⟨w.heap.size, 0, none⟩ = some (.pointer (some ⟨pg, i * 6, none⟩)) := cell_of (unhide BX) 0
  have TB := tells_behind (q := q) bc (by rw [← ev]; exact d3) via hll q.ts
  have KB := hide (containsF_any (c := tc) eg_behind tia hlt TB)
  rw [et] at d5
  rw [ev] at d3
  have U0 : Hid (ImTo w mb m (w.alloc (.cells #[.pointer (some ⟨pg, i * 6, none⟩)] 58)) m) := hide (ImTo.after b0 (ImTo.refl h0))
  have US : Hid (∀ W, Touch (fun _ => False) (w.alloc (.cells #[.pointer (some ⟨pg, i * 6, none⟩)] 58)) W → endQ m.ns q = q → ∃ ui ur ut, ImTo w mb m W (m.put i ⟨endQ m.ns q, ui, ur, ut⟩)) := hide (fun W t e => ⟨vi, vr, vt, by
    rw [e, ← hp, Im.set_same]
    exact (unhide U0).quiet t⟩)
  by_cases hz : q.ts.length = 0
  · have EQ : Hid (endQ m.ns q = q) := hide (by unfold endQ; rw [if_pos hz])
    rw [hz] at d5
    clear h h0 hi hg hp hin hpo hc hf d0 d3 PI via tia hll hlt TB KB U0 b0 hlen ev et
    go_enter Try.func37, Try.ntmps37
    go_wp2
    go_returns
    exact ⟨rfl, unhide US _ (Touch.refl _ _) (unhide EQ)⟩
  · cases hany : q.ts.any (behind q) with
    | true =>
      have EQ : Hid (endQ m.ns q = q) := hide (by unfold endQ; rw [if_neg hz, if_pos hany])
      rw [hany] at KB
      have hzb : ((q.ts.length : Int) == 0) = false := by simp; intro e; exact hz (by simp [e])
      have hzc : ¬ (q.ts.length : Int) = 0 := by omega
      clear h h0 hi hg hp hin hpo hc hf d0 d3 PI via tia hll hlt TB U0 b0 hlen ev et hany hz
      generalize q.ts.length = tl at *
      go_enter Try.func37, Try.ntmps37
      go_wp2_with (go_at_call 31; refine (unhide KB).mono ?_; rintro e w1 ⟨rfl, t1⟩; have T1 := hide t1; clear t1)
      go_returns
      exact ⟨rfl, unhide US _ (unhide T1) (unhide EQ)⟩
    | false =>
      rw [hany] at KB
      have hzb : ((q.ts.length : Int) == 0) = false := by simp; intro e; exact hz (by simp [e])
      have hzc : ¬ (q.ts.length : Int) = 0 := by omega
      have hpgw : pg < w.heap.size := h.lt (.inr (.inr (.inr (.inl (by rw [hg]; rfl)))))
      have KW : Hid (∀ W, Touch (fun _ => False) (w.alloc (.cells #[.pointer (some ⟨pg, i * 6, none⟩)] 58)) W → W.cell? ⟨w.heap.size, 0, none⟩ = some (.pointer (some ⟨pg, i * 6, none⟩)) ∧ (∀ f, f < 6 → W.cell? ⟨pg, i * 6 + f, none⟩ = (pmC ⟨q, vi, vr, vt⟩)[f]?) ∧ (∀ j, W.frozen? ⟨pg, j, none⟩ = false)) := hide (fun W t => by
        have e1 := t.block pg (Nat.lt_of_lt_of_le hpgw b0.size) (fun h => h)
        refine ⟨(World.cell?_of_block (a := ⟨w.heap.size, 0, none⟩) (t.block w.heap.size (lt_of_heap (unhide BX)) (fun h => h))).trans bc, fun f hff => (World.cell?_of_block (a := ⟨pg, i * 6 + f, none⟩) e1).trans (hc f hff), fun j => ?_⟩
        rw [← hf j]; unfold World.frozen?; rw [e1])
      have KC : Hid (∀ U W, Touch (fun _ => False) (w.alloc (.cells #[.pointer (some ⟨pg, i * 6, none⟩)] 58)) U → Below U.heap.size U W → Calls Try.prog 23 #[.slice ta q.ts.length tc] W fun e w' => ∃ a3 k3, e = .returned (.slice a3 q.ts.length k3) ∧ (w'.cell? ⟨w.heap.size, 0, none⟩ = some (.pointer (some ⟨pg, i * 6, none⟩)) ∧ w'.cell? ⟨pg, i * 6 + 5, none⟩ = some (.slice ta q.ts.length tc) ∧ w'.cell? ⟨pg, i * 6 + 4, none⟩ = some vr ∧ w'.cell? ⟨pg, i * 6 + 3, none⟩ = some (.slice va q.is.length vc) ∧ ∀ j, w'.frozen? ⟨pg, j, none⟩ = false) ∧ Hid (ImTo w mb m (((w'.setCell ⟨pg, i * 6 + 4, none⟩ (.slice ta q.ts.length tc)).setCell ⟨pg, i * 6 + 3, none⟩ (.slice a3 q.ts.length k3)).setCell ⟨pg, i * 6 + 5, none⟩ (.slice none 0 0)) (m.put i ⟨⟨q.ld, q.ep, q.ve, q.ts, q.ts, []⟩, .slice a3 q.ts.length k3, vt, .slice none 0 0⟩))) := hide (fun U W tU hb => by
        have tW : Touch (fun _ => False) (w.alloc (.cells #[.pointer (some ⟨pg, i * 6, none⟩)] 58)) W := tU.trans (Touch.of_below hb)
        refine (clonei_any (c := tc) (tia.keep tW (fun _ _ _ h => h)) (by omega) (fun e => by
          cases hts : q.ts with
          | nil => rfl
          | cons y r => exfalso; obtain ⟨b, off, e2, _⟩ := tia 0 (by rw [hts]; simp); rw [e] at e2; cases e2)).mono ?_
        rintro e w' ⟨v, rfl, j1, j2, j3⟩
        obtain ⟨a3, k3, e3, _⟩ := j1.iat
        subst e3
        have tw' : Touch (fun _ => False) (w.alloc (.cells #[.pointer (some ⟨pg, i * 6, none⟩)] 58)) w' := tW.trans (Touch.of_below j3)
        obtain ⟨q1, q2, q3⟩ := unhide KW w' tw'
        have bW : Below w.heap.size w w' := below_touch b0 tw' b0.size (fun _ h => h.elim)
        have sW : w.heap.size ≤ W.heap.size := Nat.le_trans b0.size tW.size
        refine ⟨a3, k3, rfl, ⟨q1, by rw [q2 5 (by omega)]; simp [pmC, et], by rw [q2 4 (by omega)]; rfl, by rw [q2 3 (by omega)]; simp [pmC, ev], q3⟩, hide ?_⟩
        have := h.moved hi hg hp bW j1 (j2.mono sW)
        rw [et] at this ⊢
        exact this)
      have HANY := hide hany
      have hvq := hpo.2
      clear h0 hc hf d0 PI via tia hll hlt TB U0 US hany hz
      go_enter Try.func37, Try.ntmps37
      go_upto_region 3 with (go_at_call 31; refine (unhide KB).mono ?_; rintro e w1 ⟨rfl, t1⟩; have T1 := hide t1; clear t1)
      obtain ⟨c0, cc, cfz⟩ := unhide KW w1 (unhide T1)
      have c5 := cc 5 (by omega)
      have c4 := cc 4 (by omega)
      have c3 := cc 3 (by omega)
      simp only [pmC, List.getElem?_cons_zero, List.getElem?_cons_succ] at c5 c4 c3
      rw [et] at c5
      have f4 := cfz (i * 6 + 4)
      have f3 := cfz (i * 6 + 3)
      have f5 := cfz (i * 6 + 5)
      clear cc cfz
      have HI := hide hi
      have HG := hide hg
      have HIN := hide hin
      have HPO := hide hpo
      have EV := hide ev
      have ET := hide et
      clear h hp hi hg hin hpo b0 ev et KB hlen d3 d5 bc
      go_cut [] from 20 (fun wx => ∃ a3 k3, Hid (ImTo w mb m wx (m.put i ⟨⟨q.ld, q.ep, q.ve, q.ts, q.ts, []⟩, .slice a3 q.ts.length k3, vt, .slice none 0 0⟩)) ∧ Hid (wx.cell? ⟨w.heap.size, 0, none⟩ = some (.pointer (some ⟨pg, i * 6, none⟩))))
      case first =>
        have hne : pg ≠ w.heap.size := by omega
        refine wp_region_held_drew (S := fun w' => w'.cell? ⟨w.heap.size, 0, none⟩ = some (.pointer (some ⟨pg, i * 6, none⟩))) (by kernel_rfl) (by simp [c0]) (fun hHeld => ?_)
        refine wpAnyH_take (i := 0) (v := .pointer (some ⟨pg, i * 6, none⟩)) rfl (by kernel_rfl) (by kernel_rfl) (by kernel_rfl) (fun _ _ _ h => h) (Or.inl ⟨by rfl, by intro w' hSw; (try dsimp only at hSw); go_simp⟩) (by assumption) ?_
        refine wpAnyH_take (i := 1) (v := .pointer (some ⟨pg, i * 6, none⟩)) rfl (by kernel_rfl) (by kernel_rfl) (by kernel_rfl) (fun _ _ _ h => h) (Or.inl ⟨by rfl, by intro w' hSw; (try dsimp only at hSw); go_simp⟩) (by assumption) ?_
        refine wpAnyH_take (i := 2) (v := .pointer (some ⟨pg, i * 6, none⟩)) rfl (by kernel_rfl) (by kernel_rfl) (by kernel_rfl) (fun _ _ _ h => h) (Or.inl ⟨by rfl, by intro w' hSw; (try dsimp only at hSw); go_simp⟩) (by assumption) ?_
        refine wpAnyH_take (i := 3) (v := .pointer (some ⟨pg, i * 6, none⟩)) rfl (by kernel_rfl) (by kernel_rfl) (by kernel_rfl) (fun _ _ _ h => h) (Or.inl ⟨by rfl, by intro w' hSw; (try dsimp only at hSw); go_simp⟩) (by assumption) ?_
        refine wpAnyH_take (i := 4) (v := .pointer (some ⟨pg, i * 6, none⟩)) rfl (by kernel_rfl) (by kernel_rfl) (by kernel_rfl) (fun _ _ _ h => h) (Or.inl ⟨by rfl, by intro w' hSw; (try dsimp only at hSw); go_simp⟩) (by assumption) ?_
        refine wpAnyH_take (i := 5) (v := .pointer (some ⟨pg, i * 6 + 5, none⟩)) rfl (by kernel_rfl) (by kernel_rfl) (by kernel_rfl) (fun _ _ _ h => h) (Or.inl ⟨by rfl, by intro w' hSw; (try dsimp only at hSw); go_simp⟩) (by assumption) ?_
        refine wpAnyH_take (i := 7) (v := .pointer (some ⟨pg, i * 6, none⟩)) rfl (by kernel_rfl) (by kernel_rfl) (by kernel_rfl) (fun _ _ _ h => h) (Or.inl ⟨by rfl, by intro w' hSw; (try dsimp only at hSw); go_simp⟩) (by assumption) ?_
        refine wpAnyH_take (i := 8) (v := .pointer (some ⟨pg, i * 6, none⟩)) rfl (by kernel_rfl) (by kernel_rfl) (by kernel_rfl) (fun _ _ _ h => h) (Or.inl ⟨by rfl, by intro w' hSw; (try dsimp only at hSw); go_simp⟩) (by assumption) ?_
        refine wpAnyH_take (i := 9) (v := .pointer (some ⟨pg, i * 6 + 5, none⟩)) rfl (by kernel_rfl) (by kernel_rfl) (by kernel_rfl) (fun _ _ _ h => h) (Or.inl ⟨by rfl, by intro w' hSw; (try dsimp only at hSw); go_simp⟩) (by assumption) ?_
        refine wpAnyH_ready (rs := [6, 10]) (by kernel_rfl) (by simp) ?_
        refine AllReadyH.cons rfl (fun K hK => ?_) ?_
        · skip
          go_simp
          refine hK.out _ _ ?_ (fun hHeld => ?_)
          · (try dsimp only); simp [c0]
          clear hK K
          refine wpAnyH_ready (rs := [10]) (by kernel_rfl) (by simp) ?_
          refine AllReadyH.cons rfl (fun K hK => ?_) ?_
          · skip
            go_simp
            refine hK.out _ _ ?_ (fun hHeld => ?_)
            · (try dsimp only); simp [c0]
            clear hK K
            refine wpAnyH_ready (rs := [11]) (by kernel_rfl) (by simp) ?_
            refine AllReadyH.cons rfl (fun K hK => ?_) ?_
            · skip
              go_simp
              go_wp2_with (go_at_call 23; refine (unhide KC w1 _ (unhide T1) (by first | exact Below.refl _ _ | exact Below.drew (Below.refl _ _) | exact below_drewN' (Below.refl _ _) _)).mono ?_; rintro e w2 ⟨a3, k3, rfl, ⟨r0, r5, r4, r3, rf⟩, S2⟩; have rf4 := rf (i * 6 + 4); have rf3 := rf (i * 6 + 3); have rf5 := rf (i * 6 + 5); clear rf)
              refine hK.out _ _ ?_ (fun hHeld => ?_)
              · (try dsimp only); exact r0
              clear hK K
              refine wpAnyH_take (i := 12) (v := .pointer (some ⟨pg, i * 6, none⟩)) rfl (by kernel_rfl) (by kernel_rfl) (by kernel_rfl) (fun _ _ _ h => h) (Or.inl ⟨by rfl, by intro w' hSw; (try dsimp only at hSw); go_simp⟩) (by assumption) ?_
              refine wpAnyH_take (i := 13) (v := .pointer (some ⟨pg, i * 6 + 4, none⟩)) rfl (by kernel_rfl) (by kernel_rfl) (by kernel_rfl) (fun _ _ _ h => h) (Or.inl ⟨by rfl, by intro w' hSw; (try dsimp only at hSw); go_simp⟩) (by assumption) ?_
              refine wpAnyH_ready (rs := [14]) (by kernel_rfl) (by simp) ?_
              refine AllReadyH.cons rfl (fun K hK => ?_) ?_
              · skip
                go_simp
                refine hK.out _ _ ?_ (fun hHeld => ?_)
                · (try dsimp only); simp [r0, World.cell?_setCell_far, hne]
                clear hK K
                refine wpAnyH_take (i := 15) (v := .pointer (some ⟨pg, i * 6, none⟩)) rfl (by kernel_rfl) (by kernel_rfl) (by kernel_rfl) (fun _ _ _ h => h) (Or.inl ⟨by rfl, by intro w' hSw; (try dsimp only at hSw); go_simp⟩) (by assumption) ?_
                refine wpAnyH_take (i := 16) (v := .pointer (some ⟨pg, i * 6 + 3, none⟩)) rfl (by kernel_rfl) (by kernel_rfl) (by kernel_rfl) (fun _ _ _ h => h) (Or.inl ⟨by rfl, by intro w' hSw; (try dsimp only at hSw); go_simp⟩) (by assumption) ?_
                refine wpAnyH_ready (rs := [17]) (by kernel_rfl) (by simp) ?_
                refine AllReadyH.cons rfl (fun K hK => ?_) ?_
                · skip
                  go_simp
                  refine hK.out _ _ ?_ (fun hHeld => ?_)
                  · (try dsimp only); simp [r0, World.cell?_setCell_far, hne]
                  clear hK K
                  refine wpAnyH_take (i := 18) (v := .pointer (some ⟨pg, i * 6, none⟩)) rfl (by kernel_rfl) (by kernel_rfl) (by kernel_rfl) (fun _ _ _ h => h) (Or.inl ⟨by rfl, by intro w' hSw; (try dsimp only at hSw); go_simp⟩) (by assumption) ?_
                  refine wpAnyH_take (i := 19) (v := .pointer (some ⟨pg, i * 6 + 5, none⟩)) rfl (by kernel_rfl) (by kernel_rfl) (by kernel_rfl) (fun _ _ _ h => h) (Or.inl ⟨by rfl, by intro w' hSw; (try dsimp only at hSw); go_simp⟩) (by assumption) ?_
                  refine wpAnyH_ready (rs := [20]) (by kernel_rfl) (by simp) ?_
                  refine AllReadyH.cons rfl (fun K hK => ?_) ?_
                  · skip
                    go_simp
                    refine hK.out _ _ ?_ (fun hHeld => ?_)
                    · (try dsimp only); simp [r0, World.cell?_setCell_far, hne]
                    clear hK K
                    refine wpAnyH_done (by kernel_rfl) ?_ _
                    have X0 : Hid ((((w2.setCell ⟨pg, i * 6 + 4, none⟩ (.slice ta q.ts.length tc)).setCell ⟨pg, i * 6 + 3, none⟩ (.slice a3 q.ts.length k3)).setCell ⟨pg, i * 6 + 5, none⟩ (.slice none 0 0)).cell? ⟨w.heap.size, 0, none⟩ = some (.pointer (some ⟨pg, i * 6, none⟩))) := hide (by
                      have t := (((touch_set w2 pg (i * 6 + 4) (.slice ta q.ts.length tc)).trans (touch_set _ pg (i * 6 + 3) (.slice a3 q.ts.length k3))).trans (touch_set _ pg (i * 6 + 5) (.slice none 0 0)))
                      exact (World.cell?_of_block (a := ⟨w.heap.size, 0, none⟩) (t.block w.heap.size (lt_of_cell r0) (by omega))).trans r0)
                    go_wp2_with fail
                    go_meet
                    exact ⟨a3, k3, S2, X0⟩
                  exact AllReadyH.nil
                exact AllReadyH.nil
              exact AllReadyH.nil
            exact AllReadyH.nil
          exact AllReadyH.nil
        refine AllReadyH.cons rfl (fun K hK => ?_) ?_
        · skip
          go_simp
          refine hK.out _ _ ?_ (fun hHeld => ?_)
          · (try dsimp only); simp [c0]
          clear hK K
          refine wpAnyH_ready (rs := [6, 11]) (by kernel_rfl) (by simp) ?_
          refine AllReadyH.cons rfl (fun K hK => ?_) ?_
          · skip
            go_simp
            refine hK.out _ _ ?_ (fun hHeld => ?_)
            · (try dsimp only); simp [c0]
            clear hK K
            refine wpAnyH_ready (rs := [11]) (by kernel_rfl) (by simp) ?_
            refine AllReadyH.cons rfl (fun K hK => ?_) ?_
            · skip
              go_simp
              go_wp2_with (go_at_call 23; refine (unhide KC w1 _ (unhide T1) (by first | exact Below.refl _ _ | exact Below.drew (Below.refl _ _) | exact below_drewN' (Below.refl _ _) _)).mono ?_; rintro e w2 ⟨a3, k3, rfl, ⟨r0, r5, r4, r3, rf⟩, S2⟩; have rf4 := rf (i * 6 + 4); have rf3 := rf (i * 6 + 3); have rf5 := rf (i * 6 + 5); clear rf)
              refine hK.out _ _ ?_ (fun hHeld => ?_)
              · (try dsimp only); exact r0
              clear hK K
              refine wpAnyH_take (i := 12) (v := .pointer (some ⟨pg, i * 6, none⟩)) rfl (by kernel_rfl) (by kernel_rfl) (by kernel_rfl) (fun _ _ _ h => h) (Or.inl ⟨by rfl, by intro w' hSw; (try dsimp only at hSw); go_simp⟩) (by assumption) ?_
              refine wpAnyH_take (i := 13) (v := .pointer (some ⟨pg, i * 6 + 4, none⟩)) rfl (by kernel_rfl) (by kernel_rfl) (by kernel_rfl) (fun _ _ _ h => h) (Or.inl ⟨by rfl, by intro w' hSw; (try dsimp only at hSw); go_simp⟩) (by assumption) ?_
              refine wpAnyH_ready (rs := [14]) (by kernel_rfl) (by simp) ?_
              refine AllReadyH.cons rfl (fun K hK => ?_) ?_
              · skip
                go_simp
                refine hK.out _ _ ?_ (fun hHeld => ?_)
                · (try dsimp only); simp [r0, World.cell?_setCell_far, hne]
                clear hK K
                refine wpAnyH_take (i := 15) (v := .pointer (some ⟨pg, i * 6, none⟩)) rfl (by kernel_rfl) (by kernel_rfl) (by kernel_rfl) (fun _ _ _ h => h) (Or.inl ⟨by rfl, by intro w' hSw; (try dsimp only at hSw); go_simp⟩) (by assumption) ?_
                refine wpAnyH_take (i := 16) (v := .pointer (some ⟨pg, i * 6 + 3, none⟩)) rfl (by kernel_rfl) (by kernel_rfl) (by kernel_rfl) (fun _ _ _ h => h) (Or.inl ⟨by rfl, by intro w' hSw; (try dsimp only at hSw); go_simp⟩) (by assumption) ?_
                refine wpAnyH_ready (rs := [17]) (by kernel_rfl) (by simp) ?_
                refine AllReadyH.cons rfl (fun K hK => ?_) ?_
                · skip
                  go_simp
                  refine hK.out _ _ ?_ (fun hHeld => ?_)
                  · (try dsimp only); simp [r0, World.cell?_setCell_far, hne]
                  clear hK K
                  refine wpAnyH_take (i := 18) (v := .pointer (some ⟨pg, i * 6, none⟩)) rfl (by kernel_rfl) (by kernel_rfl) (by kernel_rfl) (fun _ _ _ h => h) (Or.inl ⟨by rfl, by intro w' hSw; (try dsimp only at hSw); go_simp⟩) (by assumption) ?_
                  refine wpAnyH_take (i := 19) (v := .pointer (some ⟨pg, i * 6 + 5, none⟩)) rfl (by kernel_rfl) (by kernel_rfl) (by kernel_rfl) (fun _ _ _ h => h) (Or.inl ⟨by rfl, by intro w' hSw; (try dsimp only at hSw); go_simp⟩) (by assumption) ?_
                  refine wpAnyH_ready (rs := [20]) (by kernel_rfl) (by simp) ?_
                  refine AllReadyH.cons rfl (fun K hK => ?_) ?_
                  · skip
                    go_simp
                    refine hK.out _ _ ?_ (fun hHeld => ?_)
                    · (try dsimp only); simp [r0, World.cell?_setCell_far, hne]
                    clear hK K
                    refine wpAnyH_done (by kernel_rfl) ?_ _
                    have X0 : Hid ((((w2.setCell ⟨pg, i * 6 + 4, none⟩ (.slice ta q.ts.length tc)).setCell ⟨pg, i * 6 + 3, none⟩ (.slice a3 q.ts.length k3)).setCell ⟨pg, i * 6 + 5, none⟩ (.slice none 0 0)).cell? ⟨w.heap.size, 0, none⟩ = some (.pointer (some ⟨pg, i * 6, none⟩))) := hide (by
                      have t := (((touch_set w2 pg (i * 6 + 4) (.slice ta q.ts.length tc)).trans (touch_set _ pg (i * 6 + 3) (.slice a3 q.ts.length k3))).trans (touch_set _ pg (i * 6 + 5) (.slice none 0 0)))
                      exact (World.cell?_of_block (a := ⟨w.heap.size, 0, none⟩) (t.block w.heap.size (lt_of_cell r0) (by omega))).trans r0)
                    go_wp2_with fail
                    go_meet
                    exact ⟨a3, k3, S2, X0⟩
                  exact AllReadyH.nil
                exact AllReadyH.nil
              exact AllReadyH.nil
            exact AllReadyH.nil
          refine AllReadyH.cons rfl (fun K hK => ?_) ?_
          · skip
            go_simp
            go_wp2_with (go_at_call 23; refine (unhide KC w1 _ (unhide T1) (by first | exact Below.refl _ _ | exact Below.drew (Below.refl _ _) | exact below_drewN' (Below.refl _ _) _)).mono ?_; rintro e w2 ⟨a3, k3, rfl, ⟨r0, r5, r4, r3, rf⟩, S2⟩; have rf4 := rf (i * 6 + 4); have rf3 := rf (i * 6 + 3); have rf5 := rf (i * 6 + 5); clear rf)
            refine hK.out _ _ ?_ (fun hHeld => ?_)
            · (try dsimp only); exact r0
            clear hK K
            refine wpAnyH_ready (rs := [6]) (by kernel_rfl) (by simp) ?_
            refine AllReadyH.cons rfl (fun K hK => ?_) ?_
            · skip
              go_simp
              refine hK.out _ _ ?_ (fun hHeld => ?_)
              · (try dsimp only); simp [r0]
              clear hK K
              refine wpAnyH_take (i := 12) (v := .pointer (some ⟨pg, i * 6, none⟩)) rfl (by kernel_rfl) (by kernel_rfl) (by kernel_rfl) (fun _ _ _ h => h) (Or.inl ⟨by rfl, by intro w' hSw; (try dsimp only at hSw); go_simp⟩) (by assumption) ?_
              refine wpAnyH_take (i := 13) (v := .pointer (some ⟨pg, i * 6 + 4, none⟩)) rfl (by kernel_rfl) (by kernel_rfl) (by kernel_rfl) (fun _ _ _ h => h) (Or.inl ⟨by rfl, by intro w' hSw; (try dsimp only at hSw); go_simp⟩) (by assumption) ?_
              refine wpAnyH_ready (rs := [14]) (by kernel_rfl) (by simp) ?_
              refine AllReadyH.cons rfl (fun K hK => ?_) ?_
              · skip
                go_simp
                refine hK.out _ _ ?_ (fun hHeld => ?_)
                · (try dsimp only); simp [r0, World.cell?_setCell_far, hne]
                clear hK K
                refine wpAnyH_take (i := 15) (v := .pointer (some ⟨pg, i * 6, none⟩)) rfl (by kernel_rfl) (by kernel_rfl) (by kernel_rfl) (fun _ _ _ h => h) (Or.inl ⟨by rfl, by intro w' hSw; (try dsimp only at hSw); go_simp⟩) (by assumption) ?_
                refine wpAnyH_take (i := 16) (v := .pointer (some ⟨pg, i * 6 + 3, none⟩)) rfl (by kernel_rfl) (by kernel_rfl) (by kernel_rfl) (fun _ _ _ h => h) (Or.inl ⟨by rfl, by intro w' hSw; (try dsimp only at hSw); go_simp⟩) (by assumption) ?_
                refine wpAnyH_ready (rs := [17]) (by kernel_rfl) (by simp) ?_
                refine AllReadyH.cons rfl (fun K hK => ?_) ?_
                · skip
                  go_simp
                  refine hK.out _ _ ?_ (fun hHeld => ?_)
                  · (try dsimp only); simp [r0, World.cell?_setCell_far, hne]
                  clear hK K
                  refine wpAnyH_take (i := 18) (v := .pointer (some ⟨pg, i * 6, none⟩)) rfl (by kernel_rfl) (by kernel_rfl) (by kernel_rfl) (fun _ _ _ h => h) (Or.inl ⟨by rfl, by intro w' hSw; (try dsimp only at hSw); go_simp⟩) (by assumption) ?_
                  refine wpAnyH_take (i := 19) (v := .pointer (some ⟨pg, i * 6 + 5, none⟩)) rfl (by kernel_rfl) (by kernel_rfl) (by kernel_rfl) (fun _ _ _ h => h) (Or.inl ⟨by rfl, by intro w' hSw; (try dsimp only at hSw); go_simp⟩) (by assumption) ?_
                  refine wpAnyH_ready (rs := [20]) (by kernel_rfl) (by simp) ?_
                  refine AllReadyH.cons rfl (fun K hK => ?_) ?_
                  · skip
                    go_simp
                    refine hK.out _ _ ?_ (fun hHeld => ?_)
                    · (try dsimp only); simp [r0, World.cell?_setCell_far, hne]
                    clear hK K
                    refine wpAnyH_done (by kernel_rfl) ?_ _
                    have X0 : Hid ((((w2.setCell ⟨pg, i * 6 + 4, none⟩ (.slice ta q.ts.length tc)).setCell ⟨pg, i * 6 + 3, none⟩ (.slice a3 q.ts.length k3)).setCell ⟨pg, i * 6 + 5, none⟩ (.slice none 0 0)).cell? ⟨w.heap.size, 0, none⟩ = some (.pointer (some ⟨pg, i * 6, none⟩))) := hide (by
                      have t := (((touch_set w2 pg (i * 6 + 4) (.slice ta q.ts.length tc)).trans (touch_set _ pg (i * 6 + 3) (.slice a3 q.ts.length k3))).trans (touch_set _ pg (i * 6 + 5) (.slice none 0 0)))
                      exact (World.cell?_of_block (a := ⟨w.heap.size, 0, none⟩) (t.block w.heap.size (lt_of_cell r0) (by omega))).trans r0)
                    go_wp2_with fail
                    go_meet
                    exact ⟨a3, k3, S2, X0⟩
                  exact AllReadyH.nil
                exact AllReadyH.nil
              exact AllReadyH.nil
            exact AllReadyH.nil
          exact AllReadyH.nil
        exact AllReadyH.nil
      case rest =>
        obtain ⟨a3, k3, S, BC⟩ := hcut
        clear c0 c5 c4 c3 f4 f3 f5 KC KW
        have hi1 : i < (m.put i ⟨⟨q.ld, q.ep, q.ve, q.ts, q.ts, []⟩, .slice a3 q.ts.length k3, vt, .slice none 0 0⟩).ps.length := by rw [Im.put_len]; exact unhide HI
        have hg1 : (m.put i ⟨⟨q.ld, q.ep, q.ve, q.ts, q.ts, []⟩, .slice a3 q.ts.length k3, vt, .slice none 0 0⟩).pv = .slice (some ⟨pg, 0, none⟩) (m.put i ⟨⟨q.ld, q.ep, q.ve, q.ts, q.ts, []⟩, .slice a3 q.ts.length k3, vt, .slice none 0 0⟩).ps.length cap := by rw [Im.put_len]; exact unhide HG
        obtain ⟨pg2, cap2, e2, _, _, hc, hf⟩ := (unhide S).at_.pc hi1
        rw [hg1] at e2
        cases e2
        rw [Im.put_at] at hc
        have c2 := hc 2 (by omega)
        simp only [pmC, List.getElem?_cons_zero, List.getElem?_cons_succ] at c2
        have f2 := hf (i * 6 + 2)
        have bcc := unhide BC
        have wv1 : wrap64 (q.ve + 1) = q.ve + 1 := wrap64_low (by omega) (by omega)
        have wv2 : IntKind.i64.wrap (q.ve + 1) = q.ve + 1 := wrap_low (by omega) (by omega)
        have st := (unhide S).at_.st (p' := ⟨q1Of q, .slice a3 q.ts.length k3, vt, .slice none 0 0⟩) hi1 hg1 (f := 2) (o := i * 6 + 2) (by omega) rfl (.int .i64 (q.ve + 1)) (by rw [Im.put_at]; rfl) (by rw [Im.put_at]; exact ⟨rfl, rfl, rfl, rfl, rfl, rfl⟩)
        rw [Im.put_put] at st
        have S3 := hide ((unhide S).trans st)
        have BC3 : Hid ((wc.setCell ⟨pg, i * 6 + 2, none⟩ (.int .i64 (q.ve + 1))).cell? ⟨w.heap.size, 0, none⟩ = some (.pointer (some ⟨pg, i * 6, none⟩))) := hide ((World.cell?_of_block (a := ⟨w.heap.size, 0, none⟩) ((touch_set wc pg (i * 6 + 2) (.int .i64 (q.ve + 1))).block w.heap.size (lt_of_cell bcc) (by omega))).trans bcc)
        clear st hc hf hg1 hi1 S
        go_upto_region 5 with fail
        clear c2 f2 bcc BC wv1 wv2
        generalize wc.setCell ⟨pg, i * 6 + 2, none⟩ (.int .i64 (q.ve + 1)) = Y at *
        have hi2 : i < (m.put i ⟨q1Of q, .slice a3 q.ts.length k3, vt, .slice none 0 0⟩).ps.length := by rw [Im.put_len]; exact unhide HI
        have hg2 : (m.put i ⟨q1Of q, .slice a3 q.ts.length k3, vt, .slice none 0 0⟩).pv = .slice (some ⟨pg, 0, none⟩) (m.put i ⟨q1Of q, .slice a3 q.ts.length k3, vt, .slice none 0 0⟩).ps.length cap := by rw [Im.put_len]; exact unhide HG
        obtain ⟨pg2, cap2, e2, _, _, hc, hf⟩ := (unhide S3).at_.pc hi2
        rw [hg2] at e2
        cases e2
        rw [Im.put_at] at hc
        have c0 := hc 0 (by omega)
        have c3 := hc 3 (by omega)
        simp only [pmC, q1Of, List.getElem?_cons_zero, List.getElem?_cons_succ, Nat.add_zero] at c0 c3
        have bcc := unhide BC3
        have PI := (unhide S3).at_.each i hi2
        rw [Im.put_at] at PI
        obtain ⟨va3, vc3, ev3, via3, _, _, _⟩ := PI.li.iat
        have hl3 := PI.li.len
        simp only [q1Of] at ev3 via3 hl3
        injection ev3 with ev4 ev5 ev6
        subst ev4 ev6
        have KC3 : Hid (∀ W, Touch (fun _ => False) Y W → Calls Try.prog 29 #[.slice a3 q.ts.length k3, .int .i64 q.ld] W fun e w' => e = .returned (.bool (q.ts.contains q.ld)) ∧ w' = W) := hide (fun W t => contains_any (c := k3) q.ld (via3.keep t (fun _ _ _ h => h)) hl3)
        have KE : Hid (∀ W, Touch (fun _ => False) Y W → Calls Try.prog 30 #[.pointer (some ⟨mb, 0, none⟩), .pointer (some ⟨pg, i * 6, none⟩)] W fun e w' => e = .returned (.tuple #[]) ∧ ImTo w mb m w' (m.put i ⟨electQ m.ns (q1Of q), .slice a3 q.ts.length k3, vt, .slice none 0 0⟩)) := hide (fun W t => by
          refine (elect_any ((unhide S3).at_.quiet t) hi2 hg2 (Im.put_at _ _ _ _) (unhide HIN) (unhide HPO).1.1 (unhide HPO).1.2).mono ?_
          rintro e w' ⟨rfl, t2⟩
          have := ((unhide S3).quiet t).trans t2
          rw [Im.put_put] at this
          exact ⟨rfl, this⟩)
        have HZ : Hid (¬ q.ts.length = 0) := hide (by omega)
        have EQ : Hid (endQ m.ns q = if q.ts.contains q.ld then q1Of q else electQ m.ns (q1Of q)) := hide (by unfold endQ; rw [if_neg (unhide HZ), if_neg (by rw [unhide HANY]; simp)])
        clear hc hf PI via3 hl3 hi2 hg2 ev5
        cases hcl : q.ts.contains q.ld with
        | true =>
          rw [hcl] at KC3
          have EQ2 : Hid (endQ m.ns q = q1Of q) := hide (by rw [unhide EQ, hcl]; rfl)
          clear KE EQ HANY
          generalize q.ts.length = tl at *
          generalize q.ld = ld at *
          go_quiet (first | (go_at_call 29; exact Calls.quiet_of_same (unhide KC3 _ (tdrew _ _))))
          go_wp2
          go_returns
          exact ⟨rfl, _, _, _, by rw [unhide EQ2]; exact (unhide S3).quiet (tdrew _ _)⟩
        | false =>
          rw [hcl] at KC3
          have EQ2 : Hid (endQ m.ns q = electQ m.ns (q1Of q)) := hide (by rw [unhide EQ, hcl]; rfl)
          clear EQ HANY
          generalize q.ts.length = tl at *
          generalize q.ld = ld at *
          go_quiet (first | (go_at_call 29; exact Calls.quiet_of_same (unhide KC3 _ (tdrew _ _))))
          go_wp2_with (go_at_call 30; refine (unhide KE _ (tdrew _ _)).mono ?_; rintro e w9 ⟨rfl, t9⟩; have T9 := hide t9; clear t9)
          go_returns
          exact ⟨rfl, _, _, _, by rw [unhide EQ2]; exact unhide T9⟩
end
end Go.Proofs.Ythaedepnglincaa
