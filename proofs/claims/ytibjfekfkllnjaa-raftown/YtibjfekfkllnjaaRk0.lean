/-
  The document's copies of layer 12 (bytes, list, Copy), and Same of layer 3 at two that are alike. Conditions: a list of at most 2^42 - 128 entries.
-/
import Derived.Test.YtibjfekfkllnjaaRtb
namespace Go.Proofs.Ytibjfekfkllnjaa
open Go.RowKit Go.Maps
set_option linter.unusedVariables false

set_option maxRecDepth 100000 in
theorem refBytes_any {w : World} {a : Option Addr} {l : List Nat} {c : Nat} (h : LAt w a l) (hn : a = none → c = 0) (hl : l.length ≤ 140737488355328) : Calls Try.prog 30 #[.slice a l.length c] w fun e w' => ClPost w l e w' := by
  have SRC := hide h
  clear h
  have F : Hid (∀ v' w', Row w' v' ([] ++ l) → Touch (fun k => (Value.slice none 0 0).ownBlock = some k) w w' → Moved w (.slice none 0 0) v' → ClPost w l (.returned v') w') := fun v' w' r t m => by
    obtain ⟨a', c', e, h1, h2, h3, h4, h5, _⟩ := r.parts
    simp only [List.nil_append] at e r
    subst e
    refine ⟨a', c', rfl, r, fun k hk => ?_, ?_⟩
    · rcases m k hk with e | e
      · simp [Value.ownBlock] at e
      · exact e
    · exact ⟨t.os, t.tape, t.output, t.size, fun k hk => t.block k hk (by simp [Value.ownBlock])⟩
  go_enter Try.func30, Try.ntmps30
  go_wp2_with (at_builtin; refine wpList_row _ rfl (.tmp 4) (.tmp 5) rfl _ [] rfl (Row.nil _) _ _ l rfl (unhide SRC) hn (by simp; exact hl) ?_; intro v' w' r t m)
  have FF := hide (unhide F v' w' r t m)
  obtain ⟨a', n', c', rfl⟩ := r.shape
  clear F r t m SRC
  go_wp2
  go_returns
  exact unhide FF
set_option maxRecDepth 100000 in
set_option maxHeartbeats 2000000 in
theorem refList_any {w : World} {a : Option Addr} {cap : Nat} {ps : List En} (h : EArr w a ps) (hn : ps.length ≤ 4398046510976) : Calls Try.prog 31 #[.slice a ps.length cap] w fun e w' => OsPost w (ps.map En.abs) e w' := by
  have HA := hide h
  clear h
  go_enter Try.func31, Try.ntmps31
  go_wp2_with fail
  go_loopw [3, 4] (fun s3 s8 wr => ∃ k qs, k ≤ ps.length ∧ s8 = .int .i64 (k : Int) ∧ EL 64 wr s3 qs ∧ qs.map En.abs = (ps.take k).map En.abs ∧ (∀ j, ELB s3 qs j → w.heap.size ≤ j) ∧ Below w.heap.size w wr) (fun _ pl _ => ps.length - (intOf pl).toNat)
  case atStart => exact ⟨0, [], Nat.zero_le _, rfl, EL.nil _ _, by simp, fun j hj => (ELB_nil hj).elim, Below.refl _ _⟩
  case round =>
    obtain ⟨k, qs, hk, rfl, lq, hq, hb, br⟩ := hrel
    have hql : qs.length = k := by
      have := congrArg List.length hq
      simpa [Nat.min_eq_left hk] using this
    by_cases hkl : k < ps.length
    · have hkl' : (k : Int) < (ps.length : Int) := by omega
      have hz : (0 : Int) ≤ (k : Int) := by omega
      obtain ⟨b, off, rfl, hbl, y0, y1⟩ := ((unhide HA).later br).cell k hkl
      have PI := hide (((unhide HA).later br).each _ (List.getElem_mem hkl))
      have TK : Hid ((ps.take (k + 1)).map En.abs = (ps.take k).map En.abs ++ [ps[k].abs]) := by
        show _ = _
        rw [List.take_succ_eq_append_getElem hkl, List.map_append, List.map_singleton]
      generalize ps[k] = p at *
      obtain ⟨t, pa, pc, l⟩ := p
      simp only [enS] at y0 y1
      have CL : Hid (∀ X, Below wr.heap.size wr X → Calls Try.prog 30 #[.slice pa l.length pc] X fun e w' => ClPost X l e w') := fun X hX => refBytes_any ((unhide PI).later hX).at_ (unhide PI).none (unhide PI).len
      have LL : Hid (l.length ≤ 140737488355328) := (unhide PI).len
      have YA : Hid (∀ X, Below wr.heap.size wr X → X.cell? ⟨b, off + k * 2, none⟩ = some (.int .i64 t) ∧ X.cell? ⟨b, off + k * 2 + 1, none⟩ = some (.slice pa l.length pc)) := fun X hX => ⟨(hX.cell (p := ⟨b, off + k * 2, none⟩) hbl).trans y0, (hX.cell (p := ⟨b, off + k * 2 + 1, none⟩) hbl).trans y1⟩
      have LQ := hide lq
      have HQ := hide hq
      have HB := hide hb
      have BA := hide br
      have hqn2 : qs.length ≤ 4398046510976 := by omega
      have HQN2 := hide hqn2
      obtain ⟨qa, qc, rfl⟩ := lq.row.shape
      clear lq hq hb PI hql br hqn2
      generalize hml : l.length = ml at *
      have HML := hide hml
      clear hml
      generalize hqn : qs.length = qn at *
      have HQN := hide hqn
      clear hqn
      go_wp2_with fail
      go_region_law (first
        | (go_simp; go_at_call 30; refine (unhide CL _ (by go_grown)).mono ?_; rintro e w2 ⟨a', c', rfl, pr, pn, pb⟩; have B2 : Hid (Below wr.heap.size wr w2) := (by first | exact pb | exact (below_drewN3 (Below.refl _ _) _).trans (pb.mono (Nat.le_refl _))); have y2 := (unhide YA w2 (unhide B2)).1; have y3 := (unhide YA w2 (unhide B2)).2)
        | (refine step_two entry_info Try.underlying50 rfl (.tmp 11) (.tmp 24) rfl (.slice qa qn qc) qn (qs.flatMap enC) (by rfl) (by have := (unhide LQ).row.later ((unhide B2).trans (((Below.refl _ _).alloc (Nat.le_refl _) (.cells #[.int .i64 t, .slice a' l.length c'] 64)).mono (unhide B2).size)); rw [unhide HQN] at this; exact this) _ _ _ (by rfl) (heap_new _ _) rfl rfl (by intro u hu; simp at hu; rcases hu with rfl | rfl <;> rfl) (unhide HQN2) ?_; intro v3 w3 o3 t3 m3))
      all_goals
        obtain ⟨l3, n3⟩ := EL.more (p := ⟨t, a', c', l⟩) (w0 := wr) (unhide LQ) (by decide) ((unhide B2).trans (((Below.refl _ _).alloc (Nat.le_refl _) (.cells #[.int .i64 t, .slice a' l.length c'] 64)).mono (unhide B2).size)) (by rw [unhide HQN]; exact o3) t3 m3 ⟨pr.later ((Below.refl _ _).alloc (Nat.le_refl _) _), by rw [unhide HML]; exact unhide LL⟩ pn
        have FF : Hid (∃ k_1 qs, k_1 ≤ ps.length ∧ (k : Int) + 1 = (k_1 : Int) ∧ EL 64 w3 v3 qs ∧ qs.map En.abs = (ps.take k_1).map En.abs ∧ (∀ j, ELB v3 qs j → w.heap.size ≤ j) ∧ Below w.heap.size w w3) := by
          refine ⟨k + 1, qs ++ [⟨t, a', c', l⟩], by omega, by omega, l3, ?_, fun j hj => ?_, ?_⟩
          · rw [unhide TK, ← unhide HQ, List.map_append, List.map_singleton]
          · rcases n3 j hj with e | e
            · exact unhide HB j e
            · exact Nat.le_trans (unhide BA).size e
          · have bb := (unhide BA).trans (((unhide B2).trans (((Below.refl _ _).alloc (Nat.le_refl _) (.cells #[.int .i64 t, .slice a' l.length c'] 64)).mono (unhide B2).size)).mono (unhide BA).size)
            exact below_touch bb t3 bb.size (fun j hj => unhide HB j (.inl hj))
        obtain ⟨a3, c3, rfl⟩ := o3.shape
        clear o3 t3 m3 l3 n3 B2 LQ HQ HB BA pn pb pr TK CL YA y2 y3
        go_wp2
        go_roundw
        case rel =>
          obtain ⟨k1, qs1, f1, f2, f3⟩ := unhide FF
          exact ⟨k1, qs1, f1, by go_num, f3⟩
        case measure => simp [intOf]; omega
    · obtain rfl : k = ps.length := by omega
      obtain ⟨qa, qc, rfl⟩ := lq.row.shape
      have F : Hid (OsPost w (ps.map En.abs) (.returned (.slice qa qs.length qc)) wr) := ⟨_, qs, rfl, lq, by rw [hq, List.take_length], hb, br⟩
      clear lq hq hb br
      go_wp2
      go_returns
      exact unhide F
set_option maxRecDepth 100000 in
set_option maxHeartbeats 2000000 in
theorem refCopy_any {w : World} {h : Hd} (x : HIn w h) : Calls Try.prog 17 #[hdV h] w fun e w' => OhPost w h e w' := by
  obtain ⟨T, vo, base, bt, a, c, l, la, lc, ps⟩ := h
  obtain ⟨h1, h2, h3, h4, h5⟩ := x
  simp only at h1 h2 h3 h4 h5
  unfold hdV hdS hdL
  dsimp only
  have hA : Below w.heap.size w (w.alloc (.cells #[.int .i64 T, .int .i64 vo, .int .i64 base, .int .i64 bt, .slice a l.length c, .slice la ps.length lc] 52)) := (Below.refl _ _).alloc (Nat.le_refl _) _
  have hB : Below w.heap.size w ((w.alloc (.cells #[.int .i64 T, .int .i64 vo, .int .i64 base, .int .i64 bt, .slice a l.length c, .slice la ps.length lc] 52)).alloc (.cells #[.int .i64 0, .int .i64 0, .int .i64 0, .int .i64 0, .slice none 0 0, .slice none 0 0] 52)) := hA.alloc (by simp) _
  have K := hide (refBytes_any (h1.later hB) h2 h3)
  have HB := hide hB
  have G0 : Hid (((w.alloc (.cells #[.int .i64 T, .int .i64 vo, .int .i64 base, .int .i64 bt, .slice a l.length c, .slice la ps.length lc] 52)).alloc (.cells #[.int .i64 0, .int .i64 0, .int .i64 0, .int .i64 0, .slice none 0 0, .slice none 0 0] 52)).heap[w.heap.size]? = some (.cells #[.int .i64 T, .int .i64 vo, .int .i64 base, .int .i64 bt, .slice a l.length c, .slice la ps.length lc] 52)) := heap_old _ (heap_new _ _)
  have G1 : Hid (((w.alloc (.cells #[.int .i64 T, .int .i64 vo, .int .i64 base, .int .i64 bt, .slice a l.length c, .slice la ps.length lc] 52)).alloc (.cells #[.int .i64 0, .int .i64 0, .int .i64 0, .int .i64 0, .slice none 0 0, .slice none 0 0] 52)).heap[w.heap.size + 1]? = some (.cells #[.int .i64 0, .int .i64 0, .int .i64 0, .int .i64 0, .slice none 0 0, .slice none 0 0] 52)) := by
    have := heap_new (w.alloc (.cells #[.int .i64 T, .int .i64 vo, .int .i64 base, .int .i64 bt, .slice a l.length c, .slice la ps.length lc] 52)) (.cells #[.int .i64 0, .int .i64 0, .int .i64 0, .int .i64 0, .slice none 0 0, .slice none 0 0] 52)
    rw [World.size_alloc] at this
    exact this
  have Z : Hid (((w.alloc (.cells #[.int .i64 T, .int .i64 vo, .int .i64 base, .int .i64 bt, .slice a l.length c, .slice la ps.length lc] 52)).alloc (.cells #[.int .i64 0, .int .i64 0, .int .i64 0, .int .i64 0, .slice none 0 0, .slice none 0 0] 52)).heap.size = w.heap.size + 2) := by show _ = _; simp
  have k4 : ((w.alloc (.cells #[.int .i64 T, .int .i64 vo, .int .i64 base, .int .i64 bt, .slice a l.length c, .slice la ps.length lc] 52)).alloc (.cells #[.int .i64 0, .int .i64 0, .int .i64 0, .int .i64 0, .slice none 0 0, .slice none 0 0] 52)).cell? ⟨w.heap.size, 4, none⟩ = some (.slice a l.length c) := cell_of (unhide G0) 4
  have EA := hide h4
  have HL := hide h3
  clear h1 h2 hA hB h3 h4
  generalize hm : l.length = m at *
  have HM := hide hm
  clear hm
  have OE : Hid (∀ X, Below w.heap.size w X → Calls Try.prog 31 #[.slice la ps.length lc] X fun e w' => OsPost X (ps.map En.abs) e w') := fun X hX => refList_any ((unhide EA).later hX) h5
  generalize hpl : ps.length = pl at *
  have HPL := hide hpl
  clear hpl h5
  go_enter Try.func17, Try.ntmps17
  go_wp2_with fail
  generalize (w.alloc (.cells #[.int .i64 T, .int .i64 vo, .int .i64 base, .int .i64 bt, .slice a m c, .slice la pl lc] 52)).alloc (.cells #[.int .i64 0, .int .i64 0, .int .i64 0, .int .i64 0, .slice none 0 0, .slice none 0 0] 52) = W at *
  refine (unhide K).mono ?_
  rintro e w1 ⟨a', c', rfl, r1, n1, b1⟩
  rw [unhide HM] at r1 n1 ⊢
  have g0 := below_keep b1 (unhide G0)
  have g1 := below_keep b1 (unhide G1)
  have x4 : w1.cell? ⟨w.heap.size, 4, none⟩ = some (.slice a m c) := cell_of g0 4
  have x5 : w1.cell? ⟨w.heap.size, 5, none⟩ = some (.slice la pl lc) := cell_of g0 5
  have f4 : w1.frozen? ⟨w.heap.size, 4, none⟩ = false := frozen_of g0 4
  have bw1 : Below w.heap.size w (w1.setCell ⟨w.heap.size, 4, none⟩ (.slice a' m c')) := ((unhide HB).trans (b1.mono (unhide HB).size)).setCell (p := ⟨w.heap.size, 4, none⟩) (Nat.le_refl _) _
  have OE1 := hide (unhide OE _ bw1)
  have hle : w.heap.size + 2 ≤ w1.heap.size := by have := b1.size; rw [unhide Z] at this; exact this
  have g0' : (w1.setCell ⟨w.heap.size, 4, none⟩ (.slice a' m c')).heap[w.heap.size]? = some (.cells #[.int .i64 T, .int .i64 vo, .int .i64 base, .int .i64 bt, .slice a' m c', .slice la pl lc] 52) := heap_set g0 4 _
  have g1' : (w1.setCell ⟨w.heap.size, 4, none⟩ (.slice a' m c')).heap[w.heap.size + 1]? = some (.cells #[.int .i64 0, .int .i64 0, .int .i64 0, .int .i64 0, .slice none 0 0, .slice none 0 0] 52) := (touch_set w1 w.heap.size 4 (.slice a' m c')).keep g1 (show ¬ w.heap.size + 1 = w.heap.size by omega)
  have s1 : (w1.setCell ⟨w.heap.size, 4, none⟩ (.slice a' m c')).heap.size = w1.heap.size := by simp [World.setCell]
  have R1' : Hid (Row (w1.setCell ⟨w.heap.size, 4, none⟩ (.slice a' m c')) (.slice a' m c') l) := r1.keep (touch_set w1 w.heap.size 4 _) (fun k hk e => by have := n1 k hk; rw [unhide Z] at this; omega)
  have G0' := hide g0'
  have G1' := hide g1'
  have BW1 := hide bw1
  have N1 := hide n1
  have RL := hide r1.lt
  have x5' : (w1.setCell ⟨w.heap.size, 4, none⟩ (.slice a' m c')).cell? ⟨w.heap.size, 5, none⟩ = some (.slice la pl lc) := cell_of g0' 5
  clear K HB G0 G1 k4 g0 g1 g0' g1' bw1 n1 r1 b1 OE
  go_wp2_with fail
  generalize w1.setCell ⟨w.heap.size, 4, none⟩ (.slice a' m c') = W1 at *
  refine (unhide OE1).mono ?_
  rintro e w2 ⟨v', ps', rfl, l2, q2, n2, b2⟩
  obtain ⟨la', lc', rfl⟩ := l2.row.shape
  have g0 := below_keep b2 (unhide G0')
  have g1 := below_keep b2 (unhide G1')
  have x0 : w2.cell? ⟨w.heap.size, 0, none⟩ = some (.int .i64 T) := cell_of g0 0
  have x1 : w2.cell? ⟨w.heap.size, 1, none⟩ = some (.int .i64 vo) := cell_of g0 1
  have x2 : w2.cell? ⟨w.heap.size, 2, none⟩ = some (.int .i64 base) := cell_of g0 2
  have x3 : w2.cell? ⟨w.heap.size, 3, none⟩ = some (.int .i64 bt) := cell_of g0 3
  have x4 : w2.cell? ⟨w.heap.size, 4, none⟩ = some (.slice a' m c') := cell_of g0 4
  have x5 : w2.cell? ⟨w.heap.size, 5, none⟩ = some (.slice la pl lc) := cell_of g0 5
  have f5 : w2.frozen? ⟨w.heap.size, 5, none⟩ = false := frozen_of g0 5
  have y0 : w2.cell? ⟨w.heap.size + 1, 0, none⟩ = some (.int .i64 0) := cell_of g1 0
  have y1 : w2.cell? ⟨w.heap.size + 1, 1, none⟩ = some (.int .i64 0) := cell_of g1 1
  have y2 : w2.cell? ⟨w.heap.size + 1, 2, none⟩ = some (.int .i64 0) := cell_of g1 2
  have y3 : w2.cell? ⟨w.heap.size + 1, 3, none⟩ = some (.int .i64 0) := cell_of g1 3
  have y4 : w2.cell? ⟨w.heap.size + 1, 4, none⟩ = some (.slice none 0 0) := cell_of g1 4
  have y5 : w2.cell? ⟨w.heap.size + 1, 5, none⟩ = some (.slice none 0 0) := cell_of g1 5
  have e0 : w2.frozen? ⟨w.heap.size + 1, 0, none⟩ = false := frozen_of g1 0
  have e1 : w2.frozen? ⟨w.heap.size + 1, 1, none⟩ = false := frozen_of g1 1
  have e2 : w2.frozen? ⟨w.heap.size + 1, 2, none⟩ = false := frozen_of g1 2
  have e3 : w2.frozen? ⟨w.heap.size + 1, 3, none⟩ = false := frozen_of g1 3
  have e4 : w2.frozen? ⟨w.heap.size + 1, 4, none⟩ = false := frozen_of g1 4
  have e5 : w2.frozen? ⟨w.heap.size + 1, 5, none⟩ = false := frozen_of g1 5
  have hle2 : w.heap.size + 2 ≤ w2.heap.size := by have := b2.size; omega
  have F : Hid (∀ V, V = (((((((w2.setCell ⟨w.heap.size, 5, none⟩ (.slice la' ps'.length lc')).setCell ⟨w.heap.size + 1, 0, none⟩ (.int .i64 T)).setCell ⟨w.heap.size + 1, 1, none⟩ (.int .i64 vo)).setCell ⟨w.heap.size + 1, 2, none⟩ (.int .i64 base)).setCell ⟨w.heap.size + 1, 3, none⟩ (.int .i64 bt)).setCell ⟨w.heap.size + 1, 4, none⟩ (.slice a' m c')).setCell ⟨w.heap.size + 1, 5, none⟩ (.slice la' ps'.length lc')) →
      V.heap[w.heap.size + 1]? = some (.cells #[.int .i64 T, .int .i64 vo, .int .i64 base, .int .i64 bt, .slice a' m c', .slice la' ps'.length lc'] 52) ∧ OhPost w ⟨T, vo, base, bt, a, c, l, la, lc, ps⟩ (.returned (.agg #[.int .i64 T, .int .i64 vo, .int .i64 base, .int .i64 bt, .slice a' m c', .slice la' ps'.length lc'])) V) := fun V hV => by
    subst hV
    have t1 := touch_set w2 w.heap.size 5 (.slice la' ps'.length lc')
    have gg := t1.keep g1 (show ¬ w.heap.size + 1 = w.heap.size by omega)
    have TT : Touch (fun k => k = w.heap.size ∨ k = w.heap.size + 1) w2 (((((((w2.setCell ⟨w.heap.size, 5, none⟩ (.slice la' ps'.length lc')).setCell ⟨w.heap.size + 1, 0, none⟩ (.int .i64 T)).setCell ⟨w.heap.size + 1, 1, none⟩ (.int .i64 vo)).setCell ⟨w.heap.size + 1, 2, none⟩ (.int .i64 base)).setCell ⟨w.heap.size + 1, 3, none⟩ (.int .i64 bt)).setCell ⟨w.heap.size + 1, 4, none⟩ (.slice a' m c')).setCell ⟨w.heap.size + 1, 5, none⟩ (.slice la' ps'.length lc')) :=
      (((((((Touch.refl _ w2).setCell (p := ⟨w.heap.size, 5, none⟩) (.inl rfl) _).setCell (p := ⟨w.heap.size + 1, 0, none⟩) (.inr rfl) _).setCell (p := ⟨w.heap.size + 1, 1, none⟩) (.inr rfl) _).setCell (p := ⟨w.heap.size + 1, 2, none⟩) (.inr rfl) _).setCell (p := ⟨w.heap.size + 1, 3, none⟩) (.inr rfl) _).setCell (p := ⟨w.heap.size + 1, 4, none⟩) (.inr rfl) _).setCell (p := ⟨w.heap.size + 1, 5, none⟩) (.inr rfl) _
    have hn1 : ∀ k, (Value.slice a' m c').ownBlock = some k → w.heap.size + 2 ≤ k ∧ k < w1.heap.size := fun k hk => by
      have h1 := unhide N1 k hk
      have h2 := unhide RL k hk
      rw [unhide Z] at h1
      omega
    refine ⟨set6 gg _ _ _ _ _ _, ⟨T, vo, base, bt, a', c', l, la', lc', ps'⟩, ?_, ⟨rfl, rfl, rfl, rfl, rfl, q2⟩, ⟨?_, ?_, ?_, ?_, ?_, ?_⟩, ?_⟩
    · show _ = Ending.returned (.agg #[.int .i64 T, .int .i64 vo, .int .i64 base, .int .i64 bt, .slice a' l.length c', .slice la' ps'.length lc'])
      rw [unhide HM]
    · show Row _ (.slice a' l.length c') l
      rw [unhide HM]
      exact ((unhide R1').later b2).keep TT (fun k hk e => by have := hn1 k hk; omega)
    · show New w (.slice a' l.length c')
      rw [unhide HM]
      intro k hk
      have := hn1 k hk
      omega
    · show l.length ≤ _
      rw [unhide HM]; exact unhide HL
    · exact l2.keep TT (fun k hk e => by have := n2 k hk; omega)
    · intro k hk
      have := n2 k hk
      omega
    · show ∀ k, (Value.slice a' l.length c').ownBlock = some k → _
      rw [unhide HM]
      intro k hk e
      have h1 := hn1 k hk
      have h2 := n2 k e
      omega
    · have bb : Below w.heap.size w w2 := (unhide BW1).trans (b2.mono (unhide BW1).size)
      exact below_touch bb TT bb.size (fun k hk => by omega)
  clear OE1 G0' G1' BW1 N1 RL R1' l2 q2 n2 b2 g0 g1 HL HM HPL EA Z
  go_wp2
  obtain ⟨vg, vf⟩ := unhide F _ rfl
  generalize ((((((w2.setCell ⟨w.heap.size, 5, none⟩ (.slice la' ps'.length lc')).setCell ⟨w.heap.size + 1, 0, none⟩ (.int .i64 T)).setCell ⟨w.heap.size + 1, 1, none⟩ (.int .i64 vo)).setCell ⟨w.heap.size + 1, 2, none⟩ (.int .i64 base)).setCell ⟨w.heap.size + 1, 3, none⟩ (.int .i64 bt)).setCell ⟨w.heap.size + 1, 4, none⟩ (.slice a' m c')).setCell ⟨w.heap.size + 1, 5, none⟩ (.slice la' ps'.length lc') = V at *
  have v0 := cell_of vg 0
  have v1 := cell_of vg 1
  have v2 := cell_of vg 2
  have v3 := cell_of vg 3
  have v4 := cell_of vg 4
  have v5 := cell_of vg 5
  simp only [List.getElem?_toArray, List.getElem?_cons_zero, List.getElem?_cons_succ] at v0 v1 v2 v3 v4 v5
  refine bodyPost_ret (by simp [results, Try.results17, go_sem, v0, v1, v2, v3, v4, v5]; try rfl) rfl ?_
  exact vf
set_option maxRecDepth 100000 in
set_option maxHeartbeats 2000000 in
theorem same03_any (w : World) (a c : Option Addr) (ca cc : Nat) (l : List Nat) (ha : LAt w a l) (hc : LAt w c l) (hl : l.length ≤ 9223372036854775807) :
    Calls Try.prog 15 #[.slice a l.length ca, .slice c l.length cc] w fun e w' => e = .returned (.bool true) ∧ ∃ n, w' = w.drewN n := by
  have HA := hide ha
  have HC := hide hc
  clear ha hc
  go_enter Try.func15, Try.ntmps15
  go_wp2_with fail
  go_loopw [5] (fun i wr => ∃ k n : Nat, k ≤ l.length ∧ i = .int .i64 k ∧ wr = w.drewN n) (fun i _ => l.length - (intOf i).toNat)
  case atStart => exact ⟨0, 0, Nat.zero_le _, rfl, rfl⟩
  case round =>
    obtain ⟨k, n, hk, rfl, rfl⟩ := hrel
    by_cases h8 : k < l.length
    · obtain ⟨b1, o1, rfl, _, e1, _⟩ := (unhide HA).cell h8
      obtain ⟨b2, o2, rfl, _, e2, _⟩ := (unhide HC).cell h8
      have h8' : (k : Int) < (l.length : Int) := by omega
      generalize l.getD k 0 = x at *
      go_wp2_with fail
      go_quiet (fail)
      go_wp2
      go_roundw
      case rel => exact ⟨k + 1, n + nq, by omega, by go_num, by simp⟩
      case measure => simp [intOf]; omega
    · obtain rfl : k = l.length := by omega
      go_wp2
      go_returns
      exact ⟨rfl, n, rfl⟩
end Go.Proofs.Ytibjfekfkllnjaa
