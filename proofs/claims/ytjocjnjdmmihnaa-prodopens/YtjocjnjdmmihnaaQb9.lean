/-
  prod's producer.add of any batch, walked. Conditions: the producer is one, with at most five last batches.
-/
import Derived.Test.YtjocjnjdmmihnaaQa9
namespace Go.Proofs.Ytjocjnjdmmihnaa
open Go.RowKit
set_option linter.unusedVariables false

structure Fld (p q : Pd) : Prop where
  ep : q.ep = p.ep
  nx : q.nx = p.nx
  op : q.op = p.op
  fi : q.fi = p.fi
theorem AdS.later {w W W' : World} {gp : Nat} {p p1 : Pd} {ls : List Sn} {b : Bt} {a : Option Addr} {cap : Nat} (h : AdS w W gp p p1 ls b a cap) (hb : Below W.heap.size W W') : AdS w W' gp p p1 ls b a cap :=
  ⟨h.pd.later hb, below_keep hb h.bat, h.lst.later hb, touch_new h.tch (Touch.of_below (S := fun _ => False) hb) (fun _ h => h.elim), h.mov⟩
theorem AdS.cells {w W : World} {gp : Nat} {p p1 : Pd} {ls : List Sn} {b : Bt} {a : Option Addr} {cap : Nat} (h : AdS w W gp p p1 ls b a cap) : W.cell? ⟨w.heap.size, 0, none⟩ = some (.int .i64 b.base) ∧ W.cell? ⟨w.heap.size, 1, none⟩ = some (.int .i64 b.epoch) ∧ W.cell? ⟨w.heap.size, 2, none⟩ = some (.int .u64 (b.pid : Int)) ∧ W.cell? ⟨w.heap.size, 3, none⟩ = some (.int .i64 b.pep) ∧ W.cell? ⟨w.heap.size, 4, none⟩ = some (.int .i64 b.seq) ∧ W.cell? ⟨w.heap.size, 5, none⟩ = some (.bool b.txn) ∧ W.cell? ⟨w.heap.size, 6, none⟩ = some (.bool b.ctl) ∧ W.cell? ⟨w.heap.size, 7, none⟩ = some (.bool b.com) ∧ W.cell? ⟨w.heap.size, 8, none⟩ = some (.slice a b.vs.length cap) :=
  ⟨cell_of h.bat 0, cell_of h.bat 1, cell_of h.bat 2, cell_of h.bat 3, cell_of h.bat 4, cell_of h.bat 5, cell_of h.bat 6, cell_of h.bat 7, cell_of h.bat 8⟩
/-- A store into one of the producer's other fields. -/
theorem AdS.fld {w W : World} {gp : Nat} {p p1 p2 : Pd} {ls : List Sn} {b : Bt} {a : Option Addr} {cap : Nat} (h : AdS w W gp p p1 ls b a cap) (hgw : gp < w.heap.size) (i : Nat) (u : Value) (hp : PdAt (W.setCell ⟨gp, i, none⟩ u) gp p2) (hs : pdS p2 = pdS p1) (hn : p2.n = p1.n) : AdS w (W.setCell ⟨gp, i, none⟩ u) gp p p2 ls b a cap := by
  have ts := touch_set W gp i u
  have hne := h.pd.apart h.lst
  refine ⟨hp, ts.keep h.bat (show ¬ w.heap.size = gp by omega), ⟨?_, by rw [hn]; exact h.lst.2⟩, touch_new h.tch ts (fun k hk => .inl (.inl hk)), by rw [hs]; exact h.mov⟩
  rw [hs]
  exact h.lst.1.keep ts (fun k hk e => hne (by rw [← e]; exact hk))
theorem AdS.backing {w W : World} {gp : Nat} {p p1 : Pd} {ls : List Sn} {b : Bt} {a : Option Addr} {cap : Nat} (h : AdS w W gp p p1 ls b a cap) (h0 : 0 < ls.length) : ∃ g, p1.g = some g := by
  obtain ⟨a', c', e1, _, _, _, _, hp⟩ := h.lst.1.parts
  obtain ⟨g, hg, _⟩ := hp h0
  have e1' : Value.slice (p1.g.map (fun g => (⟨g, 0, none⟩ : Addr))) p1.n p1.c = .slice a' ls.length c' := e1
  injection e1' with e1' e2 e3
  rw [hg] at e1'
  cases hq : p1.g with
  | some g' => exact ⟨g', rfl⟩
  | none => rw [hq] at e1'; cases e1'
theorem AdS.dels {w W : World} {gp : Nat} {p p1 : Pd} {ls : List Sn} {b : Bt} {a : Option Addr} {cap : Nat} (h : AdS w W gp p p1 ls b a cap) (h5 : ls.length = 5) (hgw : gp < w.heap.size) :
    ∃ g, pdS p1 = .slice (some ⟨g, 0, none⟩) 5 p1.c ∧ Calls Try.prog 22 #[.slice (some ⟨g, 0, none⟩) 5 p1.c, .int .i64 0, .int .i64 1] W fun e w' => e = .returned (.slice (some ⟨g, 0, none⟩) 4 p1.c) ∧ w'.cell? ⟨gp, 2, none⟩ = some (.slice (some ⟨g, 0, none⟩) 5 p1.c) ∧ w'.frozen? ⟨gp, 2, none⟩ = false ∧ ∃ p2, AdS w (w'.setCell ⟨gp, 2, none⟩ (.slice (some ⟨g, 0, none⟩) 4 p1.c)) gp p p2 (ls.drop 1) b a cap ∧ Fld p1 p2 := by
  obtain ⟨g, hg⟩ := h.backing (by omega)
  have hn : p1.n = 5 := by rw [h.lst.2, h5]
  have hv : pdS p1 = .slice (some ⟨g, 0, none⟩) 5 p1.c := by
    show Value.slice (p1.g.map (fun g => (⟨g, 0, none⟩ : Addr))) p1.n p1.c = _
    rw [hg, hn]; rfl
  refine ⟨g, hv, ?_⟩
  have hl := h.lst.1
  rw [hv, h5] at hl
  refine (delete_sent (k := 0) hl (by omega) (snC_one ls)).mono ?_
  intro e w' hd
  have hd' := hd
  obtain ⟨rfl, d2, d3⟩ := hd
  have hob : (pdS p1).ownBlock = some g := by rw [hv]; rfl
  have hgg : g ≠ gp := fun e => h.pd.apart h.lst (by rw [hob, e])
  have hpd := d3.keep h.pd (show ¬ gp = g from fun e => hgg e.symm)
  refine ⟨rfl, by rw [cell_of hpd, ← hv]; rfl, frozen_of hpd 2, ⟨p1.ep, p1.nx, some g, 4, p1.c, p1.op, p1.fi⟩, ?_, ⟨rfl, rfl, rfl, rfl⟩⟩
  have := h.cut h5 hg (W2 := w') (by rw [hn]; exact hd') hgw
  rw [hn] at this
  exact this
theorem AdS.app2 {w W X W3 : World} {gp : Nat} {p p1 : Pd} {ls : List Sn} {b : Bt} {a : Option Addr} {cap : Nat} (h : AdS w W gp p p1 ls b a cap) {sv : Value} (hv : pdS p1 = sv) (hX : Below W.heap.size W X) {v3 : Value} (o3 : Wide W3 62 3 v3 (ls.length + 1) (ls.flatMap snC ++ [.int .i64 b.seq, .int .i64 (b.vs.length : Int), .int .i64 b.base])) (t3 : Touch (fun k => sv.ownBlock = some k) X W3) (m3 : Moved X sv v3) (hgw : gp < w.heap.size) (F : Fld p p1) :
    W3.cell? ⟨gp, 2, none⟩ = some sv ∧ W3.frozen? ⟨gp, 2, none⟩ = false ∧ ∃ g3 c3, v3 = .slice (some ⟨g3, 0, none⟩) (ls.length + 1) c3 ∧ ∃ p2, AdS w (W3.setCell ⟨gp, 2, none⟩ (.slice (some ⟨g3, 0, none⟩) (ls.length + 1) c3)) gp p p2 (ls ++ [snB b]) b a cap ∧ Fld p p2 := by
  subst hv
  obtain ⟨q1, q2, q3, g3, c3, rfl, q4⟩ := h.app hX o3 t3 m3 hgw
  exact ⟨q1, q2, g3, c3, rfl, _, q4, ⟨F.ep, F.nx, F.op, F.fi⟩⟩
/-- The same but for the next number. -/
structure Fl3 (p q : Pd) (n : Int) : Prop where
  ep : q.ep = p.ep
  nx : q.nx = n
  op : q.op = p.op
  fi : q.fi = p.fi
theorem ads_next {w W : World} {gp : Nat} {p p1 : Pd} {ls : List Sn} {b : Bt} {a : Option Addr} {cap : Nat} (h : AdS w W gp p p1 ls b a cap) (hgw : gp < w.heap.size) (F : Fld p p1) (n : Int) :
    ∃ p3, AdS w (W.setCell ⟨gp, 1, none⟩ (.int .i64 (IntKind.i64.wrap n))) gp p p3 ls b a cap ∧ Fl3 p p3 (IntKind.i64.wrap n) := by
  refine ⟨⟨p1.ep, IntKind.i64.wrap n, p1.g, p1.n, p1.c, p1.op, p1.fi⟩, h.fld hgw 1 _ ?_ rfl rfl, ⟨F.ep, rfl, F.op, F.fi⟩⟩
  exact heap_set h.pd 1 _
theorem ads_done {w W : World} {gp : Nat} {p p1 : Pd} {ls ms : List Sn} {b : Bt} {a : Option Addr} {cap : Nat} (hm : wnd ls ++ [snB b] = ms) (h : AdS w W gp p p1 ms b a cap) (F : Fl3 p p1 (IntKind.i64.wrap (b.seq + ((if b.ctl = true then 1 else b.vs.length : Nat) : Int)))) (ho : p.op = (p.op || b.txn)) (hf : ¬ (b.txn = true ∧ p.op = false)) : AdP2 w gp p ls b (.returned (.tuple #[])) W :=
  ⟨rfl, p1, h.pd, hm ▸ h.lst, F.ep, F.nx, F.op.trans ho, by rw [if_neg hf]; exact F.fi, h.tch, h.mov⟩
theorem ads_open {w W : World} {gp : Nat} {p p1 : Pd} {ls ms : List Sn} {b : Bt} {a : Option Addr} {cap : Nat} (hm : wnd ls ++ [snB b] = ms) (h : AdS w W gp p p1 ms b a cap) (hgw : gp < w.heap.size) (F : Fl3 p p1 (IntKind.i64.wrap (b.seq + ((if b.ctl = true then 1 else b.vs.length : Nat) : Int)))) (ht : b.txn = true) (ho : p.op = false) : AdP2 w gp p ls b (.returned (.tuple #[])) ((W.setCell ⟨gp, 3, none⟩ (.bool true)).setCell ⟨gp, 4, none⟩ (.int .i64 b.base)).drew := by
  have h1 := h.fld (p2 := ⟨p1.ep, p1.nx, p1.g, p1.n, p1.c, true, p1.fi⟩) hgw 3 (.bool true) (heap_set h.pd 3 _) rfl rfl
  have h2 := h1.fld (p2 := ⟨p1.ep, p1.nx, p1.g, p1.n, p1.c, true, b.base⟩) hgw 4 (.int .i64 b.base) (heap_set h1.pd 4 _) rfl rfl
  have h3 := h2.later (Below.refl _ _).drew
  exact ⟨rfl, _, h3.pd, hm ▸ h3.lst, F.ep, F.nx, by rw [ht, Bool.or_true], by rw [if_pos ⟨ht, ho⟩], h3.tch, h3.mov⟩
theorem wnd_five {ls : List Sn} (h : ls.length = 5) : wnd ls = ls.drop 1 := if_pos h
theorem wnd_few {ls : List Sn} (h : ¬ ls.length = 5) : wnd ls = ls := if_neg h
theorem wnd_len {ls : List Sn} (h : ls.length ≤ 5) : (wnd ls).length ≤ 4 := by
  unfold wnd
  split
  · rw [List.length_drop]; omega
  · omega
set_option maxRecDepth 100000 in
set_option maxHeartbeats 8000000 in
theorem add2_any {w : World} {gp : Nat} {p : Pd} {ls : List Sn} (h : PdAt w gp p) (hl : Lst9 w p ls) (h5 : ls.length ≤ 5) (b : Bt) (a : Option Addr) (cap : Nat) :
    Calls Try.prog 17 #[.pointer (some ⟨gp, 0, none⟩), bv b a cap] w fun e w' => AdP2 w gp p ls b e w' := by
  have hgw := lt_of_heap h
  have hA : Below w.heap.size w (w.alloc (.cells (btC b a cap) 30)) := (Below.refl _ _).alloc (Nat.le_refl _) _
  have A0 : Hid (AdS w (w.alloc (.cells (btC b a cap) 30)) gp p p ls b a cap) := ⟨below_keep hA h, heap_new _ _, hl.later hA, Touch.of_below hA, Moved.refl _ _⟩
  have KK : Hid (∀ w', Calls Try.prog 16 #[bv b a cap] w' fun e w'' => AnsPost w' (.agg #[.int .i64 b.seq, .int .i64 (b.vs.length : Int)]) e w'') := fun w' => keyOf_any b a cap w'
  have KS : Hid (∀ w', Calls Try.prog 23 #[bv b a cap] w' fun e w'' => IntPost w' (if b.ctl = true then 1 else b.vs.length) e w'') := fun w' => size7_any b a cap w'
  have hpn := hl.2
  have c2 : (w.alloc (.cells (btC b a cap) 30)).cell? ⟨gp, 2, none⟩ = some (.slice (p.g.map (fun g => (⟨g, 0, none⟩ : Addr))) ls.length p.c) := by rw [cell_of (unhide A0).pd, ← hpn]; rfl
  clear h hl hA
  unfold bv at KK KS ⊢
  unfold btC at A0 c2
  go_enter Try.func17, Try.ntmps17
  go_upto_if 9 with fail
  generalize hWW : w.alloc (.cells #[.int .i64 b.base, .int .i64 b.epoch, .int .u64 (b.pid : Int), .int .i64 b.pep, .int .i64 b.seq, .bool b.txn, .bool b.ctl, .bool b.com, .slice a b.vs.length cap] 30) = W at *
  clear hWW
  go_cut [] from 4 (fun wx => ∃ p1, AdS w wx gp p p1 (wnd ls) b a cap ∧ Fld p p1)
  case first =>
    by_cases h5e : ls.length = 5
    · obtain ⟨g, hv, DL0⟩ := (unhide A0).dels h5e hgw
      have DL := hide DL0
      have hv2 : Value.slice (p.g.map (fun g => (⟨g, 0, none⟩ : Addr))) ls.length p.c = .slice (some ⟨g, 0, none⟩) 5 p.c := by rw [← hpn]; exact hv
      have wn := wnd_five h5e
      rw [hv2] at c2
      have e5 : ((ls.length : Int) == 5) = true := by simp [h5e]
      have e5' : (ls.length : Int) = 5 := by omega
      generalize hpc : p.c = pc at *
      clear DL0 hv hv2 hpc
      go_wp2_with fail
      refine (unhide DL).mono ?_
      rintro e w2 ⟨rfl, x2, z2, HX⟩
      have HX' := hide HX
      clear HX
      go_wp2_with fail
      go_meet
      obtain ⟨p2, k1, k2⟩ := unhide HX'
      exact ⟨p2, by rw [wn]; exact k1, k2⟩
    · have wn := wnd_few h5e
      have e5 : ((ls.length : Int) == 5) = false := by
        simp; omega
      have e5' : ¬ (ls.length : Int) = 5 := by omega
      go_wp2_with fail
      go_meet
      exact ⟨p, by rw [wn]; exact unhide A0, ⟨rfl, rfl, rfl, rfl⟩⟩
  case rest =>
    obtain ⟨p1, A1', F1'⟩ := hcut
    have A1 := hide A1'
    have F1 := hide F1'
    clear A1' F1'
    clear c2 A0
    have hw4 := wnd_len h5
    generalize hms : wnd ls = ms at *
    have HMS := hide hms
    clear hms
    go_upto_region 3 with fail
    go_cut [] from 4 (fun wx => ∃ p2, AdS w wx gp p p2 (ms ++ [snB b]) b a cap ∧ Fld p p2)
    case first =>
      obtain ⟨k0, k1, k2, k3, k4, k5, k6, k7, k8⟩ := (unhide A1).cells
      have hW : w.heap.size < wc.heap.size := lt_of_heap (unhide A1).bat
      have hG : gp < wc.heap.size := by omega
      obtain ⟨av, pc, hsv⟩ : ∃ av pc, pdS p1 = .slice av ms.length pc := ⟨_, p1.c, by rw [← (unhide A1).lst.2]⟩
      have HSV := hide hsv
      have ROW0 := (unhide A1).lst.1
      rw [hsv] at ROW0
      have ROW := hide ROW0
      have c2 : wc.cell? ⟨gp, 2, none⟩ = some (.slice av ms.length pc) := by rw [cell_of (unhide A1).pd, ← hsv]; rfl
      clear ROW0 hsv
      go_region_law (first
        | (go_simp; go_at_call 16; refine (unhide KK _).mono ?_; rintro e w2 ⟨rfl, b2⟩; have BW2 : Hid (Below wc.heap.size wc w2) := ⟨b2.os, b2.tape, b2.output, b2.size, fun k hk => b2.block k hk⟩; have z2 : w2.cell? ⟨gp, 2, none⟩ = some (.slice av ms.length pc) := ((unhide BW2).cell (p := ⟨gp, 2, none⟩) hG).trans c2; have zb : w2.cell? ⟨w.heap.size, 0, none⟩ = some (.int .i64 b.base) := ((unhide BW2).cell (p := ⟨w.heap.size, 0, none⟩) hW).trans k0; have yA2 : ∀ X, (w2.alloc X).cell? ⟨gp, 2, none⟩ = some (.slice av ms.length pc) := fun X => (((Below.refl w2.heap.size w2).alloc (Nat.le_refl _) X).cell (p := ⟨gp, 2, none⟩) (Nat.lt_of_lt_of_le hG (unhide BW2).size)).trans z2; clear b2)
        | (refine step_sent rfl (.tmp 22) (.tmp 28) rfl (.slice av ms.length pc) ms.length (ms.flatMap snC) (by rfl) ((unhide ROW).later (by first | exact (unhide BW2).alloc (unhide BW2).size _ | exact (below_drewN3 (unhide BW2) _).alloc (unhide BW2).size _)) _ _ _ (by rfl) (heap_new _ _) rfl rfl (by intro u hu; simp at hu; rcases hu with rfl | rfl | rfl <;> rfl) (by omega) ?_; intro v3 w3 o3 t3 m3; obtain ⟨y3, z3, g3, c3, rfl, q3⟩ := (unhide A1).app2 (unhide HSV) (by first | exact (unhide BW2).alloc (unhide BW2).size _ | exact (below_drewN3 (unhide BW2) _).alloc (unhide BW2).size _) o3 t3 m3 hgw (unhide F1); have Q3 := hide q3; clear o3 t3 m3 q3))
      all_goals
        go_wp2_with fail
        go_meet
        exact unhide Q3
    case rest =>
      obtain ⟨p2, A2', F2'⟩ := hcut
      have A2 := hide A2'
      have F2 := hide F2'
      clear A1 F1 KK A2' F2'
      generalize hns : ms ++ [snB b] = ns at *
      have HNS : Hid (wnd ls ++ [snB b] = ns) := by show wnd ls ++ [snB b] = ns; rw [unhide HMS]; exact hns
      clear hns HMS
      go_upto_region 4 with fail
      go_cut [] from 4 (fun wx => ∃ p3, AdS w wx gp p p3 ns b a cap ∧ Fl3 p p3 (IntKind.i64.wrap (b.seq + ((if b.ctl = true then 1 else b.vs.length : Nat) : Int))))
      case first =>
        obtain ⟨k0, k1, k2, k3, k4, k5, k6, k7, k8⟩ := (unhide A2).cells
        have hVb : w.heap.size < wc.heap.size := lt_of_heap (unhide A2).bat
        have hVg : gp < wc.heap.size := by omega
        have c1 : wc.cell? ⟨gp, 1, none⟩ = some (.int .i64 p2.nx) := cell_of (unhide A2).pd 1
        generalize hsz : (if b.ctl = true then 1 else b.vs.length) = sz at *
        clear hsz
        go_region_with (go_at_call 23; refine (unhide KS _).mono ?_; rintro e w5 ⟨rfl, b5⟩; have BV5 : Hid (Below wc.heap.size wc w5) := ⟨b5.os, b5.tape, b5.output, b5.size, fun k hk => b5.block k hk⟩; have x4 : w5.cell? ⟨w.heap.size, 4, none⟩ = some (.int .i64 b.seq) := ((unhide BV5).cell (p := ⟨w.heap.size, 4, none⟩) hVb).trans k4; have y1 : w5.cell? ⟨gp, 1, none⟩ = some (.int .i64 p2.nx) := ((unhide BV5).cell (p := ⟨gp, 1, none⟩) hVg).trans c1; have z1 : w5.frozen? ⟨gp, 1, none⟩ = false := frozen_of (below_keep (unhide BV5) (unhide A2).pd) 1; clear b5)
        all_goals
          go_wp2_with fail
          go_meet
          exact ads_next ((unhide A2).later (unhide BV5)) hgw (unhide F2) _
      case rest =>
        obtain ⟨p3, A3', F3'⟩ := hcut
        have A3 := hide A3'
        have F3 := hide F3'
        clear A2 F2 KS A3' F3'
        obtain ⟨k0, k1, k2, k3, k4, k5, k6, k7, k8⟩ := (unhide A3).cells
        have c3 : wc.cell? ⟨gp, 3, none⟩ = some (.bool p3.op) := cell_of (unhide A3).pd 3
        have c4 : wc.cell? ⟨gp, 4, none⟩ = some (.int .i64 p3.fi) := cell_of (unhide A3).pd 4
        have z3 : wc.frozen? ⟨gp, 3, none⟩ = false := frozen_of (unhide A3).pd 3
        have z4 : wc.frozen? ⟨gp, 4, none⟩ = false := frozen_of (unhide A3).pd 4
        have hop := (unhide F3).op
        cases ht : b.txn with
        | false =>
          have FF : Hid (AdP2 w gp p ls b (.returned (.tuple #[])) wc) := ads_done (unhide HNS) (unhide A3) (unhide F3) (by rw [ht, Bool.or_false]) (by rw [ht]; simp)
          rw [ht] at k5
          clear A3 F3
          go_wp2
          go_returns
          exact unhide FF
        | true =>
          rw [ht] at k5
          cases ho : p.op with
          | true =>
            have FF : Hid (AdP2 w gp p ls b (.returned (.tuple #[])) wc) := ads_done (unhide HNS) (unhide A3) (unhide F3) (by rw [ht, ho]; rfl) (by rw [ho]; simp)
            rw [hop, ho] at c3
            clear A3 F3
            go_wp2
            go_returns
            exact unhide FF
          | false =>
            rw [hop, ho] at c3
            have FF : Hid (AdP2 w gp p ls b (.returned (.tuple #[])) ((wc.setCell ⟨gp, 3, none⟩ (.bool true)).setCell ⟨gp, 4, none⟩ (.int .i64 b.base)).drew) := ads_open (unhide HNS) (unhide A3) hgw (unhide F3) ht ho
            have x0 : ∀ u, (wc.setCell ⟨gp, 3, none⟩ u).cell? ⟨w.heap.size, 0, none⟩ = some (.int .i64 b.base) := fun u => cell_of ((touch_set wc gp 3 u).keep (unhide A3).bat (show ¬ w.heap.size = gp by omega)) 0
            have x4 : ∀ u, (wc.setCell ⟨gp, 3, none⟩ u).cell? ⟨gp, 4, none⟩ = some (.int .i64 p3.fi) := fun u => cell_of (heap_set (unhide A3).pd 3 u) 4
            have y4 : ∀ u, (wc.setCell ⟨gp, 3, none⟩ u).frozen? ⟨gp, 4, none⟩ = false := fun u => frozen_of (heap_set (unhide A3).pd 3 u) 4
            clear A3 F3
            go_wp2_with fail
            go_region
            all_goals
              go_returns
              exact unhide FF
end Go.Proofs.Ytjocjnjdmmihnaa
