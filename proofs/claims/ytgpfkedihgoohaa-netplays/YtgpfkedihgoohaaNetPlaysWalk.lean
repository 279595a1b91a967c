/-
  NetPlays' walk: any calls answer what the document says; behind each all that is in flight. Conditions: the script is one; it has at most 2^47 bytes. (mkplays11.py writes it.)
-/
import Derived.Test.YtgpfkedihgoohaaPl11
import Derived.Test.YtgpfkedihgoohaaTk11
import Derived.Deep.CutBlock
namespace Go.Proofs.Ytgpfkedihgoohaa
open Go.RowKit
set_option linter.unusedVariables false

theorem sendE_le {qs : List Pa} {q : Pa} (h : qs.length ≤ 256) : (sendE qs q).length ≤ 256 := by
  unfold sendE
  split
  · rw [List.length_append, List.length_singleton]; omega
  · exact h
theorem cpE_le {qs : List Pa} {i : Int} (h : qs.length ≤ 256) : (cpE qs i).length ≤ 256 := by
  unfold cpE
  split
  · exact sendE_le h
  · exact h
theorem erase_le {qs : List Pa} {k : Nat} (h : qs.length ≤ 256) : (qs.eraseIdx k).length ≤ 256 := by
  rw [List.length_eraseIdx]
  split <;> omega
theorem cutE_le (D : Cts) (a b : Int) : (cutE D a b).length ≤ D.length + 1 := by
  unfold cutE
  split
  · omega
  · rw [List.length_append, List.length_singleton]; exact Nat.le_refl _
/-- A box is no packet's body. -/
theorem Fr.box {w W : World} {R Q : Nat → Prop} {p : Pk} (h : Fr w W R Q p) {b : Nat} {cs : Array Value} {t : TypeId} (hb : W.heap[b]? = some (.cells cs t)) (ht : t ≠ 5) : (pkS p).ownBlock ≠ some b := fun e => by
  obtain ⟨c2, h2⟩ := h.row.row.heap e
  rw [hb] at h2
  exact ht (Obj.cells.inj (Option.some.inj h2)).2.1
/-- Both nets, the call's box, a packet of the law's own in its box. -/
structure Sd (w W : World) (nb rb ob pb : Nat) (R Q : Nat → Prop) (qs qs2 : List Pa) (D : Cts) (op : Op11) (p' : Pk) : Prop where
  two : TwN w W nb rb R Q qs qs2 D D
  op : Ex W R Q ob (opO op)
  box : Ex W R Q pb (.cells #[.int .i64 p'.fr, .int .i64 p'.to, .slice p'.a p'.l.length p'.c] 33)
  fr : Fr w W R Q p'
theorem Sd.later {w W W' : World} {nb rb ob pb : Nat} {R Q : Nat → Prop} {qs qs2 : List Pa} {D : Cts} {op : Op11} {p' : Pk} (h : Sd w W nb rb ob pb R Q qs qs2 D op p') (hb : Below W.heap.size W W') : Sd w W' nb rb ob pb R Q qs qs2 D op p' := ⟨h.two.later hb, h.op.later hb, h.box.later hb, h.fr.later hb⟩
theorem Sd.cells {w W : World} {nb rb ob pb : Nat} {R Q : Nat → Prop} {qs qs2 : List Pa} {D : Cts} {op : Op11} {p' : Pk} (h : Sd w W nb rb ob pb R Q qs qs2 D op p') : W.cell? ⟨pb, 0, none⟩ = some (.int .i64 p'.fr) ∧ W.cell? ⟨pb, 1, none⟩ = some (.int .i64 p'.to) ∧ W.cell? ⟨pb, 2, none⟩ = some (.slice p'.a p'.l.length p'.c) ∧ W.cell? ⟨ob, 3, none⟩ = some (.int .i64 op.p.fr) ∧ W.cell? ⟨ob, 4, none⟩ = some (.int .i64 op.p.to) ∧ W.cell? ⟨ob, 5, none⟩ = some (.slice op.p.a op.p.l.length op.p.c) := by
  refine ⟨?_, ?_, ?_, ?_, ?_, ?_⟩
  · rw [cell_of h.box.heap]; rfl
  · rw [cell_of h.box.heap]; rfl
  · rw [cell_of h.box.heap]; rfl
  · rw [cell_of h.op.heap]; rfl
  · rw [cell_of h.op.heap]; rfl
  · rw [cell_of h.op.heap]; rfl
section
variable {w W : World} {nb rb ob pb : Nat} {R Q : Nat → Prop} {qs qs2 : List Pa} {D : Cts} {op : Op11} {p' : Pk}
/-- The four calls of a Send. -/
theorem Sd.send (h : Sd w W nb rb ob pb R Q qs qs2 D op p') : Calls Try.prog 12 #[.pointer (some ⟨nb, 0, none⟩), pkV p'] W fun e w' => e = .returned (.bool (decide (qs.length < 256))) ∧ ∃ R', Sd w w' nb rb ob pb R' Q (sendE qs p'.abs) qs2 D op p' := by
  refine (send_any h.two.net h.fr.row.pin).mono ?_
  rintro e w' ⟨he, np⟩
  obtain ⟨R', t, tt, hn⟩ := h.two.npost np
  exact ⟨he, R', t, h.op.n tt hn, h.box.n tt hn, h.fr.n tt hn⟩
theorem Sd.own (h : Sd w W nb rb ob pb R Q qs qs2 D op p') (hp : PIn w op.p) : Calls Try.prog 11 #[pkV op.p] W fun e w' => ∃ p2, e = .returned (pkV p2) ∧ p2.abs = op.p.abs ∧ Sd w w' nb rb ob pb R Q qs qs2 D op p' ∧ Fr w w' R Q p2 ∧ ∀ k, (pkS p').ownBlock = some k → (pkS p2).ownBlock ≠ some k := by
  refine (lown_any (hp.later h.two.below)).mono ?_
  rintro e w' ⟨p2, he, ha, pr, pn, b⟩
  exact ⟨p2, he, ha, h.later b, Fr.new h.two pr pn, fun k hk hk2 => by have := h.fr.row.row.lt k hk; have := pn k hk2; omega⟩
theorem Sd.rsend (h : Sd w W nb rb ob pb R Q qs qs2 D op p') {p2 : Pk} (h2 : Fr w W R Q p2) (hd : ∀ k, (pkS p').ownBlock = some k → (pkS p2).ownBlock ≠ some k) : Calls Try.prog 13 #[.pointer (some ⟨rb, 0, none⟩), pkV p2] W fun e w' => e = .returned (.bool (decide (qs2.length < 256))) ∧ ∃ Q', Sd w w' nb rb ob pb R Q' qs (sendE qs2 p2.abs) D op p' := by
  refine (rsend_any h.two.ref h2.row).mono ?_
  rintro e w' ⟨he, rp⟩
  obtain ⟨Q', t, tt, hn⟩ := h.two.rpost rp (fun k hk => ⟨(h2.out k hk).2.2, (h2.out k hk).1⟩)
  exact ⟨he, Q', t, h.op.r tt hn (h2.box h.op.heap (by decide)), h.box.r tt hn (h2.box h.box.heap (by decide)), h.fr.r tt hn hd⟩
theorem Sd.same (h : Sd w W nb rb ob pb R Q qs qs2 D op p') (hp : PIn w op.p) (he : p'.abs = op.p.abs) : Calls Try.prog 14 #[pkV p', pkV op.p] W fun e w' => e = .returned (.bool true) ∧ Sd w w' nb rb ob pb R Q qs qs2 D op p' := by
  refine (same11_any h.fr.row.pin (hp.later h.two.below) he).mono ?_
  rintro e w' ⟨he, b⟩
  exact ⟨he, h.later b⟩
end
set_option maxRecDepth 100000 in
set_option maxHeartbeats 100000000 in
theorem netPlays_walk (a : Option Addr) (cap : Nat) (os : List Op11) (w : World) (hr : RowsAt opC 6 w a os) (hos : ∀ o ∈ os, OpIn w o) (hl : os.length ≤ 2300000000000) :
    Calls Try.prog 3 #[.slice a os.length cap] w fun e w' => e = .returned (.bool true) ∧ Below w.heap.size w w' := by
  have HR := hide hr
  have HO := hide hos
  clear hr hos
  go_enter Try.func3, Try.ntmps3
  go_wp2_with fail
  refine (new11_any w).mono ?_
  rintro e w1 ⟨rfl, rfl⟩
  have T0 : Hid (TwN w ((w.alloc (.cells #[.slice none 0 0, .map none] 56)).alloc (.cells #[.slice none 0 0, .slice none 0 0] 29)) w.heap.size (w.heap.size + 1) (· = w.heap.size) (· = w.heap.size + 1) [] [] [] []) := by
    have hA : Below (w.alloc (.cells #[.slice none 0 0, .map none] 56)).heap.size (w.alloc (.cells #[.slice none 0 0, .map none] 56)) ((w.alloc (.cells #[.slice none 0 0, .map none] 56)).alloc (.cells #[.slice none 0 0, .slice none 0 0] 29)) := (Below.refl _ _).alloc (Nat.le_refl _) _
    have r := RS.new (w.alloc (.cells #[.slice none 0 0, .map none] 56))
    rw [World.size_alloc] at r
    exact ⟨(NS.new w).later hA, r, fun k hk => by omega, fun k hk => by omega, fun k h1 h2 => by omega, ((Below.refl _ _).alloc (Nat.le_refl _) _).alloc (by simp) _⟩
  go_wp2_with fail
  generalize (w.alloc (.cells #[.slice none 0 0, .map none] 56)).alloc (.cells #[.slice none 0 0, .slice none 0 0] 29) = W0 at *
  have AW := hide (awake11_any W0)
  refine (unhide AW).mono ?_
  rintro e w2 ⟨rfl, b2⟩
  have T2 := hide ((unhide T0).later b2)
  clear T0 AW b2
  obtain ⟨nb, hnb⟩ : ∃ nb, nb = w.heap.size := ⟨_, rfl⟩
  obtain ⟨rb, hrb⟩ : ∃ rb, rb = w.heap.size + 1 := ⟨_, rfl⟩
  have INV : Hid (∃ R Q, TwN w w2 nb rb R Q [] [] [] []) := ⟨_, _, by rw [hnb, hrb]; exact unhide T2⟩
  rw [← hrb, ← hnb]
  clear hnb hrb T2
  go_wp2_with fail
  go_loopw [28] (fun pl wr => ∃ (k : Nat) (R Q : Nat → Prop) (qs : List Pa) (D : Cts), k ≤ os.length ∧ pl = .int .i64 (k : Int) ∧ qs.length ≤ 256 ∧ D.length ≤ k ∧ TwN w wr nb rb R Q qs qs D D) (fun pl _ => os.length - (intOf pl).toNat)
  case atStart =>
    obtain ⟨R, Q, h⟩ := unhide INV
    exact ⟨0, R, Q, [], [], Nat.zero_le _, rfl, by simp, Nat.le_refl _, h⟩
  case round =>
    obtain ⟨k, R, Q, qs, D, hk, rfl, hq, hd, tw⟩ := hrel
    clear INV
    by_cases hkl : k < os.length
    · have hkl' : (k : Int) < (os.length : Int) := by omega
      have hz : (0 : Int) ≤ (k : Int) := by omega
      have hw1 : IntKind.i64.wrap ((k : Int) + 1) = (k : Int) + 1 := wrap_low (by omega) (by omega)
      obtain ⟨b, off, rfl, hb, hcell⟩ := (unhide HR) k hkl
      have y0 : wr.cell? ⟨b, off + k * 6, none⟩ = some (.int .i64 os[k].k) := (tw.below.cell (p := ⟨b, off + k * 6 + 0, none⟩) hb).trans (hcell 0 (by omega))
      have y1 : wr.cell? ⟨b, off + k * 6 + 1, none⟩ = some (.int .i64 os[k].i) := (tw.below.cell (p := ⟨b, off + k * 6 + 1, none⟩) hb).trans (hcell 1 (by omega))
      have y2 : wr.cell? ⟨b, off + k * 6 + 2, none⟩ = some (.int .i64 os[k].j) := (tw.below.cell (p := ⟨b, off + k * 6 + 2, none⟩) hb).trans (hcell 2 (by omega))
      have y3 : wr.cell? ⟨b, off + k * 6 + 3, none⟩ = some (.int .i64 os[k].p.fr) := (tw.below.cell (p := ⟨b, off + k * 6 + 3, none⟩) hb).trans (hcell 3 (by omega))
      have y4 : wr.cell? ⟨b, off + k * 6 + 4, none⟩ = some (.int .i64 os[k].p.to) := (tw.below.cell (p := ⟨b, off + k * 6 + 4, none⟩) hb).trans (hcell 4 (by omega))
      have y5 : wr.cell? ⟨b, off + k * 6 + 5, none⟩ = some (.slice os[k].p.a os[k].p.l.length os[k].p.c) := (tw.below.cell (p := ⟨b, off + k * 6 + 5, none⟩) hb).trans (hcell 5 (by omega))
      have OI := hide ((unhide HO) _ (List.getElem_mem hkl))
      have hA : Below wr.heap.size wr (wr.alloc (opO os[k])) := (Below.refl _ _).alloc (Nat.le_refl _) _
      have T1 := hide (tw.later hA)
      have E1 := hide (Ex.new tw (opO os[k]))
      clear tw hA hcell hb HR HO
      generalize os[k] = o at *
      obtain ⟨ok, oi, oj, p⟩ := o
      dsimp only [opO] at *
      have hoi := (unhide OI).i
      have hoj := (unhide OI).j
      have OP := hide (unhide OI).p
      dsimp only at hoi hoj OP
      clear OI
      have x0 : (wr.alloc (.cells #[.int .i64 ok, .int .i64 oi, .int .i64 oj, .int .i64 p.fr, .int .i64 p.to, .slice p.a p.l.length p.c] 35)).cell? ⟨wr.heap.size, 0, none⟩ = some (.int .i64 ok) := by rw [cell_of (unhide E1).heap]; rfl
      have x1 : (wr.alloc (.cells #[.int .i64 ok, .int .i64 oi, .int .i64 oj, .int .i64 p.fr, .int .i64 p.to, .slice p.a p.l.length p.c] 35)).cell? ⟨wr.heap.size, 1, none⟩ = some (.int .i64 oi) := by rw [cell_of (unhide E1).heap]; rfl
      have x2 : (wr.alloc (.cells #[.int .i64 ok, .int .i64 oi, .int .i64 oj, .int .i64 p.fr, .int .i64 p.to, .slice p.a p.l.length p.c] 35)).cell? ⟨wr.heap.size, 2, none⟩ = some (.int .i64 oj) := by rw [cell_of (unhide E1).heap]; rfl
      have x3 : (wr.alloc (.cells #[.int .i64 ok, .int .i64 oi, .int .i64 oj, .int .i64 p.fr, .int .i64 p.to, .slice p.a p.l.length p.c] 35)).cell? ⟨wr.heap.size, 3, none⟩ = some (.int .i64 p.fr) := by rw [cell_of (unhide E1).heap]; rfl
      have x4 : (wr.alloc (.cells #[.int .i64 ok, .int .i64 oi, .int .i64 oj, .int .i64 p.fr, .int .i64 p.to, .slice p.a p.l.length p.c] 35)).cell? ⟨wr.heap.size, 4, none⟩ = some (.int .i64 p.to) := by rw [cell_of (unhide E1).heap]; rfl
      have x5 : (wr.alloc (.cells #[.int .i64 ok, .int .i64 oi, .int .i64 oj, .int .i64 p.fr, .int .i64 p.to, .slice p.a p.l.length p.c] 35)).cell? ⟨wr.heap.size, 5, none⟩ = some (.slice p.a p.l.length p.c) := by rw [cell_of (unhide E1).heap]; rfl
      go_upto_block 2 with fail
      generalize hW1 : wr.alloc (.cells #[.int .i64 ok, .int .i64 oi, .int .i64 oj, .int .i64 p.fr, .int .i64 p.to, .slice p.a p.l.length p.c] 35) = W1 at *
      generalize wr.heap.size = ob at *
      clear hW1 y0 y1 y2 y3 y4 y5
      go_cut [28] from 28 to 180 (fun s28 wx => s28 = .int .i64 (k : Int) ∧ ∃ (R5 Q5 : Nat → Prop) (qs5 : List Pa) (D5 : Cts), qs5.length ≤ 256 ∧ D5.length ≤ k + 1 ∧ TwN w wx nb rb R5 Q5 qs5 qs5 D5 D5)
      case rest =>
        obtain ⟨rfl, R5, Q5, qs5, D5, hq5, hd5, t5⟩ := hcut
        have T5 := hide t5
        clear t5 T1 E1 x0 x1 x2 x3 x4 x5 OP
        obtain ⟨n5, hn5⟩ : ∃ n5, n5 = qs5.length := ⟨_, rfl⟩
        have CT : Hid (∀ n, Calls Try.prog 24 #[.pointer (some ⟨nb, 0, none⟩)] (wc.drewN n) fun e w' => e = .returned (.int .i64 (n5 : Int)) ∧ w' = wc.drewN n) := fun n => by
          rw [hn5]
          exact Count_any ((unhide T5).later (below_drewN3 (Below.refl _ _) n)).net
        have LC : Hid (∀ X, TwN w X nb rb R5 Q5 qs5 qs5 D5 D5 → ∃ a6 c6, X.cell? ⟨rb, 0, none⟩ = some (.slice a6 n5 c6)) := fun X hX => by
          obtain ⟨v6, cv6, ps6, f1, f2, f3⟩ := hX.ref.ex
          obtain ⟨a6, c6, _, h, _, _⟩ := f1.cell
          refine ⟨a6, c6, ?_⟩
          rw [h, hn5, ← f2, List.length_map]
        have LE : Hid (∀ X (i : Nat), TwN w X nb rb R5 Q5 qs5 qs5 D5 D5 → i < n5 → ∃ g6 c6 q6, g6 < X.heap.size ∧ X.cell? ⟨rb, 0, none⟩ = some (.slice (some ⟨g6, 0, none⟩) n5 c6) ∧ X.cell? ⟨g6, i * 3, none⟩ = some (.int .i64 q6.fr) ∧ X.cell? ⟨g6, i * 3 + 1, none⟩ = some (.int .i64 q6.to) ∧ X.cell? ⟨g6, i * 3 + 2, none⟩ = some (.slice q6.a q6.l.length q6.c) ∧ q6.abs = pkE qs5 (i : Int) ∧ PIn X q6) := fun X i hX hi => by
          obtain ⟨v6, cv6, ps6, f1, f2, f3⟩ := hX.ref.ex
          have hpl : ps6.length = n5 := by rw [hn5, ← f2, List.length_map]
          obtain ⟨g6, c6, e1, e2, _, _, e3, e4, e5⟩ := f1.list.at_ (k := i) (by omega)
          refine ⟨g6, c6, ps6[i]'(by omega), e2, ?_, e3, e4, e5, ?_, (f1.list.each _ (List.getElem_mem _)).pin⟩
          · rw [cell_of f1.box, ← hpl, ← e1]; rfl
          · have hr : rnd (i : Int) qs5.length = i := by
              have := rnd_in (i := (i : Int)) (n := qs5.length) (by omega) (by omega)
              omega
            unfold pkE
            rw [hr, ← f2, List.getElem?_map, List.getElem?_eq_getElem (by omega)]
            rfl
        have PKS : Hid (∀ X (i : Nat), TwN w X nb rb R5 Q5 qs5 qs5 D5 D5 → i < n5 → Calls Try.prog 25 #[.pointer (some ⟨nb, 0, none⟩), .int .i64 (i : Int)] X fun e w' => ∃ p', e = .returned (.tuple #[pkV p', .bool true]) ∧ p'.abs = pkE qs5 (i : Int) ∧ PRow w' p' ∧ New X (pkS p') ∧ Below X.heap.size X w') := fun X i hX hi => by
          have h := peek_any hX.net (i : Int) ⟨by omega, by omega⟩
          unfold PeekPost at h
          rw [show decide (0 < qs5.length) = true by simp; omega] at h
          exact h
        have hq5' : n5 ≤ 256 := by omega
        obtain ⟨a6, c6, lc⟩ := unhide LC wc (unhide T5)
        clear hn5
        go_wp2_with fail
        go_quiet (first | (go_at_call 24; exact Calls.quiet_of_same (unhide CT _)))
        have T6 : Hid (TwN w (wc.drewN nq) nb rb R5 Q5 qs5 qs5 D5 D5) := (unhide T5).later (below_drewN3 (Below.refl _ _) nq)
        clear T5 CT lc
        go_wp2_with fail
        go_loopw [13] (fun pl wr => ∃ i : Nat, i ≤ n5 ∧ pl = .int .i64 (i : Int) ∧ TwN w wr nb rb R5 Q5 qs5 qs5 D5 D5) (fun pl _ => n5 - (intOf pl).toNat)
        case atStart => exact ⟨0, Nat.zero_le _, rfl, unhide T6⟩
        case round =>
          obtain ⟨i, hi, rfl, t6⟩ := hrel
          clear T6
          by_cases hil : i < n5
          · have hil' : (i : Int) < (n5 : Int) := by omega
            have hi0 : (0 : Int) ≤ (i : Int) := by omega
            have hiw : IntKind.i64.wrap ((i : Int) + 1) = (i : Int) + 1 := wrap_low (by omega) (by omega)
            obtain ⟨g6, c6, q6, hg6, z0, z1, z2, z3, qa, qp⟩ := unhide LE wr i t6 hil
            have PK := hide (unhide PKS wr i t6 hil)
            have QP := hide qp
            have T6 := hide t6
            clear qp t6
            go_wp2_with fail
            refine (unhide PK).mono ?_
            rintro e w7 ⟨p', rfl, pa, pr, pn, b7⟩
            have hA : Below w7.heap.size w7 (w7.alloc (.cells #[.int .i64 p'.fr, .int .i64 p'.to, .slice p'.a p'.l.length p'.c] 33)) := (Below.refl _ _).alloc (Nat.le_refl _) _
            have hAB := b7.trans (hA.mono b7.size)
            have T7 := hide ((unhide T6).later hAB)
            have E7 := hide (Ex.new ((unhide T6).later b7) (.cells #[.int .i64 p'.fr, .int .i64 p'.to, .slice p'.a p'.l.length p'.c] 33))
            have F7 := hide (Fr.new (unhide T6) (pr.later hA) pn)
            have HLB := hide pr.in_.l
            have hbx : ∀ k, (pkS p').ownBlock = some k → k ≠ w7.heap.size := fun k hk e => by have := pr.row.lt k hk; omega
            have HBX := hide hbx
            have zr : rb < wr.heap.size := lt_of_cell z0
            have QP7 := hide ((unhide QP).later hAB)
            have z0' := (hAB.cell (p := ⟨rb, 0, none⟩) zr).trans z0
            have z1' := (hAB.cell (p := ⟨g6, i * 3, none⟩) hg6).trans z1
            have z2' := (hAB.cell (p := ⟨g6, i * 3 + 1, none⟩) hg6).trans z2
            have z3' := (hAB.cell (p := ⟨g6, i * 3 + 2, none⟩) hg6).trans z3
            have zr' : rb < (w7.alloc (.cells #[.int .i64 p'.fr, .int .i64 p'.to, .slice p'.a p'.l.length p'.c] 33)).heap.size := lt_of_cell z0'
            have hg7 : g6 < (w7.alloc (.cells #[.int .i64 p'.fr, .int .i64 p'.to, .slice p'.a p'.l.length p'.c] 33)).heap.size := lt_of_cell z1'
            have SM : Hid (∀ X, Below (w7.alloc (.cells #[.int .i64 p'.fr, .int .i64 p'.to, .slice p'.a p'.l.length p'.c] 33)).heap.size (w7.alloc (.cells #[.int .i64 p'.fr, .int .i64 p'.to, .slice p'.a p'.l.length p'.c] 33)) X → Calls Try.prog 14 #[.agg #[.int .i64 p'.fr, .int .i64 p'.to, .slice p'.a p'.l.length p'.c], .agg #[.int .i64 q6.fr, .int .i64 q6.to, .slice q6.a q6.l.length q6.c]] X fun e w' => e = .returned (.bool true) ∧ Below X.heap.size X w') := fun X hX => same11_any ((unhide F7).row.pin.later hX) ((unhide QP7).later hX) (pa.trans qa.symm)
            have G7 := hide (unhide E7).heap
            clear hA hAB b7 pr pn PK T6 z0 z1 z2 z3 QP hg6 zr hbx pa qa QP7
            simp only [pkV, pkS]
            generalize hpb : w7.heap.size = pb at *
            have HPB := hide hpb
            clear hpb
            go_wp2_with fail
            rw [unhide HPB]
            generalize w7.alloc (.cells #[.int .i64 p'.fr, .int .i64 p'.to, .slice p'.a p'.l.length p'.c] 33) = W7 at *
            have SK : Hid (∀ w', Below W7.heap.size W7 w' → w'.cell? ⟨pb, 0, none⟩ = some (.int .i64 p'.fr) ∧ w'.cell? ⟨pb, 1, none⟩ = some (.int .i64 p'.to) ∧ w'.cell? ⟨pb, 2, none⟩ = some (.slice p'.a p'.l.length p'.c) ∧ w'.cell? ⟨rb, 0, none⟩ = some (.slice (some ⟨g6, 0, none⟩) n5 c6) ∧ w'.cell? ⟨g6, i * 3, none⟩ = some (.int .i64 q6.fr) ∧ w'.cell? ⟨g6, i * 3 + 1, none⟩ = some (.int .i64 q6.to) ∧ w'.cell? ⟨g6, i * 3 + 2, none⟩ = some (.slice q6.a q6.l.length q6.c)) := fun w' hX => by
              have g := below_keep hX (unhide G7)
              exact ⟨by rw [cell_of g]; rfl, by rw [cell_of g]; rfl, by rw [cell_of g]; rfl, (hX.cell (p := ⟨rb, 0, none⟩) zr').trans z0', (hX.cell (p := ⟨g6, i * 3, none⟩) hg7).trans z1', (hX.cell (p := ⟨g6, i * 3 + 1, none⟩) hg7).trans z2', (hX.cell (p := ⟨g6, i * 3 + 2, none⟩) hg7).trans z3'⟩
            clear z0' z1' z2' z3' zr' hg7 G7
            go_region_held3 (fun w' => w'.cell? ⟨pb, 0, none⟩ = some (.int .i64 p'.fr) ∧ w'.cell? ⟨pb, 1, none⟩ = some (.int .i64 p'.to) ∧ w'.cell? ⟨pb, 2, none⟩ = some (.slice p'.a p'.l.length p'.c) ∧ w'.cell? ⟨rb, 0, none⟩ = some (.slice (some ⟨g6, 0, none⟩) n5 c6) ∧ w'.cell? ⟨g6, i * 3, none⟩ = some (.int .i64 q6.fr) ∧ w'.cell? ⟨g6, i * 3 + 1, none⟩ = some (.int .i64 q6.to) ∧ w'.cell? ⟨g6, i * 3 + 2, none⟩ = some (.slice q6.a q6.l.length q6.c)) (first | exact unhide SK _ (unhide BS) | exact unhide SK _ (by go_grown)) (first | (go_at_call 14; refine (unhide SM _ (by go_grown)).mono ?_; rintro e w8 ⟨rfl, b8⟩; have BS : Hid (Below W7.heap.size W7 w8) := ⟨b8.os, b8.tape, b8.output, b8.size, fun k hk => b8.block k hk⟩; clear b8))
            all_goals
              have T8 := hide ((unhide T7).later (unhide BS))
              have WB : Hid (∃ l', Wr w w8 R5 Q5 pb p' l') := ⟨p'.l, (unhide E7).later (unhide BS), (unhide F7).row.row.later (unhide BS), rfl, fun k hk => ⟨((unhide F7).out k hk).1, ((unhide F7).out k hk).2.1, ((unhide F7).out k hk).2.2, unhide HBX k hk⟩⟩
              obtain ⟨m1, m2, m3, _⟩ := unhide SK w8 (unhide BS)
              clear T7 E7 F7 SK SM BS HBX m1 m2
              go_wp2_with fail
              clear m3
              go_loopw [172] (fun pl wr => ∃ (j : Nat) (l' : List Nat), j ≤ p'.l.length ∧ pl = .int .i64 (j : Int) ∧ Wr w wr R5 Q5 pb p' l' ∧ TwN w wr nb rb R5 Q5 qs5 qs5 D5 D5) (fun pl _ => p'.l.length - (intOf pl).toNat)
              case atStart =>
                obtain ⟨l', hwr⟩ := unhide WB
                exact ⟨0, l', Nat.zero_le _, rfl, hwr, unhide T8⟩
              case round =>
                obtain ⟨j, l', hj, rfl, hwr, t9⟩ := hrel
                clear WB T8
                have m0 : wr.cell? ⟨pb, 2, none⟩ = some (.slice p'.a p'.l.length p'.c) := by rw [cell_of hwr.box.heap]; rfl
                by_cases hjl : j < p'.l.length
                · have hjl' : (j : Int) < (p'.l.length : Int) := by omega
                  have hj0 : (0 : Int) ≤ (j : Int) := by omega
                  have hlb := (unhide HLB)
                  have hjw : IntKind.i64.wrap ((j : Int) + 1) = (j : Int) + 1 := wrap_low (by omega) (by omega)
                  obtain ⟨g, hga, n0, n1⟩ := hwr.cell hjl
                  have NX := hide (hwr.set t9 hga j (x := 2) (by omega))
                  rw [hga] at m0
                  clear hwr t9 hga hlb
                  go_wp2
                  go_roundw
                  case rel => exact ⟨j + 1, _, by omega, by go_num, (unhide NX).1, (unhide NX).2⟩
                  case measure => simp [intOf]; omega
                · have hjl' : ¬ (j : Int) < (p'.l.length : Int) := by omega
                  have T9 := hide t9
                  clear hwr t9 m0
                  go_wp2
                  go_roundw
                  case rel => exact ⟨i + 1, by omega, by go_num, unhide T9⟩
                  case measure => simp [intOf]; omega
          · have hil' : ¬ (i : Int) < (n5 : Int) := by omega
            obtain ⟨a7, c7, lc⟩ := unhide LC wr t6
            have T9 := hide t6
            clear t6
            go_wp2
            go_roundw
            case rel => exact ⟨k + 1, R5, Q5, qs5, D5, by omega, by go_num, hq5, by omega, unhide T9⟩
            case measure => simp [intOf]; omega
      case first =>
        by_cases hk0 : ok = 0
        · subst hk0
          have LO := hide (lown_any ((unhide OP).later (unhide T1).below))
          simp only [pkV, pkS] at LO
          go_wp2_with fail

          refine (unhide LO).mono ?_
          rintro e w3 ⟨p', rfl, pa, pr, pn, b3⟩
          have hA : Below w3.heap.size w3 (w3.alloc (.cells #[.int .i64 p'.fr, .int .i64 p'.to, .slice p'.a p'.l.length p'.c] 33)) := (Below.refl _ _).alloc (Nat.le_refl _) _
          have hAB := b3.trans (hA.mono b3.size)
          have SD1 : Hid (Sd w (w3.alloc (.cells #[.int .i64 p'.fr, .int .i64 p'.to, .slice p'.a p'.l.length p'.c] 33)) nb rb ob w3.heap.size R Q qs qs D ⟨0, oi, oj, p⟩ p') := ⟨(unhide T1).later hAB, (unhide E1).later hAB, Ex.new ((unhide T1).later b3) _, Fr.new (unhide T1) (pr.later hA) pn⟩
          have HLB := hide pr.in_.l
          have HBX : Hid (∀ k, (pkS p').ownBlock = some k → k ≠ w3.heap.size) := fun k hk e => by have := pr.row.lt k hk; omega
          clear b3 pr pn hA hAB LO T1 E1 x0 x1 x2 x3 x4 x5
          obtain ⟨D5, hD5⟩ : ∃ D5, D5 = D := ⟨_, rfl⟩
          obtain ⟨qs5, hqs5⟩ : ∃ qs5, qs5 = sendE qs p.abs := ⟨_, rfl⟩
          have HD5 : Hid (D5.length ≤ k + 1) := by show _ ≤ _; rw [hD5]; omega
          have HQ5 : Hid (qs5.length ≤ 256) := by show _ ≤ _; rw [hqs5]; exact sendE_le hq
          rw [← hD5] at SD1
          clear hD5 hd
          obtain ⟨rr, hrr⟩ : ∃ rr : Bool, rr = decide (qs.length < 256) := ⟨_, rfl⟩
          obtain ⟨pb, hpb⟩ : ∃ pb, pb = w3.heap.size := ⟨_, rfl⟩
          rw [← hpb] at SD1 HBX
          have K1 : Hid (∀ X, Sd w X nb rb ob pb R Q qs qs D5 ⟨0, oi, oj, p⟩ p' → Calls Try.prog 12 #[.pointer (some ⟨nb, 0, none⟩), .agg #[.int .i64 p'.fr, .int .i64 p'.to, .slice p'.a p'.l.length p'.c]] X fun e w' => e = .returned (.bool rr) ∧ ∃ R', Sd w w' nb rb ob pb R' Q qs5 qs D5 ⟨0, oi, oj, p⟩ p') := fun X h => by
            have := h.send
            rw [pa, ← hqs5, ← hrr] at this
            exact this
          have K2 : Hid (∀ X R', Sd w X nb rb ob pb R' Q qs5 qs D5 ⟨0, oi, oj, p⟩ p' → Calls Try.prog 11 #[.agg #[.int .i64 p.fr, .int .i64 p.to, .slice p.a p.l.length p.c]] X fun e w' => ∃ p2, e = .returned (pkV p2) ∧ p2.abs = p.abs ∧ Sd w w' nb rb ob pb R' Q qs5 qs D5 ⟨0, oi, oj, p⟩ p' ∧ Fr w w' R' Q p2 ∧ ∀ k, (pkS p').ownBlock = some k → (pkS p2).ownBlock ≠ some k) := fun X R' h => h.own (unhide OP)
          have K3 : Hid (∀ X R' p2, Sd w X nb rb ob pb R' Q qs5 qs D5 ⟨0, oi, oj, p⟩ p' → Fr w X R' Q p2 → (∀ k, (pkS p').ownBlock = some k → (pkS p2).ownBlock ≠ some k) → p2.abs = p.abs → Calls Try.prog 13 #[.pointer (some ⟨rb, 0, none⟩), .agg #[.int .i64 p2.fr, .int .i64 p2.to, .slice p2.a p2.l.length p2.c]] X fun e w' => e = .returned (.bool rr) ∧ ∃ Q', Sd w w' nb rb ob pb R' Q' qs5 qs5 D5 ⟨0, oi, oj, p⟩ p') := fun X R' p2 h h2 hd ha => by
            have := h.rsend h2 hd
            rw [ha, ← hqs5, ← hrr] at this
            exact this
          have K4 : Hid (∀ X R' Q', Sd w X nb rb ob pb R' Q' qs5 qs5 D5 ⟨0, oi, oj, p⟩ p' → Calls Try.prog 14 #[.agg #[.int .i64 p'.fr, .int .i64 p'.to, .slice p'.a p'.l.length p'.c], .agg #[.int .i64 p.fr, .int .i64 p.to, .slice p.a p.l.length p.c]] X fun e w' => e = .returned (.bool true) ∧ Sd w w' nb rb ob pb R' Q' qs5 qs5 D5 ⟨0, oi, oj, p⟩ p') := fun X R' Q' h => h.same (unhide OP) pa
          clear hqs5 hrr pa
          simp only [pkV, pkS]
          go_wp2_with fail
          rw [← hpb]
          generalize w3.alloc (.cells #[.int .i64 p'.fr, .int .i64 p'.to, .slice p'.a p'.l.length p'.c] 33) = W3 at *
          clear hpb
          have C1 : Hid (∀ w', Below W3.heap.size W3 w' → w'.cell? ⟨pb, 0, none⟩ = some (.int .i64 p'.fr) ∧ w'.cell? ⟨pb, 1, none⟩ = some (.int .i64 p'.to) ∧ w'.cell? ⟨pb, 2, none⟩ = some (.slice p'.a p'.l.length p'.c) ∧ w'.cell? ⟨ob, 3, none⟩ = some (.int .i64 p.fr) ∧ w'.cell? ⟨ob, 4, none⟩ = some (.int .i64 p.to) ∧ w'.cell? ⟨ob, 5, none⟩ = some (.slice p.a p.l.length p.c)) := fun w' hX => ((unhide SD1).later hX).cells
          go_region_held3 (fun w' => w'.cell? ⟨pb, 0, none⟩ = some (.int .i64 p'.fr) ∧ w'.cell? ⟨pb, 1, none⟩ = some (.int .i64 p'.to) ∧ w'.cell? ⟨pb, 2, none⟩ = some (.slice p'.a p'.l.length p'.c) ∧ w'.cell? ⟨ob, 3, none⟩ = some (.int .i64 p.fr) ∧ w'.cell? ⟨ob, 4, none⟩ = some (.int .i64 p.to) ∧ w'.cell? ⟨ob, 5, none⟩ = some (.slice p.a p.l.length p.c)) (first | exact (unhide SD5).cells | exact ((unhide SD5).later (by go_grown)).cells | exact (unhide SD4).cells | exact ((unhide SD4).later (by go_grown)).cells | exact (unhide SD3).cells | exact ((unhide SD3).later (by go_grown)).cells | exact (unhide SD2).cells | exact ((unhide SD2).later (by go_grown)).cells | exact unhide C1 _ (by go_grown)) (first
            | (go_at_call 14; refine (unhide K4 _ _ _ (by first | exact unhide SD4 | exact (unhide SD4).later (by go_grown))).mono ?_; rintro e w8 ⟨rfl, s5⟩; have SD5 := hide s5; clear s5)
            | (go_at_call 13; refine (unhide K3 _ _ p2 (by first | exact unhide SD3 | exact (unhide SD3).later (by go_grown)) (by first | exact unhide F3 | exact (unhide F3).later (by go_grown)) (unhide DJ) (unhide A3)).mono ?_; rintro e w6 ⟨rfl, Q5, s4⟩; have SD4 := hide s4; clear s4)
            | (go_at_call 11; refine (unhide K2 _ _ (by first | exact unhide SD2 | exact (unhide SD2).later (by go_grown))).mono ?_; rintro e w5 ⟨p2, rfl, a3, s3, f3, dj⟩; have SD3 := hide s3; have F3 := hide f3; have DJ := hide dj; have A3 := hide a3; clear s3 f3 dj a3)
            | (go_at_call 12; refine (unhide K1 _ (by first | exact unhide SD1 | exact (unhide SD1).later (by go_grown))).mono ?_; rintro e w4 ⟨rfl, R5, s2⟩; have SD2 := hide s2; clear s2))
          all_goals
            have T8 := hide (unhide SD5).two
            have WB : Hid (∃ l', Wr w w8 R5 Q5 pb p' l') := ⟨p'.l, (unhide SD5).box, (unhide SD5).fr.row.row, rfl, fun k hk => ⟨((unhide SD5).fr.out k hk).1, ((unhide SD5).fr.out k hk).2.1, ((unhide SD5).fr.out k hk).2.2, unhide HBX k hk⟩⟩
            have m3 := (unhide SD5).cells.2.2.1
            clear K1 K2 K3 K4 C1 SD1 SD2 SD3 SD4 SD5 F3 DJ A3 HBX
            have hq5 : qs5.length ≤ 256 := unhide HQ5
            have hd5 : D5.length ≤ k + 1 := unhide HD5
            clear HQ5 HD5
            cases rr
            · go_wp2_with fail
              clear m3
              go_loopw [63] (fun pl wr => ∃ (j : Nat) (l' : List Nat), j ≤ p'.l.length ∧ pl = .int .i64 (j : Int) ∧ Wr w wr R5 Q5 pb p' l' ∧ TwN w wr nb rb R5 Q5 qs5 qs5 D5 D5) (fun pl _ => p'.l.length - (intOf pl).toNat)
              case atStart =>
                obtain ⟨l', hwr⟩ := unhide WB
                exact ⟨0, l', Nat.zero_le _, rfl, hwr, unhide T8⟩
              case round =>
                obtain ⟨j, l', hj, rfl, hwr, t9⟩ := hrel
                clear WB T8
                have m0 : wr.cell? ⟨pb, 2, none⟩ = some (.slice p'.a p'.l.length p'.c) := by rw [cell_of hwr.box.heap]; rfl
                by_cases hjl : j < p'.l.length
                · have hjl' : (j : Int) < (p'.l.length : Int) := by omega
                  have hj0 : (0 : Int) ≤ (j : Int) := by omega
                  have hlb := (unhide HLB)
                  have hjw : IntKind.i64.wrap ((j : Int) + 1) = (j : Int) + 1 := wrap_low (by omega) (by omega)
                  obtain ⟨g, hga, n0, n1⟩ := hwr.cell hjl
                  have NX := hide (hwr.set t9 hga j (x := 1) (by omega))
                  rw [hga] at m0
                  clear hwr t9 hga hlb
                  go_wp2
                  go_roundw
                  case rel => exact ⟨j + 1, _, by omega, by go_num, (unhide NX).1, (unhide NX).2⟩
                  case measure => simp [intOf]; omega
                · have hjl' : ¬ (j : Int) < (p'.l.length : Int) := by omega
                  have T9 := hide t9
                  clear hwr t9 m0
                  have T5 := T9
                  clear T9 HLB

                  try go_wp2_with fail
                  go_meet
                  case rel => exact ⟨rfl, R5, Q5, qs5, D5, hq5, hd5, unhide T5⟩
            · go_wp2_with fail
              clear m3
              go_loopw [63] (fun pl wr => ∃ (j : Nat) (l' : List Nat), j ≤ p'.l.length ∧ pl = .int .i64 (j : Int) ∧ Wr w wr R5 Q5 pb p' l' ∧ TwN w wr nb rb R5 Q5 qs5 qs5 D5 D5) (fun pl _ => p'.l.length - (intOf pl).toNat)
              case atStart =>
                obtain ⟨l', hwr⟩ := unhide WB
                exact ⟨0, l', Nat.zero_le _, rfl, hwr, unhide T8⟩
              case round =>
                obtain ⟨j, l', hj, rfl, hwr, t9⟩ := hrel
                clear WB T8
                have m0 : wr.cell? ⟨pb, 2, none⟩ = some (.slice p'.a p'.l.length p'.c) := by rw [cell_of hwr.box.heap]; rfl
                by_cases hjl : j < p'.l.length
                · have hjl' : (j : Int) < (p'.l.length : Int) := by omega
                  have hj0 : (0 : Int) ≤ (j : Int) := by omega
                  have hlb := (unhide HLB)
                  have hjw : IntKind.i64.wrap ((j : Int) + 1) = (j : Int) + 1 := wrap_low (by omega) (by omega)
                  obtain ⟨g, hga, n0, n1⟩ := hwr.cell hjl
                  have NX := hide (hwr.set t9 hga j (x := 1) (by omega))
                  rw [hga] at m0
                  clear hwr t9 hga hlb
                  go_wp2
                  go_roundw
                  case rel => exact ⟨j + 1, _, by omega, by go_num, (unhide NX).1, (unhide NX).2⟩
                  case measure => simp [intOf]; omega
                · have hjl' : ¬ (j : Int) < (p'.l.length : Int) := by omega
                  have T9 := hide t9
                  clear hwr t9 m0
                  have T5 := T9
                  clear T9 HLB

                  try go_wp2_with fail
                  go_meet
                  case rel => exact ⟨rfl, R5, Q5, qs5, D5, hq5, hd5, unhide T5⟩
        by_cases hk1 : ok = 1
        · subst hk1
          have TK := hide (take2_any (unhide T1).net oi hoi)
          unfold TakeP2 at TK
          have APT := hide (unhide T1).apart
          go_wp2_with fail

          refine (unhide TK).mono ?_
          rintro e w3 ⟨p', rfl, pa, pr, pown, np⟩
          obtain ⟨R5, T3, tt, hn3⟩ := (unhide T1).npost np
          have hA : Below w3.heap.size w3 (w3.alloc (.cells #[.int .i64 p'.fr, .int .i64 p'.to, .slice p'.a p'.l.length p'.c] 33)) := (Below.refl _ _).alloc (Nat.le_refl _) _
          have T4 := hide (T3.later hA)
          have E4 := ((unhide E1).n tt hn3).later hA
          have B4 := hide (Ex.new T3 (.cells #[.int .i64 p'.fr, .int .i64 p'.to, .slice p'.a p'.l.length p'.c] 33))
          have PR4 := hide (pr.later hA)
          have PQ : Hid (∀ j, (pkS p').ownBlock = some j → ¬ Q j) := fun j hj hQ => unhide APT j (pown j hj) hQ
          have x1' : (w3.alloc (.cells #[.int .i64 p'.fr, .int .i64 p'.to, .slice p'.a p'.l.length p'.c] 33)).cell? ⟨ob, 1, none⟩ = some (.int .i64 oi) := by rw [cell_of E4.heap]; rfl
          have RT := hide (rtake_any (unhide T4).ref hq (by omega) oi hoi)
          unfold RTakePost at RT
          clear np TK T1 E1 T3 E4 tt hn3 hA pr pown APT x0 x1 x2 x3 x4 x5
          obtain ⟨D5, hD5⟩ : ∃ D5, D5 = D := ⟨_, rfl⟩
          obtain ⟨qs5, hqs5⟩ : ∃ qs5, qs5 = qs.eraseIdx (rnd oi qs.length) := ⟨_, rfl⟩
          rw [← hqs5] at T4 RT
          have HD5 : Hid (D5.length ≤ k + 1) := by show _ ≤ _; rw [hD5]; omega
          have HQ5 : Hid (qs5.length ≤ 256) := by show _ ≤ _; rw [hqs5]; exact erase_le hq
          obtain ⟨tb, htb⟩ : ∃ tb, tb = tkB qs D oi := ⟨_, rfl⟩
          rw [← htb] at RT ⊢
          rw [← hD5] at T4 RT
          clear hqs5 htb
          simp only [pkV, pkS]
          go_wp2_with fail
          generalize w3.alloc (.cells #[.int .i64 p'.fr, .int .i64 p'.to, .slice p'.a p'.l.length p'.c] 33) = W4 at *
          generalize w3.heap.size = b1 at *
          refine (unhide RT).mono ?_
          rintro e w6 ⟨p2, rfl, qa, qr, qown, rp⟩
          obtain ⟨Q5, T6, tq, hn6⟩ := (unhide T4).rpost rp (fun _ h => h.elim)
          have B6 := (unhide B4).r tq hn6 (fun h => h)
          have PR6 := (unhide PR4).keep tq (unhide PQ)
          have hA : Below w6.heap.size w6 (w6.alloc (.cells #[.int .i64 p2.fr, .int .i64 p2.to, .slice p2.a p2.l.length p2.c] 33)) := (Below.refl _ _).alloc (Nat.le_refl _) _
          have T7 := hide (T6.later hA)
          have B7 := B6.later hA
          have SM := hide (same11_any (PR6.later hA).pin (qr.later hA).pin (by rw [pa, qa, hD5]))
          obtain ⟨z0, z1, z2⟩ := (BoxP.new w6 p2).cells
          have m0 : (w6.alloc (.cells #[.int .i64 p2.fr, .int .i64 p2.to, .slice p2.a p2.l.length p2.c] 33)).cell? ⟨b1, 0, none⟩ = some (.int .i64 p'.fr) := by rw [cell_of B7.heap]; rfl
          have m1 : (w6.alloc (.cells #[.int .i64 p2.fr, .int .i64 p2.to, .slice p2.a p2.l.length p2.c] 33)).cell? ⟨b1, 1, none⟩ = some (.int .i64 p'.to) := by rw [cell_of B7.heap]; rfl
          have m2 : (w6.alloc (.cells #[.int .i64 p2.fr, .int .i64 p2.to, .slice p2.a p2.l.length p2.c] 33)).cell? ⟨b1, 2, none⟩ = some (.slice p'.a p'.l.length p'.c) := by rw [cell_of B7.heap]; rfl
          clear RT T4 B4 PR4 PQ rp T6 tq hn6 B6 PR6 hA B7 qr qown x1' pa qa hD5 hd
          simp only [pkV, pkS] at SM ⊢
          have htt : (tb != tb) = false := by simp
          go_wp2_with fail
          generalize w6.alloc (.cells #[.int .i64 p2.fr, .int .i64 p2.to, .slice p2.a p2.l.length p2.c] 33) = W6 at *
          refine (unhide SM).mono ?_
          rintro e w5 ⟨rfl, b5⟩
          have T5 := hide ((unhide T7).later b5)
          clear SM T7 b5 z0 z1 z2 m0 m1 m2
          have hq5 : qs5.length ≤ 256 := unhide HQ5
          have hd5 : D5.length ≤ k + 1 := unhide HD5
          clear HQ5 HD5

          try go_wp2_with fail
          go_meet
          case rel => exact ⟨rfl, R5, Q5, qs5, D5, hq5, hd5, unhide T5⟩
        by_cases hk2 : ok = 2
        · subst hk2
          obtain ⟨qs5, hqs5⟩ : ∃ qs5, qs5 = qs.eraseIdx (rnd oi qs.length) := ⟨_, rfl⟩
          have HQ5 : Hid (qs5.length ≤ 256) := by show _ ≤ _; rw [hqs5]; exact erase_le hq
          obtain ⟨D5, hD5⟩ : ∃ D5, D5 = D := ⟨_, rfl⟩
          have HD5 : Hid (D5.length ≤ k + 1) := by show _ ≤ _; rw [hD5]; omega
          rw [← hD5] at T1
          have hd' : D5.length ≤ k := by rw [hD5]; exact hd
          clear hD5 hd
          obtain ⟨rr, hrr⟩ : ∃ rr : Bool, rr = decide (0 < qs.length) := ⟨_, rfl⟩
          have KN : Hid (∀ X, Below (W1).heap.size (W1) X → Calls Try.prog 17 #[.pointer (some ⟨nb, 0, none⟩), .int .i64 oi] X fun e w' => e = .returned (.bool rr) ∧ ∃ R', TwN w w' nb rb R' Q qs5 qs D5 D5 ∧ Ex w' R' Q ob (.cells #[.int .i64 2, .int .i64 oi, .int .i64 oj, .int .i64 p.fr, .int .i64 p.to, .slice p.a p.l.length p.c] 35)) := fun X hX => by
            refine (drop_any ((unhide T1).later hX).net oi hoi).mono ?_
            rintro e w' ⟨he, np⟩
            rw [← hqs5] at np
            obtain ⟨R', t, tt, hn⟩ := ((unhide T1).later hX).npost np
            exact ⟨by rw [he, hrr], R', t, ((unhide E1).later hX).n tt hn⟩
          have KR : Hid (∀ X R', TwN w X nb rb R' Q qs5 qs D5 D5 → Ex X R' Q ob (.cells #[.int .i64 2, .int .i64 oi, .int .i64 oj, .int .i64 p.fr, .int .i64 p.to, .slice p.a p.l.length p.c] 35) → Calls Try.prog 18 #[.pointer (some ⟨rb, 0, none⟩), .int .i64 oi] X fun e w' => e = .returned (.bool rr) ∧ ∃ Q', TwN w w' nb rb R' Q' qs5 qs5 D5 D5 ∧ Ex w' R' Q' ob (.cells #[.int .i64 2, .int .i64 oi, .int .i64 oj, .int .i64 p.fr, .int .i64 p.to, .slice p.a p.l.length p.c] 35)) := fun X R' hX hE => by
            refine (rdrop_any hX.ref hq oi hoi).mono ?_
            rintro e w' ⟨he, rp⟩
            rw [← hqs5] at rp
            obtain ⟨Q', t, tt, hn⟩ := hX.rpost rp (fun _ h => h.elim)
            exact ⟨by rw [he, hrr], Q', t, hE.r tt hn (fun h => h)⟩
          clear hqs5 hrr
          have XB : Hid (∀ X R' Q', Ex X R' Q' ob (.cells #[.int .i64 2, .int .i64 oi, .int .i64 oj, .int .i64 p.fr, .int .i64 p.to, .slice p.a p.l.length p.c] 35) → X.cell? ⟨ob, 1, none⟩ = some (.int .i64 oi)) := fun X R' Q' hE => by rw [cell_of hE.heap]; rfl
          have S1 : Hid (∀ X, Below (W1).heap.size (W1) X → X.cell? ⟨ob, 1, none⟩ = some (.int .i64 oi)) := fun X hX => unhide XB X _ _ ((unhide E1).later hX)
          clear T1 E1
          go_wp2_with fail

          clear x0 x1 x2 x3 x4 x5
          go_region_held3 (fun w' => w'.cell? ⟨ob, 1, none⟩ = some (.int .i64 oi)) (first | exact unhide XB _ _ _ ((unhide E3).later (by go_grown)) | exact unhide XB _ _ _ (unhide E3) | exact unhide XB _ _ _ ((unhide E2).later (by go_grown)) | exact unhide XB _ _ _ (unhide E2) | exact unhide S1 _ (by go_grown)) (first
            | (go_at_call 18; refine (unhide KR _ _ (by first | exact unhide T2 | exact (unhide T2).later (by go_grown)) (by first | exact unhide E2 | exact (unhide E2).later (by go_grown))).mono ?_; rintro e w5 ⟨rfl, Q5, t3, e3⟩; have T5 := hide t3; have E3 := hide e3; clear t3 e3)
            | (go_at_call 17; refine (unhide KN _ (by go_grown)).mono ?_; rintro e w3 ⟨rfl, R5, t2, e2⟩; have T2 := hide t2; have E2 := hide e2; clear t2 e2))
          all_goals
            clear KN KR XB S1 T2 E2 E3
            have hq5 : qs5.length ≤ 256 := unhide HQ5
            have hd5 : D5.length ≤ k + 1 := unhide HD5
            clear HQ5 HD5
            cases rr
            · go_wp2_with fail
              try go_wp2_with fail
              go_meet
              case rel => exact ⟨rfl, R5, Q5, qs5, D5, hq5, hd5, unhide T5⟩
            · go_wp2_with fail
              try go_wp2_with fail
              go_meet
              case rel => exact ⟨rfl, R5, Q5, qs5, D5, hq5, hd5, unhide T5⟩
        by_cases hk3 : ok = 3
        · subst hk3
          obtain ⟨qs5, hqs5⟩ : ∃ qs5, qs5 = cpE qs oi := ⟨_, rfl⟩
          have HQ5 : Hid (qs5.length ≤ 256) := by show _ ≤ _; rw [hqs5]; exact cpE_le hq
          obtain ⟨D5, hD5⟩ : ∃ D5, D5 = D := ⟨_, rfl⟩
          have HD5 : Hid (D5.length ≤ k + 1) := by show _ ≤ _; rw [hD5]; omega
          rw [← hD5] at T1
          have hd' : D5.length ≤ k := by rw [hD5]; exact hd
          clear hD5 hd
          obtain ⟨rr, hrr⟩ : ∃ rr : Bool, rr = (decide (0 < qs.length) && decide (qs.length < 256)) := ⟨_, rfl⟩
          have KN : Hid (∀ X, Below (W1).heap.size (W1) X → Calls Try.prog 19 #[.pointer (some ⟨nb, 0, none⟩), .int .i64 oi] X fun e w' => e = .returned (.bool rr) ∧ ∃ R', TwN w w' nb rb R' Q qs5 qs D5 D5 ∧ Ex w' R' Q ob (.cells #[.int .i64 3, .int .i64 oi, .int .i64 oj, .int .i64 p.fr, .int .i64 p.to, .slice p.a p.l.length p.c] 35)) := fun X hX => by
            refine (copy_any ((unhide T1).later hX).net oi hoi).mono ?_
            rintro e w' ⟨he, np⟩
            rw [← hqs5] at np
            obtain ⟨R', t, tt, hn⟩ := ((unhide T1).later hX).npost np
            exact ⟨by rw [he, hrr], R', t, ((unhide E1).later hX).n tt hn⟩
          have KR : Hid (∀ X R', TwN w X nb rb R' Q qs5 qs D5 D5 → Ex X R' Q ob (.cells #[.int .i64 3, .int .i64 oi, .int .i64 oj, .int .i64 p.fr, .int .i64 p.to, .slice p.a p.l.length p.c] 35) → Calls Try.prog 20 #[.pointer (some ⟨rb, 0, none⟩), .int .i64 oi] X fun e w' => e = .returned (.bool rr) ∧ ∃ Q', TwN w w' nb rb R' Q' qs5 qs5 D5 D5 ∧ Ex w' R' Q' ob (.cells #[.int .i64 3, .int .i64 oi, .int .i64 oj, .int .i64 p.fr, .int .i64 p.to, .slice p.a p.l.length p.c] 35)) := fun X R' hX hE => by
            refine (rcopy_any hX.ref oi hoi).mono ?_
            rintro e w' ⟨he, rp⟩
            rw [← hqs5] at rp
            obtain ⟨Q', t, tt, hn⟩ := hX.rpost rp (fun _ h => h.elim)
            exact ⟨by rw [he, hrr], Q', t, hE.r tt hn (fun h => h)⟩
          clear hqs5 hrr
          have XB : Hid (∀ X R' Q', Ex X R' Q' ob (.cells #[.int .i64 3, .int .i64 oi, .int .i64 oj, .int .i64 p.fr, .int .i64 p.to, .slice p.a p.l.length p.c] 35) → X.cell? ⟨ob, 1, none⟩ = some (.int .i64 oi)) := fun X R' Q' hE => by rw [cell_of hE.heap]; rfl
          have S1 : Hid (∀ X, Below (W1).heap.size (W1) X → X.cell? ⟨ob, 1, none⟩ = some (.int .i64 oi)) := fun X hX => unhide XB X _ _ ((unhide E1).later hX)
          clear T1 E1
          go_wp2_with fail

          clear x0 x1 x2 x3 x4 x5
          go_region_held3 (fun w' => w'.cell? ⟨ob, 1, none⟩ = some (.int .i64 oi)) (first | exact unhide XB _ _ _ ((unhide E3).later (by go_grown)) | exact unhide XB _ _ _ (unhide E3) | exact unhide XB _ _ _ ((unhide E2).later (by go_grown)) | exact unhide XB _ _ _ (unhide E2) | exact unhide S1 _ (by go_grown)) (first
            | (go_at_call 20; refine (unhide KR _ _ (by first | exact unhide T2 | exact (unhide T2).later (by go_grown)) (by first | exact unhide E2 | exact (unhide E2).later (by go_grown))).mono ?_; rintro e w5 ⟨rfl, Q5, t3, e3⟩; have T5 := hide t3; have E3 := hide e3; clear t3 e3)
            | (go_at_call 19; refine (unhide KN _ (by go_grown)).mono ?_; rintro e w3 ⟨rfl, R5, t2, e2⟩; have T2 := hide t2; have E2 := hide e2; clear t2 e2))
          all_goals
            clear KN KR XB S1 T2 E2 E3
            have hq5 : qs5.length ≤ 256 := unhide HQ5
            have hd5 : D5.length ≤ k + 1 := unhide HD5
            clear HQ5 HD5
            cases rr
            · go_wp2_with fail
              try go_wp2_with fail
              go_meet
              case rel => exact ⟨rfl, R5, Q5, qs5, D5, hq5, hd5, unhide T5⟩
            · go_wp2_with fail
              try go_wp2_with fail
              go_meet
              case rel => exact ⟨rfl, R5, Q5, qs5, D5, hq5, hd5, unhide T5⟩
        by_cases hk4 : ok = 4
        · subst hk4
          have CT := hide (cut_any (unhide T1).net hoi hoj (by unfold maxLen; omega))
          unfold CutPost at CT
          go_wp2_with fail

          refine (unhide CT).mono ?_
          rintro e w3 ⟨rfl, np⟩
          obtain ⟨R5, T3, tt, hn3⟩ := (unhide T1).npost np
          have E3 := (unhide E1).n tt hn3
          have x1' : w3.cell? ⟨ob, 1, none⟩ = some (.int .i64 oi) := by rw [cell_of E3.heap]; rfl
          have x2' : w3.cell? ⟨ob, 2, none⟩ = some (.int .i64 oj) := by rw [cell_of E3.heap]; rfl
          have RC := hide (rCut_any T3.ref hoi hoj (by omega))
          unfold RCutPost at RC
          have TH3 := hide T3
          clear np CT T1 E1 T3 E3 tt hn3 x0 x1 x2 x3 x4 x5
          go_wp2_with fail
          refine (unhide RC).mono ?_
          rintro e w5 ⟨rfl, rp⟩
          obtain ⟨Q5, T4, _, _⟩ := (unhide TH3).rpost rp (fun _ h => h.elim)
          obtain ⟨D5, hD5⟩ : ∃ D5, D5 = cutE D oi oj := ⟨_, rfl⟩
          obtain ⟨qs5, hqs5⟩ : ∃ qs5, qs5 = qs := ⟨_, rfl⟩
          rw [← hD5, ← hqs5] at T4
          have HD5 : Hid (D5.length ≤ k + 1) := by show _ ≤ _; rw [hD5]; have := cutE_le D oi oj; omega
          have HQ5 : Hid (qs5.length ≤ 256) := by show _ ≤ _; rw [hqs5]; exact hq
          have T5 := hide T4
          clear rp RC TH3 T4 hD5 hqs5 x1' x2'
          have hq5 : qs5.length ≤ 256 := unhide HQ5
          have hd5 : D5.length ≤ k + 1 := unhide HD5
          clear HQ5 HD5

          try go_wp2_with fail
          go_meet
          case rel => exact ⟨rfl, R5, Q5, qs5, D5, hq5, hd5, unhide T5⟩
        have n0 : ¬ ok = 0 := hk0
        have HL := hide (heal_any (unhide T1).net)
        unfold CutPost at HL
        go_wp2_with fail

        refine (unhide HL).mono ?_
        rintro e w3 ⟨rfl, np⟩
        obtain ⟨R5, T3, _, _⟩ := (unhide T1).npost np
        obtain ⟨hc1, hf1, rp⟩ := rheal_post T3.ref
        obtain ⟨cvv, hcv⟩ := Option.ne_none_iff_exists'.1 hc1
        obtain ⟨Q5, T4, _, _⟩ := T3.rpost rp (fun _ h => h.elim)
        have T5 := hide T4
        clear np HL T1 E1 T3 rp T4 hc1 x0 x1 x2 x3 x4 x5
        have hq5 := hq
        obtain ⟨D5, hD5⟩ : ∃ D5 : Cts, D5 = [] := ⟨_, rfl⟩
        have hd5 : D5.length ≤ k + 1 := by rw [hD5]; simp
        rw [← hD5] at T5
        clear hD5
        go_wp2_with fail
        generalize w3.setCell ⟨rb, 1, none⟩ (.slice none 0 0) = w5 at *
        obtain ⟨qs5, hqs5⟩ : ∃ qs5, qs5 = qs := ⟨_, rfl⟩
        rw [← hqs5] at T5 hq5
        clear hqs5

        try go_wp2_with fail
        go_meet
        case rel => exact ⟨rfl, R5, Q5, qs5, D5, hq5, hd5, unhide T5⟩
    · have hkl' : ¬ (k : Int) < (os.length : Int) := by omega
      have BB := hide tw.below
      clear tw HR HO
      go_wp2
      go_returns
      exact ⟨rfl, unhide BB⟩
end Go.Proofs.Ytgpfkedihgoohaa
