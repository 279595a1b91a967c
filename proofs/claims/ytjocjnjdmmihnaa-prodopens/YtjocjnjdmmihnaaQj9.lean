/-
  laid of layer 9, walked. Conditions: the batches as they are read; as many as the reach allows.
-/
import Derived.Test.YtjocjnjdmmihnaaQi9
namespace Go.Proofs.Ytjocjnjdmmihnaa
open Go.RowKit
set_option linter.unusedVariables false

theorem RowsAt.en {w W : World} {a : Option Addr} {es : List En} (h : RowsAt enC 9 w a es) (hb : Below w.heap.size w W) {k : Nat} (hk : k < es.length) : ∃ b off, a = some ⟨b, off, none⟩ ∧ W.cell? ⟨b, off + k * 9, none⟩ = some (.int .i64 es[k].b.base) ∧ W.cell? ⟨b, off + k * 9 + 1, none⟩ = some (.int .i64 es[k].b.epoch) ∧ W.cell? ⟨b, off + k * 9 + 2, none⟩ = some (.int .u64 (es[k].b.pid : Int)) ∧ W.cell? ⟨b, off + k * 9 + 3, none⟩ = some (.int .i64 es[k].b.pep) ∧ W.cell? ⟨b, off + k * 9 + 4, none⟩ = some (.int .i64 es[k].b.seq) ∧ W.cell? ⟨b, off + k * 9 + 5, none⟩ = some (.bool es[k].b.txn) ∧ W.cell? ⟨b, off + k * 9 + 6, none⟩ = some (.bool es[k].b.ctl) ∧ W.cell? ⟨b, off + k * 9 + 7, none⟩ = some (.bool es[k].b.com) ∧ W.cell? ⟨b, off + k * 9 + 8, none⟩ = some (.slice es[k].a es[k].b.vs.length es[k].c) := by
  obtain ⟨b, off, e1, e2, e3⟩ := h k hk
  refine ⟨b, off, e1, ?_, ?_, ?_, ?_, ?_, ?_, ?_, ?_, ?_⟩
  · exact (hb.cell (p := ⟨b, off + k * 9 + 0, none⟩) e2).trans (e3 0 (by omega))
  · exact (hb.cell (p := ⟨b, off + k * 9 + 1, none⟩) e2).trans (e3 1 (by omega))
  · exact (hb.cell (p := ⟨b, off + k * 9 + 2, none⟩) e2).trans (e3 2 (by omega))
  · exact (hb.cell (p := ⟨b, off + k * 9 + 3, none⟩) e2).trans (e3 3 (by omega))
  · exact (hb.cell (p := ⟨b, off + k * 9 + 4, none⟩) e2).trans (e3 4 (by omega))
  · exact (hb.cell (p := ⟨b, off + k * 9 + 5, none⟩) e2).trans (e3 5 (by omega))
  · exact (hb.cell (p := ⟨b, off + k * 9 + 6, none⟩) e2).trans (e3 6 (by omega))
  · exact (hb.cell (p := ⟨b, off + k * 9 + 7, none⟩) e2).trans (e3 7 (by omega))
  · exact (hb.cell (p := ⟨b, off + k * 9 + 8, none⟩) e2).trans (e3 8 (by omega))
theorem batch_info : ∃ i z, Try.prog.info? 30 = some i ∧ i.zero = some z ∧ i.size = 9 ∧ i.bytes = 72 ∧ z.cells.size = 9 := by
  have h : (Try.prog.info? 30).map (fun i => (i.zero.map (fun z => z.cells.size), i.size, i.bytes)) = some (some 9, 9, 72) := by kernel_rfl
  cases hi : Try.prog.info? 30 with
  | none => rw [hi] at h; cases h
  | some i =>
    rw [hi] at h
    simp only [Option.map_some, Option.some.injEq, Prod.mk.injEq] at h
    obtain ⟨h1, h2, h3⟩ := h
    cases hz : i.zero with
    | none => rw [hz] at h1; cases h1
    | some z => rw [hz] at h1; exact ⟨i, z, rfl, hz, h2, h3, by simpa using h1⟩
/-- What laid leaves. -/
def LaidP (w : World) (es : List En) (e : Ending) (w' : World) : Prop := ∃ lv, e = .returned (.tuple #[.pointer (some ⟨w.heap.size, 0, none⟩), lv]) ∧ LS w w' w.heap.size (laidL es es.length).K es.length (laidL es es.length).log lv
set_option maxRecDepth 100000 in
set_option maxHeartbeats 2000000 in
theorem laid_any {w : World} {a0 : Option Addr} {es : List En} {cap0 : Nat} (hr : RowsAt enC 9 w a0 es) (hin : ∀ e ∈ es, BIn w e.b e.a e.c) (hlen : es.length * 72 ≤ reachBytes) :
    Calls Try.prog 6 #[.slice a0 es.length cap0] w fun e w' => LaidP w es e w' := by
  have HR := hide hr
  have HIN := hide hin
  unfold reachBytes at hlen
  have L0 : Hid (LS w (w.alloc (.cells #[.map none, .slice none 0 0] 49)) w.heap.size (laidL es 0).K 0 (laidL es 0).log (.slice none 0 0)) := by
    have hA : Below w.heap.size w (w.alloc (.cells #[.map none, .slice none 0 0] 49)) := (Below.refl _ _).alloc (Nat.le_refl _) _
    exact ⟨hA, Wide.nil _ _ _, fun i hi => by simp [Value.ownBlock] at hi, _, _, _, _, _, Tb.fresh (heap_new _ _), fun i hi => by subst hi; exact ⟨Nat.le_refl _, lt_of_heap (heap_new _ _)⟩, fun i hi => by simp [Value.ownBlock] at hi⟩
  obtain ⟨bi, bz, hbi, hbz, hsz, hby, hzs⟩ := batch_info
  have HBI := hide hbi
  have HBZ := hide hbz
  clear hr hin hbi hbz
  go_enter Try.func6, Try.ntmps6
  go_wp2_with fail
  refine (new9_any w).mono ?_
  rintro e w0 ⟨rfl, rfl⟩
  go_wp2_with fail
  generalize w.alloc (.cells #[.map none, .slice none 0 0] 49) = W0 at *
  go_loopw [5, 6, 15] (fun s5 s6 s15 wr => ∃ k, k ≤ es.length ∧ s15 = .int .i64 (k : Int) ∧ s6 = .int .i64 ((laidL es k).at_ : Int) ∧ LS w wr w.heap.size (laidL es k).K k (laidL es k).log s5) (fun _ _ pl _ => es.length - (intOf pl).toNat)
  case atStart => exact ⟨0, Nat.zero_le _, rfl, rfl, unhide L0⟩
  case round =>
    obtain ⟨k, hk, rfl, rfl, ls⟩ := hrel
    clear L0
    obtain ⟨la, lc, rfl⟩ := ls.row.shape
    by_cases hkl : k < es.length
    · have hkl' : (k : Int) < (es.length : Int) := by omega
      have hz : (0 : Int) ≤ (k : Int) := by omega
      have hw1 : IntKind.i64.wrap ((k : Int) + 1) = (k : Int) + 1 := wrap_low (by omega) (by omega)
      obtain ⟨pb, off, rfl, y0, y1, y2, y3, y4, y5, y6, y7, y8⟩ := (unhide HR).en ls.bel hkl
      have BI := (unhide HIN) _ (List.getElem_mem hkl)
      obtain ⟨q1, q2⟩ := laidL_low es hk
      have ST := hide (laidL_succ hkl)
      generalize laidL es k = L at *
      generalize es[k] = en at *
      obtain ⟨b, a, c⟩ := en
      simp only at *
      have LB0 := hide (ls.box (.cells (btC (atB b L.at_) a c) 30))
      have RA := hide (BI.at_.later (unhide LB0).bel)
      have h64 := BI.fits.pid
      have CK := hide ((unhide LB0).ls.check (atB b L.at_) a c (unhide RA) h64)
      have LB1 := hide ls
      clear ls BI
      obtain ⟨x1, x2, x3, hx⟩ : ∃ x1 x2 x3, ansL L b = (x1, x2, x3) := ⟨_, _, _, rfl⟩
      have hx' : chkK (atB b L.at_) (atK (L.K b.pid) b.pep) = (x1, x2, x3) := hx
      have CK2 := unhide CK
      rw [hx'] at CK2
      have CK3 := hide CK2
      have TK : Hid (took L b = (decide (x3 = 0) && !x2)) := by show took L b = _; unfold took; rw [hx]
      clear CK CK2 hx hx'
      simp only [tup3, bv] at CK3
      simp only [btC] at LB0 RA CK3
      have hgw : w.heap.size ≤ wr.heap.size := (unhide LB1).bel.size
      go_wp2_with fail
      generalize wr.alloc (.cells #[.int .i64 (L.at_ : Int), .int .i64 b.epoch, .int .u64 (b.pid : Int), .int .i64 b.pep, .int .i64 b.seq, .bool b.txn, .bool b.ctl, .bool b.com, .slice a b.vs.length c] 30) = W1 at *
      refine (unhide CK3).mono ?_
      rintro e w2 ⟨rfl, b2⟩
      have LB2 := hide ((unhide LB0).later b2)
      clear b2 LB0 RA CK3 LB1 y0 y1 y2 y3 y4 y5 y6 y7 y8
      generalize wr.heap.size = g at *
      cases htk : took L b with
      | true =>
        have hxx : x3 = 0 ∧ x2 = false := by
          have := unhide TK
          rw [htk] at this
          simpa using this.symm
        obtain ⟨rfl, rfl⟩ := hxx
        have SZ := took_sz htk
        have ST2 : Hid (stepL L ⟨b, a, c⟩ = ⟨putK L.K (atB b L.at_), L.log ++ [atE ⟨b, a, c⟩ L.at_], L.at_ + szB b⟩) := by show stepL L ⟨b, a, c⟩ = _; unfold stepL; rw [if_pos htk]
        have AP := hide ((unhide LB2).apply (by omega) (atB b L.at_) a c h64)
        unfold bv at AP
        have z0 : w2.cell? ⟨g, 0, none⟩ = some (.int .i64 (L.at_ : Int)) := cell_of (unhide LB2).box 0
        have z1 : w2.cell? ⟨g, 1, none⟩ = some (.int .i64 b.epoch) := cell_of (unhide LB2).box 1
        have z2 : w2.cell? ⟨g, 2, none⟩ = some (.int .u64 (b.pid : Int)) := cell_of (unhide LB2).box 2
        have z3 : w2.cell? ⟨g, 3, none⟩ = some (.int .i64 b.pep) := cell_of (unhide LB2).box 3
        have z4 : w2.cell? ⟨g, 4, none⟩ = some (.int .i64 b.seq) := cell_of (unhide LB2).box 4
        have z5 : w2.cell? ⟨g, 5, none⟩ = some (.bool b.txn) := cell_of (unhide LB2).box 5
        have z6 : w2.cell? ⟨g, 6, none⟩ = some (.bool b.ctl) := cell_of (unhide LB2).box 6
        have z7 : w2.cell? ⟨g, 7, none⟩ = some (.bool b.com) := cell_of (unhide LB2).box 7
        have z8 : w2.cell? ⟨g, 8, none⟩ = some (.slice a b.vs.length c) := cell_of (unhide LB2).box 8
        clear TK htk
        go_wp2_with fail
        refine (unhide AP).mono ?_
        rintro e w3 ⟨rfl, lb3⟩
        have LB3 := hide lb3
        clear lb3 LB2 AP z0 z1 z2 z3 z4 z5 z6 z7 z8
        have z0 : w3.cell? ⟨g, 0, none⟩ = some (.int .i64 (L.at_ : Int)) := cell_of (unhide LB3).box 0
        have z1 : w3.cell? ⟨g, 1, none⟩ = some (.int .i64 b.epoch) := cell_of (unhide LB3).box 1
        have z2 : w3.cell? ⟨g, 2, none⟩ = some (.int .u64 (b.pid : Int)) := cell_of (unhide LB3).box 2
        have z3 : w3.cell? ⟨g, 3, none⟩ = some (.int .i64 b.pep) := cell_of (unhide LB3).box 3
        have z4 : w3.cell? ⟨g, 4, none⟩ = some (.int .i64 b.seq) := cell_of (unhide LB3).box 4
        have z5 : w3.cell? ⟨g, 5, none⟩ = some (.bool b.txn) := cell_of (unhide LB3).box 5
        have z6 : w3.cell? ⟨g, 6, none⟩ = some (.bool b.ctl) := cell_of (unhide LB3).box 6
        have z7 : w3.cell? ⟨g, 7, none⟩ = some (.bool b.com) := cell_of (unhide LB3).box 7
        have z8 : w3.cell? ⟨g, 8, none⟩ = some (.slice a b.vs.length c) := cell_of (unhide LB3).box 8
        have hX : ∀ o, Below w3.heap.size w3 (w3.alloc o) := fun o => (Below.refl _ _).alloc (Nat.le_refl _) _
        have HX := hide hX
        have ONE : Hid (∀ u ∈ enC (atE ⟨b, a, c⟩ L.at_), u.oneCell' = true) := by
          intro u hu
          simp only [enC, List.mem_cons, List.not_mem_nil, or_false] at hu
          rcases hu with rfl | rfl | rfl | rfl | rfl | rfl | rfl | rfl | rfl <;> rfl
        have h63 : L.log.length + 1 ≤ maxLen := by unfold maxLen; omega
        have hbb : (L.log.length + 1) * 72 ≤ 140737488355328 := by omega
        clear hX
        go_wp2_with (at_builtin; refine wpList_wide _ rfl (.tmp 37) (.tmp 39) 22 rfl 30 bi bz 9 72 Try.underlying22 (unhide HBI) (unhide HBZ) hsz hby hzs (by omega) (.slice la L.log.length lc) L.log.length (L.log.flatMap enC) rfl ((unhide LB3).row.later (unhide HX _)) w3.heap.size 0 1 (enC (atE ⟨b, a, c⟩ L.at_)) rfl rfl (fun j u hj => by rw [cell_of (heap_new _ _), Nat.zero_add, ← Array.getElem?_toList]; exact hj) (unhide ONE) h63 hbb ?_)
        intro v4 w4 o4 t4 m4
        have LB4 := hide ((unhide LB3).push (unhide HX _) _ o4 t4 m4)
        obtain ⟨a4, c4, rfl⟩ := o4.shape
        clear o4 t4 m4 LB3 HX ONE z0 z1 z2 z3 z4 z5 z6 z7 z8
        have z0 : w4.cell? ⟨g, 0, none⟩ = some (.int .i64 (L.at_ : Int)) := cell_of (unhide LB4).box 0
        have z1 : w4.cell? ⟨g, 1, none⟩ = some (.int .i64 b.epoch) := cell_of (unhide LB4).box 1
        have z2 : w4.cell? ⟨g, 2, none⟩ = some (.int .u64 (b.pid : Int)) := cell_of (unhide LB4).box 2
        have z3 : w4.cell? ⟨g, 3, none⟩ = some (.int .i64 b.pep) := cell_of (unhide LB4).box 3
        have z4 : w4.cell? ⟨g, 4, none⟩ = some (.int .i64 b.seq) := cell_of (unhide LB4).box 4
        have z5 : w4.cell? ⟨g, 5, none⟩ = some (.bool b.txn) := cell_of (unhide LB4).box 5
        have z6 : w4.cell? ⟨g, 6, none⟩ = some (.bool b.ctl) := cell_of (unhide LB4).box 6
        have z7 : w4.cell? ⟨g, 7, none⟩ = some (.bool b.com) := cell_of (unhide LB4).box 7
        have z8 : w4.cell? ⟨g, 8, none⟩ = some (.slice a b.vs.length c) := cell_of (unhide LB4).box 8
        have KS := hide (rsize_any (atB b L.at_) a c w4)
        simp only [bv] at KS
        obtain ⟨sz, hszb⟩ : ∃ sz, szB b = sz := ⟨_, rfl⟩
        rw [show (if b.ctl = true then 1 else b.vs.length) = sz from hszb] at KS
        rw [hszb] at SZ
        have HSB := hide hszb
        clear hszb
        have hw2 : IntKind.i64.wrap ((L.at_ : Int) + (sz : Int)) = ((L.at_ + sz : Nat) : Int) := by rw [wrap_low (by omega) (by omega)]; omega
        go_wp2_with fail
        refine (unhide KS).mono ?_
        rintro e w5 ⟨rfl, b5⟩
        have LS5 := hide ((unhide LB4).later b5).ls
        clear b5 LB4 KS z0 z1 z2 z3 z4 z5 z6 z7 z8
        go_wp2
        go_roundw
        case rel =>
          refine ⟨k + 1, by omega, by go_num, ?_, ?_⟩
          · rw [unhide ST, unhide ST2]
            show _ = Value.int .i64 ((L.at_ + szB b : Nat) : Int)
            rw [unhide HSB]
            go_num
          · rw [unhide ST, unhide ST2]
            have e : L.log.length + 1 = (L.log ++ [atE ⟨b, a, c⟩ L.at_]).length := by simp
            exact unhide LS5
        case measure => simp [intOf]; omega
      | false =>
        have ST2 : Hid (stepL L ⟨b, a, c⟩ = L) := by show stepL L ⟨b, a, c⟩ = _; unfold stepL; rw [htk]; rfl
        have LS2 := hide (unhide LB2).ls.more
        have hno : (decide (x3 = 0) && !x2) = false := by rw [← unhide TK]; exact htk
        clear TK htk LB2
        by_cases h3 : x3 = 0
        · subst h3
          have h2 : x2 = true := by simpa using hno
          subst h2
          clear hno
          go_wp2
          go_roundw
          case rel => exact ⟨k + 1, by omega, by go_num, by rw [unhide ST, unhide ST2], by rw [unhide ST, unhide ST2]; exact unhide LS2⟩
          case measure => simp [intOf]; omega
        · have h3b : (x3 == 0) = false := by simp [h3]
          clear hno
          go_wp2
          go_roundw
          case rel => exact ⟨k + 1, by omega, by go_num, by rw [unhide ST, unhide ST2], by rw [unhide ST, unhide ST2]; exact unhide LS2⟩
          case measure => simp [intOf]; omega
    · obtain rfl : k = es.length := by omega
      have hkl' : ¬ (es.length : Int) < (es.length : Int) := by omega
      have F : Hid (LaidP w es (.returned (.tuple #[.pointer (some ⟨w.heap.size, 0, none⟩), .slice la (laidL es es.length).log.length lc])) wr) := ⟨_, rfl, ls⟩
      clear ls HR HIN
      go_wp2
      go_returns
      exact unhide F
end Go.Proofs.Ytjocjnjdmmihnaa
