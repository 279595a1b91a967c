/-
  prod's Table.Apply of a batch of records without a transaction to a table that knows nobody. Conditions: the table is one; a producer's number below 2^64.
-/
import Derived.Test.YteadebnkmnkpnabPd3
import Derived.Test.YteadebnkmnkpnabPd4
import Derived.WalkSpells
namespace Go.Proofs.Yteadebnkmnkpnab
open Go.RowKit
set_option linter.unusedVariables false

theorem touch_new {S R : Nat → Prop} {w w1 w2 : World} (t1 : Touch S w w1) (t2 : Touch R w1 w2) (h : ∀ k, R k → S k ∨ w.heap.size ≤ k) : Touch S w w2 :=
  ⟨t2.os.trans t1.os, t2.tape.trans t1.tape, t2.output.trans t1.output, Nat.le_trans t1.size t2.size, fun k hk hs => by
    rw [t2.block k (Nat.lt_of_lt_of_le hk t1.size) (fun hr => by rcases h k hr with e | e; exact hs e; omega), t1.block k hk hs]⟩
theorem Lst9.keep {w w' : World} {S : Nat → Prop} {p : Pd} {ls : List Sn} (h : Lst9 w p ls) (t : Touch S w w') (hs : ∀ k, (pdS p).ownBlock = some k → ¬ S k) : Lst9 w' p ls := ⟨h.1.keep t hs, h.2⟩
theorem PM.later {w w' : World} {b : Nat} {m : Pps} (h : PM w b m) (hb : Below w.heap.size w w') : PM w' b m := h.keep (Touch.of_below (S := fun _ => False) hb) (fun h => h)
theorem step_pmput {ops : Array Oper} {o : Oper} {a : Act} {w : World} {K : Act → World → Prop} {Q : Exit → Act → World → Prop} {E : Prop}
    (hg : o.guard = none) (m x v : Operand) (hop : o.op = Op.mapUpdate 45 m x v) (b : Nat) (ps : Pps) (hm : a.eval m = .map (some b)) (h : PM w b ps) (hn : ps.length < maxLen) (s : Nat) (g : Pd) (hx : a.eval x = .int .u64 (s : Int)) (hv : a.eval v = pdV g) (hs : s < 18446744073709551616)
    (hK : ∀ w', PM w' b ((s, g) :: pdel ps s) → Touch (· = b) w w' → K (a.put o.dst undef) w') :
    if Region.wanted o (yielded ops a.tmps) = true then Oper.wp Try.prog o a w K Q else E := by
  have hw : Region.wanted o (yielded ops a.tmps) = true := by simp [Region.wanted, hg]
  rw [if_pos hw]
  obtain ⟨w', hrun, r1, r2⟩ := h.store hn hs g
  unfold Oper.wp
  simp only [execOp, hop, hm, hx, hv]
  simp [hrun, Result.andThen]
  exact hK w' r1 r2
/-- What it leaves. -/
def ApPost (w : World) (tb : Nat) (b : Bt) (e : Ending) (w' : World) : Prop :=
  e = .returned (.tuple #[]) ∧ ∃ mb p', w'.heap[tb]? = some (.cells #[.map (some mb), .slice none 0 0] 47) ∧ PM w' mb [(b.pid, p')] ∧ Lst9 w' p' [⟨b.seq, (b.vs.length : Int), b.base⟩] ∧ p'.ep = b.pep ∧ p'.nx = IntKind.i64.wrap (b.seq + (b.vs.length : Int)) ∧ Touch (· = tb) w w'
set_option maxRecDepth 100000 in
set_option maxHeartbeats 4000000 in
theorem apply_fresh {w : World} {tb : Nat} (h : w.heap[tb]? = some (.cells #[.map none, .slice none 0 0] 47)) (b : Bt) (a : Option Addr) (cap : Nat) (hpid : b.pid ≠ 0) (hp64 : b.pid < 18446744073709551616) (hctl : b.ctl = false) (htx : b.txn = false) :
    Calls Try.prog 4 #[.pointer (some ⟨tb, 0, none⟩), bv b a cap] w fun e w' => ApPost w tb b e w' := by
  have HT := hide h
  have htb := lt_of_heap h
  have KAT : Hid (∀ w', Below w.heap.size w w' → Calls Try.prog 11 #[.pointer (some ⟨tb, 0, none⟩), .int .u64 (b.pid : Int), .int .i64 b.pep] w' fun e w'' => AnsPost w' (pdV ⟨b.pep, 0, none, 0, 0, false, 0⟩) e w'') := fun w' hb =>
    at9_any (below_keep hb (unhide HT)) b.pid b.pep pd0 false (fun v hv => ⟨none, hv.symm⟩) (fun W hW => plook_nil hp64 W)
  have KAD : Hid (∀ W gp, PdAt W gp ⟨b.pep, 0, none, 0, 0, false, 0⟩ → Calls Try.prog 12 #[.pointer (some ⟨gp, 0, none⟩), bv b a cap] W fun e w' => AdPost W gp ⟨b.pep, 0, none, 0, 0, false, 0⟩ [] b e w') := fun W gp hp =>
    add_any hp ⟨Wide.nil _ _ _, rfl⟩ (by simp) b a cap htx
  have BXN := Box.new w b a cap
  have hA : Below w.heap.size w (w.alloc (.cells #[.int .i64 b.base, .int .i64 b.epoch, .int .u64 (b.pid : Int), .int .i64 b.pep, .int .i64 b.seq, .bool b.txn, .bool b.ctl, .bool b.com, .slice a b.vs.length cap] 25)) := (Below.refl _ _).alloc (Nat.le_refl _) _
  obtain ⟨base, epoch, pid, pep, seq, txn, ctl, com, vs⟩ := b
  simp only at hpid hp64 hctl htx
  subst hctl htx
  have BX : Hid ((w.alloc (.cells #[.int .i64 base, .int .i64 epoch, .int .u64 (pid : Int), .int .i64 pep, .int .i64 seq, .bool false, .bool false, .bool com, .slice a vs.length cap] 25)).heap[w.heap.size]? = some (.cells #[.int .i64 base, .int .i64 epoch, .int .u64 (pid : Int), .int .i64 pep, .int .i64 seq, .bool false, .bool false, .bool com, .slice a vs.length cap] 25)) := BXN
  have HA : Hid (Below w.heap.size w (w.alloc (.cells #[.int .i64 base, .int .i64 epoch, .int .u64 (pid : Int), .int .i64 pep, .int .i64 seq, .bool false, .bool false, .bool com, .slice a vs.length cap] 25))) := hA
  have KAT2 : Hid (∀ w', Below w.heap.size w w' → Calls Try.prog 11 #[.pointer (some ⟨tb, 0, none⟩), .int .u64 (pid : Int), .int .i64 pep] w' fun e w'' => AnsPost w' (.agg #[.int .i64 pep, .int .i64 0, .slice none 0 0, .bool false, .int .i64 0]) e w'') := unhide KAT
  have KAD2 : Hid (∀ W gp, W.heap[gp]? = some (.cells #[.int .i64 pep, .int .i64 0, .slice none 0 0, .bool false, .int .i64 0] 43) → Calls Try.prog 12 #[.pointer (some ⟨gp, 0, none⟩), .agg #[.int .i64 base, .int .i64 epoch, .int .u64 (pid : Int), .int .i64 pep, .int .i64 seq, .bool false, .bool false, .bool com, .slice a vs.length cap]] W fun e w' => AdPost W gp ⟨pep, 0, none, 0, 0, false, 0⟩ [] ⟨base, epoch, pid, pep, seq, false, false, com, vs⟩ e w') := unhide KAD
  clear h KAT KAD BXN hA
  have k2 : (w.alloc (.cells #[.int .i64 base, .int .i64 epoch, .int .u64 (pid : Int), .int .i64 pep, .int .i64 seq, .bool false, .bool false, .bool com, .slice a vs.length cap] 25)).cell? ⟨w.heap.size, 2, none⟩ = some (.int .u64 (pid : Int)) := cell_of (unhide BX) 2
  have k3 : (w.alloc (.cells #[.int .i64 base, .int .i64 epoch, .int .u64 (pid : Int), .int .i64 pep, .int .i64 seq, .bool false, .bool false, .bool com, .slice a vs.length cap] 25)).cell? ⟨w.heap.size, 3, none⟩ = some (.int .i64 pep) := cell_of (unhide BX) 3
  have hpid' : ¬ (pid : Int) = 0 := by omega
  show Calls Try.prog _ #[.pointer (some ⟨tb, 0, none⟩), .agg #[.int .i64 base, .int .i64 epoch, .int .u64 (pid : Int), .int .i64 pep, .int .i64 seq, .bool false, .bool false, .bool com, .slice a vs.length cap]] w _
  go_enter Try.func4, Try.ntmps4
  go_wp2_with fail
  generalize w.alloc (.cells #[.int .i64 base, .int .i64 epoch, .int .u64 (pid : Int), .int .i64 pep, .int .i64 seq, .bool false, .bool false, .bool com, .slice a vs.length cap] 25) = W at *
  refine (unhide KAT2 W (unhide HA)).mono ?_
  rintro e w1 ⟨rfl, b1⟩
  have AB : Below w1.heap.size w1 (w1.alloc (.cells #[.int .i64 pep, .int .i64 0, .slice none 0 0, .bool false, .int .i64 0] 43)) := (Below.refl _ _).alloc (Nat.le_refl _) _
  have bWV := b1.trans (AB.mono b1.size)
  have hVW := hide ((unhide HA).trans (bWV.mono (unhide HA).size))
  have XV := hide (below_keep bWV (unhide BX))
  have TV := hide (below_keep (unhide hVW) (unhide HT))
  have PV : Hid ((w1.alloc (.cells #[.int .i64 pep, .int .i64 0, .slice none 0 0, .bool false, .int .i64 0] 43)).heap[w1.heap.size]? = some (.cells #[.int .i64 pep, .int .i64 0, .slice none 0 0, .bool false, .int .i64 0] 43)) := heap_new _ _
  have hw1 : w.heap.size < w1.heap.size := Nat.lt_of_lt_of_le (lt_of_heap (unhide BX)) b1.size
  clear b1 AB bWV BX HA KAT2 k2 k3
  have x0 : (w1.alloc (.cells #[.int .i64 pep, .int .i64 0, .slice none 0 0, .bool false, .int .i64 0] 43)).cell? ⟨w.heap.size, 0, none⟩ = some (.int .i64 base) := cell_of (unhide XV) 0
  have x1 : (w1.alloc (.cells #[.int .i64 pep, .int .i64 0, .slice none 0 0, .bool false, .int .i64 0] 43)).cell? ⟨w.heap.size, 1, none⟩ = some (.int .i64 epoch) := cell_of (unhide XV) 1
  have x2 : (w1.alloc (.cells #[.int .i64 pep, .int .i64 0, .slice none 0 0, .bool false, .int .i64 0] 43)).cell? ⟨w.heap.size, 2, none⟩ = some (.int .u64 (pid : Int)) := cell_of (unhide XV) 2
  have x3 : (w1.alloc (.cells #[.int .i64 pep, .int .i64 0, .slice none 0 0, .bool false, .int .i64 0] 43)).cell? ⟨w.heap.size, 3, none⟩ = some (.int .i64 pep) := cell_of (unhide XV) 3
  have x4 : (w1.alloc (.cells #[.int .i64 pep, .int .i64 0, .slice none 0 0, .bool false, .int .i64 0] 43)).cell? ⟨w.heap.size, 4, none⟩ = some (.int .i64 seq) := cell_of (unhide XV) 4
  have x5 : (w1.alloc (.cells #[.int .i64 pep, .int .i64 0, .slice none 0 0, .bool false, .int .i64 0] 43)).cell? ⟨w.heap.size, 5, none⟩ = some (.bool false) := cell_of (unhide XV) 5
  have x6 : (w1.alloc (.cells #[.int .i64 pep, .int .i64 0, .slice none 0 0, .bool false, .int .i64 0] 43)).cell? ⟨w.heap.size, 6, none⟩ = some (.bool false) := cell_of (unhide XV) 6
  have x7 : (w1.alloc (.cells #[.int .i64 pep, .int .i64 0, .slice none 0 0, .bool false, .int .i64 0] 43)).cell? ⟨w.heap.size, 7, none⟩ = some (.bool com) := cell_of (unhide XV) 7
  have x8 : (w1.alloc (.cells #[.int .i64 pep, .int .i64 0, .slice none 0 0, .bool false, .int .i64 0] 43)).cell? ⟨w.heap.size, 8, none⟩ = some (.slice a vs.length cap) := cell_of (unhide XV) 8
  go_wp2_with fail
  generalize w1.alloc (.cells #[.int .i64 pep, .int .i64 0, .slice none 0 0, .bool false, .int .i64 0] 43) = V0 at *
  refine (unhide KAD2 V0 w1.heap.size (unhide PV)).mono ?_
  rintro e w2 ⟨rfl, p', hpd, hls, he, hnx, hop, hfi, tch, mov⟩
  obtain ⟨gp, hgp⟩ : ∃ gp, gp = w1.heap.size := ⟨_, rfl⟩
  rw [← hgp] at hpd tch ⊢
  have hgpw : w.heap.size < gp := by omega
  have T2 : Touch (· = gp) V0 w2 := tch.mono (fun k hk => by
    rcases hk with e | e
    · exact e
    · simp [Value.ownBlock] at e)
  have X2 := hide (T2.keep (unhide XV) (show ¬ w.heap.size = gp by omega))
  have TT2 := hide (T2.keep (unhide TV) (show ¬ tb = gp by omega))
  have TW2 : Hid (Touch (fun _ => False) w w2) := touch_new (Touch.of_below (unhide hVW)) T2 (fun k hk => .inr (by omega))
  have hV2 := T2.size
  have hV0 : gp < V0.heap.size := by rw [hgp]; exact lt_of_heap (unhide PV)
  have MV : Hid (∀ k, (pdS p').ownBlock = some k → V0.heap.size ≤ k) := fun k hk => by
    rcases mov k hk with e | e
    · simp [Value.ownBlock] at e
    · exact e
  have PD := hide hpd
  have LS := hide hls
  have HE : Hid (p'.ep = pep ∧ p'.nx = IntKind.i64.wrap (seq + (vs.length : Int))) := ⟨he, by rw [hnx]; rfl⟩
  clear hpd hls he hnx hop hfi tch mov T2 XV TV PV hVW KAD2 x0 x1 x2 x3 x4 x5 x6 x7 x8 hgp
  obtain ⟨pe, px, pg, pn, pc, po, pf⟩ := p'
  unfold PdAt at PD
  have t0 : w2.cell? ⟨tb, 0, none⟩ = some (.map none) := cell_of (unhide TT2) 0
  have hmm := @run_makeMap Try.prog
  have heq := fun (w : World) => run_eql_map_nil (P := Try.prog) w 45 22 43 none Try.underlying45
  have tf : (w2.alloc (.map #[] 0)).frozen? ⟨tb, 0, none⟩ = false := frozen_of (heap_old _ (unhide TT2)) 0
  have tc : (w2.alloc (.map #[] 0)).cell? ⟨tb, 0, none⟩ = some (.map none) := cell_of (heap_old _ (unhide TT2)) 0
  have hbg : gp < w2.heap.size := lt_of_heap (unhide PD)
  have hbt : tb < w2.heap.size := lt_of_heap (unhide TT2)
  obtain ⟨sv, hsv⟩ : ∃ sv, sv = pdS ⟨pe, px, pg, pn, pc, po, pf⟩ := ⟨_, rfl⟩
  have TS := touch_set w2 tb 0 (.map (some w2.heap.size))
  have hs0 : (w2.setCell ⟨tb, 0, none⟩ (.map (some w2.heap.size))).heap.size = w2.heap.size := by simp [World.setCell]
  have TA : Touch (fun _ => False) (w2.setCell ⟨tb, 0, none⟩ (.map (some w2.heap.size))) ((w2.setCell ⟨tb, 0, none⟩ (.map (some w2.heap.size))).alloc (.map #[] 0)) := (Touch.refl _ _).alloc _
  have VM : Hid (PM ((w2.setCell ⟨tb, 0, none⟩ (.map (some w2.heap.size))).alloc (.map #[] 0)) w2.heap.size []) := by
    have := PM.made (w2.setCell ⟨tb, 0, none⟩ (.map (some w2.heap.size)))
    rw [hs0] at this
    exact this
  have VT : Hid (((w2.setCell ⟨tb, 0, none⟩ (.map (some w2.heap.size))).alloc (.map #[] 0)).heap[tb]? = some (.cells #[.map (some w2.heap.size), .slice none 0 0] 47)) := heap_old _ (heap_set (unhide TT2) 0 _)
  have VP : Hid (((w2.setCell ⟨tb, 0, none⟩ (.map (some w2.heap.size))).alloc (.map #[] 0)).heap[gp]? = some (.cells #[.int .i64 pe, .int .i64 px, sv, .bool po, .int .i64 pf] 43)) := by
    rw [hsv]
    exact heap_old _ (TS.keep (unhide PD) (show ¬ gp = tb by omega))
  have VX := hide (heap_old (.map #[] 0) (TS.keep (unhide X2) (show ¬ w.heap.size = tb by omega)))
  have VL := hide (((unhide LS).keep TS (fun k hk e => by have := unhide MV k hk; omega)).keep TA (fun k _ h => h))
  have VW : Hid (Touch (· = tb) w ((w2.setCell ⟨tb, 0, none⟩ (.map (some w2.heap.size))).alloc (.map #[] 0))) := touch_new (touch_new ((unhide TW2).mono (fun _ h => h.elim)) TS (fun k hk => .inl hk)) TA (fun _ h => h.elim)
  have HV := TS.size
  have HMV : Hid (∀ k, (pdS ⟨pe, px, pg, pn, pc, po, pf⟩).ownBlock = some k → k ≠ w2.heap.size) := fun k hk e => by
    obtain ⟨cs, hcs⟩ := (unhide LS).1.heap hk
    have := lt_of_heap hcs
    omega
  clear TS TA LS PD TT2 X2 TW2 MV
  have vt0 : ((w2.setCell ⟨tb, 0, none⟩ (.map (some w2.heap.size))).alloc (.map #[] 0)).cell? ⟨tb, 0, none⟩ = some (.map (some w2.heap.size)) := cell_of (unhide VT) 0
  go_wp2_with fail
  generalize (w2.setCell ⟨tb, 0, none⟩ (.map (some w2.heap.size))).alloc (.map #[] 0) = V at *
  have x2 : V.cell? ⟨w.heap.size, 2, none⟩ = some (.int .u64 (pid : Int)) := cell_of (unhide VX) 2
  have p0 : V.cell? ⟨gp, 0, none⟩ = some (.int .i64 pe) := cell_of (unhide VP) 0
  have p1 : V.cell? ⟨gp, 1, none⟩ = some (.int .i64 px) := cell_of (unhide VP) 1
  have p2 : V.cell? ⟨gp, 2, none⟩ = some sv := cell_of (unhide VP) 2
  have p3 : V.cell? ⟨gp, 3, none⟩ = some (.bool po) := cell_of (unhide VP) 3
  have p4 : V.cell? ⟨gp, 4, none⟩ = some (.int .i64 pf) := cell_of (unhide VP) 4
  have VD : Touch (fun _ => False) V V.drew := ⟨rfl, rfl, rfl, Nat.le_refl _, fun _ _ _ => rfl⟩
  obtain ⟨w3, hst0, m3, t3⟩ := ((unhide VM).keep VD (fun h => h)).store (by simp [maxLen]) hp64 ⟨pe, px, pg, pn, pc, po, pf⟩
  have hst : (Instr.mapUpdate 45 (.map (some w2.heap.size)) (.int .u64 (pid : Int)) (.agg #[.int .i64 pe, .int .i64 px, sv, .bool po, .int .i64 pf])).run Try.prog V.drew = .ok () w3 := by
    rw [hsv]; exact hst0
  have F : Hid (ApPost w tb ⟨base, epoch, pid, pep, seq, false, false, com, vs⟩ (.returned (.tuple #[])) w3) := by
    obtain ⟨e1, e2⟩ := unhide HE
    have t4 := touch_new (VD.mono (T := fun k => k = w2.heap.size) (fun _ h => h.elim)) t3 (fun k hk => .inl hk)
    refine ⟨rfl, w2.heap.size, ⟨pe, px, pg, pn, pc, po, pf⟩, t4.keep (unhide VT) (show ¬ tb = w2.heap.size by omega), m3, (unhide VL).keep t4 (fun k hk e => unhide HMV k hk e), e1, e2, touch_new (unhide VW) t4 (fun k hk => .inr (by omega))⟩
  clear hst0 m3 t3 VD VM VT VP VX VL VW HMV HE hsv
  go_region
  all_goals
    go_wp2
    go_returns
    exact unhide F
end Go.Proofs.Yteadebnkmnkpnab
