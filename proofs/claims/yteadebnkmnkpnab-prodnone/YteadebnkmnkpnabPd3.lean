/-
  prod's producer.add of a batch without a transaction, to fewer than five last batches. Conditions: the producer is one.
-/
import Derived.Test.YteadebnkmnkpnabPd25
import Derived.Deep.RegionLaw
namespace Go.Proofs.Yteadebnkmnkpnab
open Go.RowKit
set_option linter.unusedVariables false

theorem wrap64_i64 (n : Int) : wrap64 n = IntKind.i64.wrap n := by
  have e : IntKind.i64.wrap n = if n % 18446744073709551616 ≥ 9223372036854775808 then n % 18446744073709551616 - 18446744073709551616 else n % 18446744073709551616 := by
    simp [IntKind.wrap, IntKind.bits, IntKind.signed]
  rw [e]; unfold wrap64; split <;> omega
theorem keep_cell {S : Nat → Prop} {W0 X w3 : World} {g j : Nat} {u : Value} (t : Touch S X w3) (hs : ¬ S g) (hb : Below W0.heap.size W0 X) (hg : g < W0.heap.size) (h : W0.cell? ⟨g, j, none⟩ = some u) : w3.cell? ⟨g, j, none⟩ = some u :=
  (World.cell?_of_block (a := ⟨g, j, none⟩) (t.block g (Nat.lt_of_lt_of_le hg hb.size) hs)).trans ((hb.cell (p := ⟨g, j, none⟩) hg).trans h)
theorem keep_heap {S : Nat → Prop} {W0 X w3 : World} {g : Nat} {o : Obj} (t : Touch S X w3) (hs : ¬ S g) (hb : Below W0.heap.size W0 X) (h : W0.heap[g]? = some o) : w3.heap[g]? = some o := by
  have hg : g < W0.heap.size := lt_of_heap h
  rw [t.block g (Nat.lt_of_lt_of_le hg hb.size) hs, hb.block g hg]; exact h
theorem sent_info : ∃ i z, Try.prog.info? 61 = some i ∧ i.zero = some z ∧ i.size = 3 ∧ i.bytes = 24 ∧ z.cells.size = 3 := by
  have h : (Try.prog.info? 61).map (fun i => (i.zero.map (fun z => z.cells.size), i.size, i.bytes)) = some (some 3, 3, 24) := by kernel_rfl
  cases hi : Try.prog.info? 61 with
  | none => rw [hi] at h; cases h
  | some i =>
    rw [hi] at h
    simp only [Option.map_some, Option.some.injEq, Prod.mk.injEq] at h
    obtain ⟨h1, h2, h3⟩ := h
    cases hz : i.zero with
    | none => rw [hz] at h1; cases h1
    | some z => rw [hz] at h1; exact ⟨i, z, rfl, hz, h2, h3, by simpa using h1⟩
theorem step_sent {ops : Array Oper} {o : Oper} {a : Act} {w : World} {K : Act → World → Prop} {Q : Exit → Act → World → Prop} {E : Prop}
    (hg : o.guard = none) (s x : Operand) (hop : o.op = Op.call { callee := Callee.builtin Builtin.append, args := #[s, x], argTypes := #[41, 41] })
    (v : Value) (n : Nat) (xs : List Value) (hs : a.eval s = v) (hr : Wide w 61 3 v n xs) (g : Nat) (cs : Array Value) (news : List Value) (hx : a.eval x = .slice (some ⟨g, 0, none⟩) 1 1) (hu : w.heap[g]? = some (.cells cs 61)) (hcs : cs.toList = news) (hl : news.length = 3) (h1 : ∀ u ∈ news, u.oneCell' = true) (hlen : n ≤ 1099511627776)
    (hK : ∀ v' w', Wide w' 61 3 v' (n + 1) (xs ++ news) → Touch (fun k => v.ownBlock = some k) w w' → Moved w v v' → K (a.put o.dst v') w') :
    if Region.wanted o (yielded ops a.tmps) = true then Oper.wp Try.prog o a w K Q else E := by
  have hw : Region.wanted o (yielded ops a.tmps) = true := by simp [Region.wanted, hg]
  rw [if_pos hw]
  obtain ⟨i, z, hi, hz, hsz, hby, hzs⟩ := sent_info
  obtain ⟨v', w', hrun, r1, r2, r3⟩ := run_wide (P := Try.prog) w 41 o.type 61 i z 3 24 Try.underlying41 hi hz hsz hby hzs (by omega) v n xs hr g 0 1 news hl (fun j u hj => by rw [cell_of hu, Nat.zero_add, ← Array.getElem?_toList, hcs]; exact hj) h1 (by unfold maxLen; omega) (by omega)
  unfold Oper.wp
  simp [execOp, hop, resolve, invoke, builtin, hs, hx, hrun, Result.andThen]
  exact hK v' w' r1 r2 r3

/-- What add leaves. -/
def AdPost (w : World) (gp : Nat) (p : Pd) (ls : List Sn) (b : Bt) (e : Ending) (w' : World) : Prop :=
  e = .returned (.tuple #[]) ∧ ∃ p', PdAt w' gp p' ∧ Lst9 w' p' (ls ++ [⟨b.seq, (b.vs.length : Int), b.base⟩]) ∧ p'.ep = p.ep ∧ p'.nx = IntKind.i64.wrap (b.seq + ((if b.ctl = true then 1 else b.vs.length : Nat) : Int)) ∧ p'.op = p.op ∧ p'.fi = p.fi ∧ Touch (fun k => k = gp ∨ (pdS p).ownBlock = some k) w w' ∧ Moved w (pdS p) (pdS p')
set_option maxRecDepth 100000 in
set_option maxHeartbeats 4000000 in
theorem add_any {w : World} {gp : Nat} {p : Pd} {ls : List Sn} (h : PdAt w gp p) (hl : Lst9 w p ls) (h5 : ls.length < 5) (b : Bt) (a : Option Addr) (cap : Nat) (htx : b.txn = false) :
    Calls Try.prog 12 #[.pointer (some ⟨gp, 0, none⟩), bv b a cap] w fun e w' => AdPost w gp p ls b e w' := by
  have GOAL := hide (fun w' (h : AdPost w gp p ls b (.returned (.tuple #[])) w') => h)
  clear GOAL
  have hgw := lt_of_heap h
  have hne : (pdS p).ownBlock ≠ some gp := fun e => by
    obtain ⟨cs, hc⟩ := hl.1.heap e
    rw [h] at hc
    exact absurd (Obj.cells.inj (Option.some.inj hc)).2.1 (by decide)
  obtain ⟨hw, hnl⟩ := hl
  have KK : Hid (∀ w', Calls Try.prog 15 #[bv b a cap] w' fun e w'' => AnsPost w' (.agg #[.int .i64 b.seq, .int .i64 (b.vs.length : Int)]) e w'') := fun w' => keyOf_any b a cap w'
  have KS : Hid (∀ w', Calls Try.prog 19 #[bv b a cap] w' fun e w'' => IntPost w' (if b.ctl = true then 1 else b.vs.length) e w'') := fun w' => size7_any b a cap w'
  have HH := hide h
  have HWR := hide hw
  obtain ⟨pe, px, pg, pn, pc, po, pf⟩ := p
  obtain ⟨base, epoch, pid, pep, seq, txn, ctl, com, vs⟩ := b
  simp only at htx hnl
  subst htx
  subst hnl
  have KK2 : Hid (∀ w', Calls Try.prog 15 #[.agg #[.int .i64 base, .int .i64 epoch, .int .u64 (pid : Int), .int .i64 pep, .int .i64 seq, .bool false, .bool ctl, .bool com, .slice a vs.length cap]] w' fun e w'' => AnsPost w' (.agg #[.int .i64 seq, .int .i64 (vs.length : Int)]) e w'') := unhide KK
  have KS2 : Hid (∀ w', Calls Try.prog 19 #[.agg #[.int .i64 base, .int .i64 epoch, .int .u64 (pid : Int), .int .i64 pep, .int .i64 seq, .bool false, .bool ctl, .bool com, .slice a vs.length cap]] w' fun e w'' => IntPost w' (if ctl = true then 1 else vs.length) e w'') := unhide KS
  clear h hw KK KS
  have hA : Below w.heap.size w (w.alloc (.cells #[.int .i64 base, .int .i64 epoch, .int .u64 (pid : Int), .int .i64 pep, .int .i64 seq, .bool false, .bool ctl, .bool com, .slice a vs.length cap] 25)) := (Below.refl _ _).alloc (Nat.le_refl _) _
  have BX := Box.new w ⟨base, epoch, pid, pep, seq, false, ctl, com, vs⟩ a cap
  obtain ⟨k0, k1, k2, k3, k4, k5, k6, k7, k8⟩ := BX.cells
  simp only at k0 k1 k2 k3 k4 k5 k6 k7 k8
  have BXH : Hid ((w.alloc (.cells #[.int .i64 base, .int .i64 epoch, .int .u64 (pid : Int), .int .i64 pep, .int .i64 seq, .bool false, .bool ctl, .bool com, .slice a vs.length cap] 25)).heap[w.heap.size]? = some (.cells #[.int .i64 base, .int .i64 epoch, .int .u64 (pid : Int), .int .i64 pep, .int .i64 seq, .bool false, .bool ctl, .bool com, .slice a vs.length cap] 25)) := BX
  have HA := hide hA
  have HP := hide (below_keep hA (unhide HH))
  have ROW := hide ((unhide HWR).later hA)
  unfold PdAt at HP
  dsimp only [pdS] at ROW HP hne HWR
  generalize hav : pg.map (fun g => (⟨g, 0, none⟩ : Addr)) = av at *
  have c2 : (w.alloc (.cells #[.int .i64 base, .int .i64 epoch, .int .u64 (pid : Int), .int .i64 pep, .int .i64 seq, .bool false, .bool ctl, .bool com, .slice a vs.length cap] 25)).cell? ⟨gp, 2, none⟩ = some (.slice av ls.length pc) := by rw [cell_of (unhide HP)]; rfl
  have hn5 : ¬ (ls.length : Int) = 5 := by omega
  have hbw : w.heap.size < (w.alloc (.cells #[.int .i64 base, .int .i64 epoch, .int .u64 (pid : Int), .int .i64 pep, .int .i64 seq, .bool false, .bool ctl, .bool com, .slice a vs.length cap] 25)).heap.size := by simp
  have hgW : gp < (w.alloc (.cells #[.int .i64 base, .int .i64 epoch, .int .u64 (pid : Int), .int .i64 pep, .int .i64 seq, .bool false, .bool ctl, .bool com, .slice a vs.length cap] 25)).heap.size := by simp; omega
  have hnb : (Value.slice av ls.length pc).ownBlock ≠ some w.heap.size := fun e => by
    have := (unhide HWR).lt w.heap.size e
    omega
  clear BX hA
  go_enter Try.func12, Try.ntmps12
  go_wp2_with fail
  generalize hWW : w.alloc (.cells #[.int .i64 base, .int .i64 epoch, .int .u64 (pid : Int), .int .i64 pep, .int .i64 seq, .bool false, .bool ctl, .bool com, .slice a vs.length cap] 25) = W at *
  clear hWW
  generalize hnv : vs.length = nv at *
  have HNV := hide hnv
  clear hnv
  go_region_law (first
    | (go_simp; go_at_call 15; refine (unhide KK2 _).mono ?_; rintro e w2 ⟨rfl, b2⟩; have BW2 : Hid (Below W.heap.size W w2) := ⟨b2.os, b2.tape, b2.output, b2.size, fun k hk => b2.block k hk⟩; have z2 : w2.cell? ⟨gp, 2, none⟩ = some (.slice av ls.length pc) := ((unhide BW2).cell (p := ⟨gp, 2, none⟩) hgW).trans c2; have zb : w2.cell? ⟨w.heap.size, 0, none⟩ = some (.int .i64 base) := ((unhide BW2).cell (p := ⟨w.heap.size, 0, none⟩) hbw).trans k0; have yA2 : ∀ X, (w2.alloc X).cell? ⟨gp, 2, none⟩ = some (.slice av ls.length pc) := fun X => (((Below.refl w2.heap.size w2).alloc (Nat.le_refl _) X).cell (p := ⟨gp, 2, none⟩) (Nat.lt_of_lt_of_le hgW (unhide BW2).size)).trans z2; clear b2)
    | (refine step_sent rfl (.tmp 22) (.tmp 28) rfl (.slice av ls.length pc) ls.length (ls.flatMap snC) (by rfl) ((unhide ROW).later (by first | exact (unhide BW2).alloc (unhide BW2).size _ | exact (below_drewN3 (unhide BW2) _).alloc (unhide BW2).size _)) _ _ _ (by rfl) (heap_new _ _) rfl rfl (by intro u hu; simp at hu; rcases hu with rfl | rfl | rfl <;> rfl) (by omega) ?_; intro v3 w3 o3 t3 m3; have z3 : w3.frozen? ⟨gp, 2, none⟩ = false := frozen_of (keep_heap t3 hne (by first | exact (unhide BW2).alloc (unhide BW2).size _ | exact (below_drewN3 (unhide BW2) _).alloc (unhide BW2).size _) (unhide HP)) 2; have y3 : w3.cell? ⟨gp, 2, none⟩ = some (.slice av ls.length pc) := cell_of (keep_heap t3 hne (by first | exact (unhide BW2).alloc (unhide BW2).size _ | exact (below_drewN3 (unhide BW2) _).alloc (unhide BW2).size _) (unhide HP)) 2; obtain ⟨a3, c3, rfl⟩ := o3.shape; obtain ⟨g3, rfl, md⟩ := mid_of hgw (unhide HA) (by first | exact (unhide BW2).alloc (unhide BW2).size _ | exact (below_drewN3 (unhide BW2) _).alloc (unhide BW2).size _) (unhide HP) (unhide BXH) hne hnb o3 t3 m3; have MH := hide md; clear o3 t3 m3 md))
  all_goals
    clear z3 y3 z2 zb yA2 BW2 ROW HP k0 k1 k2 k3 k4 k5 k6 k7 k8 c2 BXH HA
    generalize w3.setCell ⟨gp, 2, none⟩ (.slice (some ⟨g3, 0, none⟩) (ls.length + 1) c3) = V at *
    have c1 : V.cell? ⟨gp, 1, none⟩ = some (.int .i64 px) := cell_of (unhide MH).box 1
    have k0 : V.cell? ⟨w.heap.size, 0, none⟩ = some (.int .i64 base) := cell_of (unhide MH).bat 0
    have k1 : V.cell? ⟨w.heap.size, 1, none⟩ = some (.int .i64 epoch) := cell_of (unhide MH).bat 1
    have k2 : V.cell? ⟨w.heap.size, 2, none⟩ = some (.int .u64 (pid : Int)) := cell_of (unhide MH).bat 2
    have k3 : V.cell? ⟨w.heap.size, 3, none⟩ = some (.int .i64 pep) := cell_of (unhide MH).bat 3
    have k4 : V.cell? ⟨w.heap.size, 4, none⟩ = some (.int .i64 seq) := cell_of (unhide MH).bat 4
    have k5 : V.cell? ⟨w.heap.size, 5, none⟩ = some (.bool false) := cell_of (unhide MH).bat 5
    have k6 : V.cell? ⟨w.heap.size, 6, none⟩ = some (.bool ctl) := cell_of (unhide MH).bat 6
    have k7 : V.cell? ⟨w.heap.size, 7, none⟩ = some (.bool com) := cell_of (unhide MH).bat 7
    have k8 : V.cell? ⟨w.heap.size, 8, none⟩ = some (.slice a nv cap) := cell_of (unhide MH).bat 8
    have hVb : w.heap.size < V.heap.size := lt_of_heap (unhide MH).bat
    have hVg : gp < V.heap.size := lt_of_heap (unhide MH).box
    generalize hsz : (if ctl = true then 1 else nv) = sz at *
    have HSZ := hide hsz
    clear hsz
    go_wp2_with fail
    go_region_with (go_at_call 19; refine (unhide KS2 _).mono ?_; rintro e w5 ⟨rfl, b5⟩; have BV5 : Hid (Below V.heap.size V w5) := ⟨b5.os, b5.tape, b5.output, b5.size, fun k hk => b5.block k hk⟩; have x4 : w5.cell? ⟨w.heap.size, 4, none⟩ = some (.int .i64 seq) := ((unhide BV5).cell (p := ⟨w.heap.size, 4, none⟩) hVb).trans k4; have x5 : w5.cell? ⟨w.heap.size, 5, none⟩ = some (.bool false) := ((unhide BV5).cell (p := ⟨w.heap.size, 5, none⟩) hVb).trans k5; have y1 : w5.cell? ⟨gp, 1, none⟩ = some (.int .i64 px) := ((unhide BV5).cell (p := ⟨gp, 1, none⟩) hVg).trans c1; have z1 : w5.frozen? ⟨gp, 1, none⟩ = false := frozen_of (below_keep (unhide BV5) (unhide MH).box) 1; have x5s : ∀ u, (w5.setCell ⟨gp, 1, none⟩ u).cell? ⟨w.heap.size, 5, none⟩ = some (.bool false) := fun u => cell_of ((touch_set w5 gp 1 u).keep (below_keep (unhide BV5) (unhide MH).bat) (show ¬ w.heap.size = gp by omega)) 5; clear b5)
    all_goals
      have F : Hid (AdPost w gp ⟨pe, px, pg, ls.length, pc, po, pf⟩ ls ⟨base, epoch, pid, pep, seq, false, ctl, com, vs⟩ (.returned (.tuple #[])) (w5.setCell ⟨gp, 1, none⟩ (.int .i64 (wrap64 (seq + (sz : Int)))))) := by
        have ts := touch_set w5 gp 1 (.int .i64 (wrap64 (seq + (sz : Int))))
        refine ⟨rfl, ⟨pe, wrap64 (seq + (sz : Int)), some g3, ls.length + 1, c3, po, pf⟩, heap_set (below_keep (unhide BV5) (unhide MH).box) 1 _, ⟨?_, by simp⟩, rfl, ?_, rfl, rfl, ?_, ?_⟩
        · have h1 := ((unhide MH).row.later (unhide BV5)).keep ts (fun k hk e => by
            rcases (unhide MH).mov k hk with e2 | e2
            · exact hne (by rw [← e]; exact e2)
            · omega)
          simp only [List.length_append, List.length_singleton, List.flatMap_append, List.flatMap_cons, List.flatMap_nil, List.append_nil]
          rw [unhide HNV]
          exact h1
        · show wrap64 (seq + (sz : Int)) = IntKind.i64.wrap (seq + ((if ctl = true then 1 else vs.length : Nat) : Int))
          rw [unhide HNV, unhide HSZ]
          exact wrap64_i64 _
        · dsimp only [pdS]
          rw [hav]
          exact ((unhide MH).tch.trans (Touch.of_below (unhide BV5))).trans (ts.mono (fun k hk => .inl hk))
        · dsimp only [pdS]
          rw [hav]
          exact (unhide MH).mov
      clear MH BV5 HSZ HNV x4 y1 z1
      go_wp2
      go_returns
      exact unhide F
end Go.Proofs.Yteadebnkmnkpnab
