/-
  txn's Apply, of any state and record. Conditions: the partitions of the name and of the record are together at most 2^44; there are fewer than 2^62 names.
-/
import Derived.Test.YtbgccnnomgeniaaTx2
import Derived.Deep.CutBlock
import Derived.WalkSpells
namespace Go.Proofs.Ytbgccnnomgeniaa
open Go.RowKit Go.Maps
set_option linter.unusedVariables false

/-- What a record makes of a name. -/
def apT (r : Re) (x : Tx) : Tx :=
  if r.kd = 1 then ⟨1, r.inc, r.pid, r.ep, [], x.la, x.lp, x.co⟩ else if r.kd = 2 then ⟨2, x.inc, x.pid, x.ep, uni x.ps r.ps, x.la, x.lp, x.co⟩ else
  if r.kd = 3 then ⟨3, x.inc, x.pid, x.ep, x.ps, x.ep, x.pid, r.co⟩ else if r.kd = 4 then ⟨4, x.inc, x.pid, wrap64 (x.la + 2), [], x.la, x.lp, x.co⟩ else x
/-- Within Apply: w the world when it was called. -/
structure ApT (w W : World) (sb gb : Nat) (mo : Option Nat) (m : List (Int × Td)) (K : Int → Option Tx) (R : Nat → Prop) (ra : Array Value) (x : Tx) (p : Td) : Prop where
  ts : TS W sb (.map mo) m K R
  rc : W.heap[w.heap.size]? = some (.cells ra 25)
  pd : W.heap[gb]? = some (.cells (tdC p) 76)
  fit : TFit W p x
  row : ∀ k, (tdS p).ownBlock = some k → R k ∨ w.heap.size ≤ k
  bel : Below w.heap.size w W
  big : w.heap.size < gb
  inw : ∀ k, R k → k < w.heap.size
section
variable {w W W' : World} {sb gb : Nat} {mo : Option Nat} {m : List (Int × Td)} {K : Int → Option Tx} {R : Nat → Prop} {ra : Array Value} {x x' : Tx} {p p' : Td}
theorem ApT.rowg (h : ApT w W sb gb mo m K R ra x p) : ∀ k, (tdS p).ownBlock = some k → k ≠ gb := fun k hk e => by
  obtain ⟨cs, hc⟩ := h.fit.row.heap hk
  rw [e, h.pd] at hc
  exact absurd (Obj.cells.inj (Option.some.inj hc)).2.1 (by decide)
/-- A store into the box. -/
theorem ApT.fld (h : ApT w W sb gb mo m K R ra x p) (t : Touch (· = gb) W W') (hp : W'.heap[gb]? = some (.cells (tdC p') 76)) (hf : TFit W' p' x') (hr : ∀ k, (tdS p').ownBlock = some k → R k ∨ w.heap.size ≤ k) : ApT w W' sb gb mo m K R ra x' p' := by
  have hb := h.big
  refine ⟨h.ts.keep t (fun k hk e => by have := h.inw k hk; omega), t.keep h.rc (by omega), hp, hf, hr, below_touch h.bel t h.bel.size (fun k hk => by omega), hb, h.inw⟩
theorem ApT.row4 (h : ApT w W sb gb mo m K R ra x p) (t : Touch (· = gb) W W') : IL W' (tdS p) x.ps := h.fit.row.keep t (fun k hk e => h.rowg k hk e)
end
def putT (K : Int → Option Tx) (n : Int) (x : Tx) : Int → Option Tx := fun s => if s = n then some x else K s
def ApP (w : World) (sb : Nat) (m : List (Int × Td)) (K : Int → Option Tx) (n : Int) (x : Tx) (R : Nat → Prop) (e : Ending) (w' : World) : Prop :=
  e = .returned (.tuple #[]) ∧ ∃ mv' m', TS w' sb mv' m' (putT K n x) (fun k => R k ∨ (w.heap.size ≤ k ∧ k < w'.heap.size)) ∧ m'.length ≤ m.length + 1 ∧ Touch R w w'
/-- The same with a map that there is. -/
structure ApM (w W : World) (sb gb mb : Nat) (m : List (Int × Td)) (K : Int → Option Tx) (R : Nat → Prop) (ra : Array Value) (x : Tx) (p : Td) : Prop where
  obj : W.heap[sb]? = some (.cells #[.map (some mb)] 74)
  mm : MM tK W mb m
  mbr : R mb ∨ w.heap.size ≤ mb
  non : ∀ s, matx m s = none → K s = none
  hav : ∀ s q, (s, q) ∈ m → I64 s ∧ ∃ x, K s = some x ∧ TFit W q x
  own : ∀ s q, (s, q) ∈ m → ∀ k, (tdS q).ownBlock = some k → R k
  sbr : R sb
  rc : W.heap[w.heap.size]? = some (.cells ra 25)
  pd : W.heap[gb]? = some (.cells (tdC p) 76)
  fit : TFit W p x
  row : ∀ k, (tdS p).ownBlock = some k → R k ∨ w.heap.size ≤ k
  tch : Touch R w W
  inw : ∀ k, R k → k < w.heap.size
section
variable {w W W' : World} {sb gb mb : Nat} {mo : Option Nat} {m : List (Int × Td)} {K : Int → Option Tx} {R : Nat → Prop} {ra : Array Value} {x x' : Tx} {p p' : Td}
theorem IL.shape0 {v : Value} {l : List Int} (h : IL w v l) : ∃ (g : Option Nat) (c : Nat), v = .slice (g.map (fun g => ⟨g, 0, none⟩)) l.length c := by
  rcases h.2 with ⟨e, e2⟩ | ⟨g, cap, cur, e, _⟩
  · refine ⟨none, 0, ?_⟩
    rw [ints_len] at e2
    rw [e, e2]; rfl
  · rw [ints_len] at e
    exact ⟨some g, cap, e⟩
theorem ApT.same (h : ApT w W sb gb (some mb) m K R ra x p) : ApM w W sb gb mb m K R ra x p := by
  rcases h.ts.map with ⟨e, _⟩ | ⟨mb', e, h2, h3⟩
  · cases e
  · cases e
    exact ⟨h.ts.obj, h2, .inl h3, h.ts.non, h.ts.hav, h.ts.own, h.ts.sbr, h.rc, h.pd, h.fit, h.row, ⟨h.bel.os, h.bel.tape, h.bel.output, h.bel.size, fun k hk _ => h.bel.block k hk⟩, h.inw⟩
theorem ApT.made (h : ApT w W sb gb none m K R ra x p) : ApM w ((W.setCell ⟨sb, 0, none⟩ (.map (some W.heap.size))).alloc (.map #[] 0)) sb gb W.heap.size [] K R ra x p ∧ m = [] := by
  have hm : m = [] := by
    rcases h.ts.map with ⟨_, e⟩ | ⟨mb', e, _⟩
    · exact e
    · cases e
  have t : Touch (· = sb) W (W.setCell ⟨sb, 0, none⟩ (.map (some W.heap.size))) := touch_set W sb 0 _
  have hsb := h.inw _ h.ts.sbr
  have hsz : (W.setCell ⟨sb, 0, none⟩ (.map (some W.heap.size))).heap.size = W.heap.size := by simp [World.setCell]
  have hge := h.bel.size
  refine ⟨⟨heap_old _ (heap_set h.ts.obj 0 _), ?_, .inr hge, fun s hs => ?_, (fun s q hq => by cases hq), (fun s q hq => by cases hq), h.ts.sbr, heap_old _ (t.keep h.rc (show ¬ w.heap.size = sb by omega)), heap_old _ (t.keep h.pd (show ¬ gb = sb by have := h.big; omega)), ?_, h.row, ?_, h.inw⟩, hm⟩
  · have := MM.made tK (W.setCell ⟨sb, 0, none⟩ (.map (some W.heap.size)))
    rw [hsz] at this
    exact this
  · exact h.ts.non s (by rw [hm]; exact hs)
  · refine ((h.fit.keep t (fun k hk e => ?_)).later (Below.alloc (Below.refl _ _) (Nat.le_refl _) _))
    obtain ⟨cs, hc⟩ := h.fit.row.heap hk
    rw [e, h.ts.obj] at hc
    exact absurd (Obj.cells.inj (Option.some.inj hc)).2.1 (by decide)
  · have t0 : Touch R w W := ⟨h.bel.os, h.bel.tape, h.bel.output, h.bel.size, fun k hk _ => h.bel.block k hk⟩
    exact (t0.trans (t.mono (fun k hk => by rw [hk]; exact h.ts.sbr))).alloc _
theorem ApT.later (h : ApT w W sb gb mo m K R ra x p) (hb : Below W.heap.size W W') : ApT w W' sb gb mo m K R ra x p :=
  h.fld (Touch.of_below hb) (below_keep hb h.pd) (h.fit.later hb) h.row
/-- The map's store. -/
theorem ApM.store (h : ApM w W sb gb mb m K R ra x p) {n : Int} (hn : I64 n) (hm : m.length < 4611686018427387904) : ∃ w3, (Instr.mapUpdate 72 (.map (some mb)) (.int .i64 n) (tdV p)).run Try.prog W.drew = .ok () w3 ∧ ApP w sb m K n x R (.returned (.tuple #[])) w3 := by
  have d : Touch (fun _ => False) W W.drew := (Touch.refl _ W).drew
  obtain ⟨w3, hrun, h2, t⟩ := (h.mm.keep d (fun h => h)).store (by unfold maxLen; omega) (i64_wf hn) p
  refine ⟨w3, hrun, rfl, .map (some mb), (n, p) :: mdel m n, ?_, ?_, ?_⟩
  · have t' : Touch (· = mb) W w3 := (d.mono (fun k hk => hk.elim)).trans t
    obtain ⟨es, cl, hmb⟩ := h.mm.block
    have hrow : ∀ (q : Td) (y : Tx), TFit W q y → TFit w3 q y := fun q y hf => hf.keep t' (fun k hk e => by
      obtain ⟨cs, hc⟩ := hf.row.heap hk
      rw [e, hmb] at hc
      cases hc)
    refine ⟨t'.keep h.obj (fun e => by have ho := h.obj; rw [e, hmb] at ho; cases ho), .inr ⟨mb, rfl, h2, ?_⟩, fun s hs => ?_, fun s q hq => ?_, fun s q hq k hk => ?_, .inl h.sbr, ?_⟩
    · rcases h.mbr with e | e
      · exact .inl e
      · exact .inr ⟨e, h2.lt⟩
    · rw [mat_cons] at hs
      unfold putT
      by_cases e : s = n
      · rw [if_pos e] at hs; cases hs
      · rw [if_neg e] at hs ⊢; exact h.non s hs
    · rcases List.mem_cons.1 hq with e | e
      · cases e
        exact ⟨hn, x, by unfold putT; rw [if_pos rfl], hrow _ _ h.fit⟩
      · obtain ⟨e1, e2⟩ := mdel_not e
        obtain ⟨i, y, e3, e4⟩ := h.hav s q e1
        exact ⟨i, y, by unfold putT; rw [if_neg e2]; exact e3, hrow _ _ e4⟩
    · rcases List.mem_cons.1 hq with e | e
      · cases e
        rcases h.row k hk with e | e
        · exact .inl e
        · exact .inr ⟨e, (hrow _ _ h.fit).row.lt k hk⟩
      · exact .inl (h.own s q (mdel_not e).1 k hk)
    · intro k hk
      rcases hk with e | e
      · exact Nat.lt_of_lt_of_le (h.inw k e) (Nat.le_trans h.tch.size t'.size)
      · exact e.2
  · have : (mdel m n).length ≤ m.length := List.length_filter_le _ _
    simp; omega
  · have t2 : Touch R w W.drew := h.tch.trans (d.mono (fun k hk => hk.elim))
    rcases h.mbr with e | e
    · exact t2.trans (t.mono (fun k hk => by rw [hk]; exact e))
    · exact ⟨t.os.trans t2.os, t.tape.trans t2.tape, t.output.trans t2.output, Nat.le_trans t2.size t.size, fun k hk hs => (t.block k (Nat.lt_of_lt_of_le hk t2.size) (by omega)).trans (t2.block k hk hs)⟩
end
set_option maxRecDepth 100000 in
set_option maxHeartbeats 4000000 in
theorem apply_any {w : World} {sb : Nat} {mv : Value} {m : List (Int × Td)} {K : Int → Option Tx} {R : Nat → Prop} {r : Re} {a : Option Addr} {c : Nat} (h : TS w sb mv m K R) (hr : IAt w a r.ps) (hc : a = none → c = 0) (hn : I64 r.tx) (hl : (getT K r.tx).ps.length + r.ps.length ≤ 17592186044416) (hm : m.length < 4611686018427387904) :
    Calls Try.prog 24 #[.pointer (some ⟨sb, 0, none⟩), .agg (reC r a c)] w fun e w' => ApP w sb m K r.tx (apT r (getT K r.tx)) R e w' := by
  have b0 : Below w.heap.size w (w.alloc (.cells (reC r a c) 25)) := (Below.refl _ _).alloc (Nat.le_refl _) _
  have KA := hide (at_any (h.later b0) hn)
  obtain ⟨mo, rfl⟩ := h.isMap
  have HT := hide h
  have HRR := hide hr
  have HC := hide hc
  have HL := hide hl
  have HM := hide hm
  have HN := hide hn
  have B0 := hide b0
  have H0 := hide (heap_new w (.cells (reC r a c) 25))
  have HIN := hide h.inR
  have hsb : sb < w.heap.size := h.inR _ h.sbr
  clear h hr hc hl hm hn b0
  obtain ⟨kd, tx, ic, pi, eq, l, cm⟩ := r
  simp only [reC] at *
  generalize hln : l.length = ln at *
  have LN := hide hln
  clear hln
  obtain ⟨x, hx⟩ : ∃ x, getT K tx = x := ⟨_, rfl⟩
  rw [hx] at HL ⊢
  obtain ⟨x2, hx2⟩ : ∃ x2, apT ⟨kd, tx, ic, pi, eq, l, cm⟩ x = x2 := ⟨_, rfl⟩
  rw [hx2]
  have HX := hide hx
  have HX2 := hide hx2
  clear hx hx2
  go_enter Try.func24, Try.ntmps24
  go_wp2_with fail
  refine (unhide KA).mono ?_
  rintro e w1 ⟨q, rfl, f1, f2, b1⟩
  rw [unhide HX] at f1
  have hb1 : Below w.heap.size w w1 := (unhide B0).trans (b1.mono (by simp))
  have hr1 : w1.heap[w.heap.size]? = some (.cells #[.int .i64 kd, .int .i64 tx, .int .i64 ic, .int .u64 pi, .int .i64 eq, .slice a ln c, .bool cm] 25) := below_keep b1 (unhide H0)
  have A0 : Hid (ApT w (w1.alloc (.cells (tdC q) 76)) sb w1.heap.size mo m K R #[.int .i64 kd, .int .i64 tx, .int .i64 ic, .int .u64 pi, .int .i64 eq, .slice a ln c, .bool cm] x q) := by
    have b2 : Below w1.heap.size w1 (w1.alloc (.cells (tdC q) 76)) := (Below.refl _ _).alloc (Nat.le_refl _) _
    exact ⟨((unhide HT).later hb1).later b2, heap_old _ hr1, heap_new _ _, f1.later b2, fun k hk => .inl (f2 k hk), hb1.alloc hb1.size _, lt_of_heap hr1, unhide HIN⟩
  have x0 : w1.cell? ⟨w.heap.size, 0, none⟩ = some (.int .i64 kd) := cell_of hr1 0
  have hlt : w.heap.size < w1.heap.size := lt_of_heap hr1
  clear f1 f2 b1 hb1 hr1 KA B0 H0 HX
  obtain ⟨st, ix, px, ep, g, n', c', la, lp, co⟩ := q
  obtain ⟨sa, hsa⟩ : ∃ y, g.map (fun g => (⟨g, 0, none⟩ : Addr)) = y := ⟨_, rfl⟩
  have HSA := hide hsa
  simp only [tdV, tdC, tdS, hsa]
  simp only [tdC, tdS, hsa] at A0
  clear hsa
  go_upto_block 0 with fail
  generalize w1.alloc (.cells #[.int .i64 st, .int .i64 ix, .int .u64 px, .int .i64 ep, .slice sa n' c', .int .i64 la, .int .u64 lp, .bool co] 76) = V at *
  generalize w1.heap.size = gb at *
  clear x0 hlt
  have r0 : V.cell? ⟨w.heap.size, 0, none⟩ = some (.int .i64 kd) := cell_of (unhide A0).rc 0
  have r1 : V.cell? ⟨w.heap.size, 1, none⟩ = some (.int .i64 tx) := cell_of (unhide A0).rc 1
  have r2 : V.cell? ⟨w.heap.size, 2, none⟩ = some (.int .i64 ic) := cell_of (unhide A0).rc 2
  have r3 : V.cell? ⟨w.heap.size, 3, none⟩ = some (.int .u64 pi) := cell_of (unhide A0).rc 3
  have r4 : V.cell? ⟨w.heap.size, 4, none⟩ = some (.int .i64 eq) := cell_of (unhide A0).rc 4
  have r5 : V.cell? ⟨w.heap.size, 5, none⟩ = some (.slice a ln c) := cell_of (unhide A0).rc 5
  have r6 : V.cell? ⟨w.heap.size, 6, none⟩ = some (.bool cm) := cell_of (unhide A0).rc 6
  have q0 : V.cell? ⟨gb, 0, none⟩ = some (.int .i64 st) := by rw [cell_of (unhide A0).pd 0]; rfl
  have z0 : V.frozen? ⟨gb, 0, none⟩ = false := frozen_of (unhide A0).pd 0
  have q1 : V.cell? ⟨gb, 1, none⟩ = some (.int .i64 ix) := by rw [cell_of (unhide A0).pd 1]; rfl
  have z1 : V.frozen? ⟨gb, 1, none⟩ = false := frozen_of (unhide A0).pd 1
  have q2 : V.cell? ⟨gb, 2, none⟩ = some (.int .u64 px) := by rw [cell_of (unhide A0).pd 2]; rfl
  have z2 : V.frozen? ⟨gb, 2, none⟩ = false := frozen_of (unhide A0).pd 2
  have q3 : V.cell? ⟨gb, 3, none⟩ = some (.int .i64 ep) := by rw [cell_of (unhide A0).pd 3]; rfl
  have z3 : V.frozen? ⟨gb, 3, none⟩ = false := frozen_of (unhide A0).pd 3
  have q4 : V.cell? ⟨gb, 4, none⟩ = some (.slice sa n' c') := by rw [cell_of (unhide A0).pd 4]; rw [← unhide HSA]; rfl
  have z4 : V.frozen? ⟨gb, 4, none⟩ = false := frozen_of (unhide A0).pd 4
  have q5 : V.cell? ⟨gb, 5, none⟩ = some (.int .i64 la) := by rw [cell_of (unhide A0).pd 5]; rfl
  have z5 : V.frozen? ⟨gb, 5, none⟩ = false := frozen_of (unhide A0).pd 5
  have q6 : V.cell? ⟨gb, 6, none⟩ = some (.int .u64 lp) := by rw [cell_of (unhide A0).pd 6]; rfl
  have z6 : V.frozen? ⟨gb, 6, none⟩ = false := frozen_of (unhide A0).pd 6
  have q7 : V.cell? ⟨gb, 7, none⟩ = some (.bool co) := by rw [cell_of (unhide A0).pd 7]; rfl
  have z7 : V.frozen? ⟨gb, 7, none⟩ = false := frozen_of (unhide A0).pd 7
  have hne : w.heap.size ≠ gb := by have := (unhide A0).big; omega
  have hne2 : gb ≠ w.heap.size := fun e => hne e.symm
  go_cut [] from 5 (fun wx => ∃ p, ApT w wx sb gb mo m K R #[.int .i64 kd, .int .i64 tx, .int .i64 ic, .int .u64 pi, .int .i64 eq, .slice a ln c, .bool cm] x2 p)
  case first =>
    have hfit := (unhide A0).fit
    by_cases k1 : kd = 1
    · subst k1
      have A1 : Hid (ApT w (((((V.setCell ⟨gb, 0, none⟩ (.int .i64 1)).setCell ⟨gb, 1, none⟩ (.int .i64 ic)).setCell ⟨gb, 2, none⟩ (.int .u64 pi)).setCell ⟨gb, 3, none⟩ (.int .i64 eq)).setCell ⟨gb, 4, none⟩ (.slice none 0 0)).drew sb gb mo m K R #[.int .i64 1, .int .i64 tx, .int .i64 ic, .int .u64 pi, .int .i64 eq, .slice a ln c, .bool cm] x2 ⟨1, ic, pi, eq, none, 0, 0, la, lp, co⟩) := by
        have t : Touch (· = gb) V (((((V.setCell ⟨gb, 0, none⟩ (.int .i64 1)).setCell ⟨gb, 1, none⟩ (.int .i64 ic)).setCell ⟨gb, 2, none⟩ (.int .u64 pi)).setCell ⟨gb, 3, none⟩ (.int .i64 eq)).setCell ⟨gb, 4, none⟩ (.slice none 0 0)).drew := (((((touch_set V gb 0 (.int .i64 1)).trans (touch_set _ gb 1 (.int .i64 ic))).trans (touch_set _ gb 2 (.int .u64 pi))).trans (touch_set _ gb 3 (.int .i64 eq))).trans (touch_set _ gb 4 (.slice none 0 0))).drew
        have e0 := set1 (unhide A0).pd 0 (.int .i64 1) (cs' := #[.int .i64 1, .int .i64 ix, .int .u64 px, .int .i64 ep, .slice (g.map (fun g => ⟨g, 0, none⟩)) n' c', .int .i64 la, .int .u64 lp, .bool co]) rfl
        have e1 := set1 e0 1 (.int .i64 ic) (cs' := #[.int .i64 1, .int .i64 ic, .int .u64 px, .int .i64 ep, .slice (g.map (fun g => ⟨g, 0, none⟩)) n' c', .int .i64 la, .int .u64 lp, .bool co]) rfl
        have e2 := set1 e1 2 (.int .u64 pi) (cs' := #[.int .i64 1, .int .i64 ic, .int .u64 pi, .int .i64 ep, .slice (g.map (fun g => ⟨g, 0, none⟩)) n' c', .int .i64 la, .int .u64 lp, .bool co]) rfl
        have e3 := set1 e2 3 (.int .i64 eq) (cs' := #[.int .i64 1, .int .i64 ic, .int .u64 pi, .int .i64 eq, .slice (g.map (fun g => ⟨g, 0, none⟩)) n' c', .int .i64 la, .int .u64 lp, .bool co]) rfl
        have e4 := set1 e3 4 (.slice none 0 0) (cs' := #[.int .i64 1, .int .i64 ic, .int .u64 pi, .int .i64 eq, .slice none 0 0, .int .i64 la, .int .u64 lp, .bool co]) rfl
        refine (unhide A0).fld t e4 ?_ (fun k hk => by cases hk)
        rw [← unhide HX2]
        unfold apT
        rw [if_pos rfl]
        exact ⟨rfl, rfl, rfl, rfl, hfit.la, hfit.lp, hfit.co, IL.nil _⟩
      clear hfit
      go_wp2_with fail
      go_region
      go_wp2_with fail
      go_meet
      exact ⟨_, unhide A1⟩
    by_cases k2 : kd = 2
    · subst k2
      clear k1
      obtain ⟨ra2, rc2, re, rI, rl, rm, rn, _⟩ := hfit.row.iat
      have re' : Value.slice sa n' c' = .slice ra2 x.ps.length rc2 := by rw [← unhide HSA]; exact re
      injection re' with e1 e2 e3
      have hlV : IAt V a l := (unhide HRR).later (unhide A0).bel
      have KU := united_any rI hlV rn (unhide HC) (by rw [unhide LN]; exact unhide HL)
      rw [← e1, ← e2, ← e3, unhide LN] at KU
      have KUH := hide KU
      have HF := hide hfit
      clear KU hfit re rI rl rm rn hlV e1 e2 e3
      go_wp2_with fail
      refine (unhide KUH).mono ?_
      rintro e w2 ⟨v, rfl, v1, v2, v3⟩
      obtain ⟨vg, vc, ev⟩ := v1.shape0
      have A2 := hide ((unhide A0).later v3)
      have V1 := hide v1
      have V2 : Hid (∀ k, v.ownBlock = some k → w.heap.size ≤ k) := fun k hk => Nat.le_trans (unhide A0).bel.size (v2 k hk)
      have hfit := (unhide HF)
      generalize hun : (uni x.ps l).length = un at *
      clear hun
      subst ev
      have A1 : Hid (ApT w ((w2.setCell ⟨gb, 0, none⟩ (.int .i64 2)).setCell ⟨gb, 4, none⟩ (.slice (vg.map (fun g => ⟨g, 0, none⟩)) un vc)) sb gb mo m K R #[.int .i64 2, .int .i64 tx, .int .i64 ic, .int .u64 pi, .int .i64 eq, .slice a ln c, .bool cm] x2 ⟨2, ix, px, ep, vg, un, vc, la, lp, co⟩) := by
        have t : Touch (· = gb) w2 ((w2.setCell ⟨gb, 0, none⟩ (.int .i64 2)).setCell ⟨gb, 4, none⟩ (.slice (vg.map (fun g => ⟨g, 0, none⟩)) un vc)) := (touch_set w2 gb 0 (.int .i64 2)).trans (touch_set _ gb 4 (.slice (vg.map (fun g => ⟨g, 0, none⟩)) un vc))
        have e0 := set1 (unhide A2).pd 0 (.int .i64 2) (cs' := #[.int .i64 2, .int .i64 ix, .int .u64 px, .int .i64 ep, .slice (g.map (fun g => ⟨g, 0, none⟩)) n' c', .int .i64 la, .int .u64 lp, .bool co]) rfl
        have e1 := set1 e0 4 (.slice (vg.map (fun g => ⟨g, 0, none⟩)) un vc) (cs' := #[.int .i64 2, .int .i64 ix, .int .u64 px, .int .i64 ep, .slice (vg.map (fun g => ⟨g, 0, none⟩)) un vc, .int .i64 la, .int .u64 lp, .bool co]) rfl
        refine (unhide A2).fld t e1 ?_ (fun k hk => .inr (unhide V2 k hk))
        rw [← unhide HX2]
        unfold apT
        rw [if_neg (show ¬ (2 : Int) = 1 by decide), if_pos rfl]
        exact ⟨rfl, hfit.inc, hfit.pid, hfit.ep, hfit.la, hfit.lp, hfit.co, (unhide V1).keep t (fun k hk e => by
          obtain ⟨cs, hc⟩ := (unhide V1).heap hk
          rw [e, (unhide A2).pd] at hc
          exact absurd (Obj.cells.inj (Option.some.inj hc)).2.1 (by decide))⟩
      have p0 : w2.cell? ⟨gb, 0, none⟩ = some (.int .i64 st) := cell_of (unhide A2).pd 0
      have p4 : w2.cell? ⟨gb, 4, none⟩ = some (.slice sa n' c') := by rw [cell_of (unhide A2).pd 4, ← unhide HSA]; rfl
      have f0 : w2.frozen? ⟨gb, 0, none⟩ = false := frozen_of (unhide A2).pd 0
      have f4 : w2.frozen? ⟨gb, 4, none⟩ = false := frozen_of (unhide A2).pd 4
      clear hfit v1 v2 v3 V1 V2 KUH HF A2 A0
      generalize vg.map (fun g => (⟨g, 0, none⟩ : Addr)) = vs at *
      go_wp2_with fail
      go_meet
      exact ⟨_, unhide A1⟩
    by_cases k3 : kd = 3
    · subst k3
      clear k1 k2
      have A1 : Hid (ApT w ((((V.setCell ⟨gb, 0, none⟩ (.int .i64 3)).setCell ⟨gb, 5, none⟩ (.int .i64 ep)).setCell ⟨gb, 6, none⟩ (.int .u64 px)).setCell ⟨gb, 7, none⟩ (.bool cm)).drew sb gb mo m K R #[.int .i64 3, .int .i64 tx, .int .i64 ic, .int .u64 pi, .int .i64 eq, .slice a ln c, .bool cm] x2 ⟨3, ix, px, ep, g, n', c', ep, px, cm⟩) := by
        have t : Touch (· = gb) V ((((V.setCell ⟨gb, 0, none⟩ (.int .i64 3)).setCell ⟨gb, 5, none⟩ (.int .i64 ep)).setCell ⟨gb, 6, none⟩ (.int .u64 px)).setCell ⟨gb, 7, none⟩ (.bool cm)).drew := ((((touch_set V gb 0 (.int .i64 3)).trans (touch_set _ gb 5 (.int .i64 ep))).trans (touch_set _ gb 6 (.int .u64 px))).trans (touch_set _ gb 7 (.bool cm))).drew
        have e0 := set1 (unhide A0).pd 0 (.int .i64 3) (cs' := #[.int .i64 3, .int .i64 ix, .int .u64 px, .int .i64 ep, .slice (g.map (fun g => ⟨g, 0, none⟩)) n' c', .int .i64 la, .int .u64 lp, .bool co]) rfl
        have e1 := set1 e0 5 (.int .i64 ep) (cs' := #[.int .i64 3, .int .i64 ix, .int .u64 px, .int .i64 ep, .slice (g.map (fun g => ⟨g, 0, none⟩)) n' c', .int .i64 ep, .int .u64 lp, .bool co]) rfl
        have e2 := set1 e1 6 (.int .u64 px) (cs' := #[.int .i64 3, .int .i64 ix, .int .u64 px, .int .i64 ep, .slice (g.map (fun g => ⟨g, 0, none⟩)) n' c', .int .i64 ep, .int .u64 px, .bool co]) rfl
        have e3 := set1 e2 7 (.bool cm) (cs' := #[.int .i64 3, .int .i64 ix, .int .u64 px, .int .i64 ep, .slice (g.map (fun g => ⟨g, 0, none⟩)) n' c', .int .i64 ep, .int .u64 px, .bool cm]) rfl
        refine (unhide A0).fld t e3 ?_ (unhide A0).row
        rw [← unhide HX2]
        unfold apT
        rw [if_neg (show ¬ (3 : Int) = 1 by decide), if_neg (show ¬ (3 : Int) = 2 by decide), if_pos rfl]
        exact ⟨rfl, hfit.inc, hfit.pid, hfit.ep, hfit.ep, hfit.pid, rfl, (unhide A0).row4 t⟩
      clear hfit
      go_wp2_with fail
      go_region
      go_wp2_with fail
      go_meet
      exact ⟨_, unhide A1⟩
    by_cases k4 : kd = 4
    · subst k4
      clear k1 k2 k3
      have A1 : Hid (ApT w (((V.setCell ⟨gb, 0, none⟩ (.int .i64 4)).setCell ⟨gb, 3, none⟩ (.int .i64 (wrap64 (la + 2)))).setCell ⟨gb, 4, none⟩ (.slice none 0 0)) sb gb mo m K R #[.int .i64 4, .int .i64 tx, .int .i64 ic, .int .u64 pi, .int .i64 eq, .slice a ln c, .bool cm] x2 ⟨4, ix, px, wrap64 (la + 2), none, 0, 0, la, lp, co⟩) := by
        have t : Touch (· = gb) V (((V.setCell ⟨gb, 0, none⟩ (.int .i64 4)).setCell ⟨gb, 3, none⟩ (.int .i64 (wrap64 (la + 2)))).setCell ⟨gb, 4, none⟩ (.slice none 0 0)) := ((touch_set V gb 0 (.int .i64 4)).trans (touch_set _ gb 3 (.int .i64 (wrap64 (la + 2))))).trans (touch_set _ gb 4 (.slice none 0 0))
        have e0 := set1 (unhide A0).pd 0 (.int .i64 4) (cs' := #[.int .i64 4, .int .i64 ix, .int .u64 px, .int .i64 ep, .slice (g.map (fun g => ⟨g, 0, none⟩)) n' c', .int .i64 la, .int .u64 lp, .bool co]) rfl
        have e1 := set1 e0 3 (.int .i64 (wrap64 (la + 2))) (cs' := #[.int .i64 4, .int .i64 ix, .int .u64 px, .int .i64 (wrap64 (la + 2)), .slice (g.map (fun g => ⟨g, 0, none⟩)) n' c', .int .i64 la, .int .u64 lp, .bool co]) rfl
        have e2 := set1 e1 4 (.slice none 0 0) (cs' := #[.int .i64 4, .int .i64 ix, .int .u64 px, .int .i64 (wrap64 (la + 2)), .slice none 0 0, .int .i64 la, .int .u64 lp, .bool co]) rfl
        refine (unhide A0).fld t e2 ?_ (fun k hk => by cases hk)
        rw [← unhide HX2]
        unfold apT
        rw [if_neg (show ¬ (4 : Int) = 1 by decide), if_neg (show ¬ (4 : Int) = 2 by decide), if_neg (show ¬ (4 : Int) = 3 by decide), if_pos rfl]
        exact ⟨rfl, hfit.inc, hfit.pid, by show wrap64 (la + 2) = _; rw [show la = x.la from hfit.la], hfit.la, hfit.lp, hfit.co, IL.nil _⟩
      clear hfit
      go_wp2_with fail
      go_meet
      exact ⟨_, unhide A1⟩
    · have A1 : Hid (∃ p, ApT w V sb gb mo m K R #[.int .i64 kd, .int .i64 tx, .int .i64 ic, .int .u64 pi, .int .i64 eq, .slice a ln c, .bool cm] x2 p) := ⟨_, by
        have e : x2 = x := by rw [← unhide HX2]; unfold apT; rw [if_neg k1, if_neg k2, if_neg k3, if_neg k4]
        rw [e]; exact unhide A0⟩
      clear hfit
      go_wp2_with fail
      go_meet
      exact unhide A1
  case rest =>
    obtain ⟨p, A1'⟩ := hcut
    have A1 := hide A1'
    have hob : wc.heap[sb]? = some (.cells #[.map mo] 74) := A1'.ts.obj
    have t0 : wc.cell? ⟨sb, 0, none⟩ = some (.map mo) := cell_of hob 0
    have hbt : sb < wc.heap.size := lt_of_heap hob
    have tf0 : wc.frozen? ⟨sb, 0, none⟩ = false := frozen_of hob 0
    clear A1' A0 HRR HC HL HX2 HSA HT HIN hob r0 r1 r2 r3 r4 r5 r6 q0 q1 q2 q3 q4 q5 q6 q7 z0 z1 z2 z3 z4 z5 z6 z7 hne hne2
    have heq := fun (w : World) => run_eql_map_nil (P := Try.prog) w 72 3 76 mo Try.underlying72
    have hmm := @run_makeMap Try.prog
    go_upto_if 59 with fail
    go_cut [] from 5 (fun wx => ∃ mb m1, m1.length ≤ m.length ∧ ApM w wx sb gb mb m1 K R #[.int .i64 kd, .int .i64 tx, .int .i64 ic, .int .u64 pi, .int .i64 eq, .slice a ln c, .bool cm] x2 p)
    case first =>
      cases mo with
      | none =>
        have tf : (wc.alloc (.map #[] 0)).frozen? ⟨sb, 0, none⟩ = false := frozen_of (heap_old _ (unhide A1).ts.obj) 0
        have tc : (wc.alloc (.map #[] 0)).cell? ⟨sb, 0, none⟩ = some (.map none) := cell_of (heap_old _ (unhide A1).ts.obj) 0
        have HS : Hid (∃ mb m1, m1.length ≤ m.length ∧ ApM w ((wc.setCell ⟨sb, 0, none⟩ (.map (some wc.heap.size))).alloc (.map #[] 0)) sb gb mb m1 K R #[.int .i64 kd, .int .i64 tx, .int .i64 ic, .int .u64 pi, .int .i64 eq, .slice a ln c, .bool cm] x2 p) := ⟨_, [], Nat.zero_le _, (unhide A1).made.1⟩
        go_wp2_with fail
        go_meet
        exact unhide HS
      | some mb =>
        go_wp2_with fail
        go_meet
        exact ⟨mb, m, Nat.le_refl _, (unhide A1).same⟩
    case rest =>
      obtain ⟨mb, m1, l1, A2'⟩ := hcut
      obtain ⟨w3, hrun, hend⟩ := A2'.store (unhide HN) (Nat.lt_of_le_of_lt l1 (unhide HM))
      have HE : Hid (ApP w sb m K tx x2 R (.returned (.tuple #[])) w3) := by
        obtain ⟨e1, mv', m', h1, h2, h3⟩ := hend
        exact ⟨e1, mv', m', h1, Nat.le_trans h2 (by omega), h3⟩
      have u0 : wc.cell? ⟨sb, 0, none⟩ = some (.map (some mb)) := cell_of A2'.obj 0
      have u1 : wc.cell? ⟨w.heap.size, 1, none⟩ = some (.int .i64 tx) := cell_of A2'.rc 1
      obtain ⟨pst, pix, ppx, pep, pg, pn, pc, pla, plp, pco⟩ := p
      have hpd := A2'.pd
      simp only [tdV, tdC, tdS] at hrun hpd
      generalize pg.map (fun g => (⟨g, 0, none⟩ : Addr)) = psa at *
      have v0 : wc.cell? ⟨gb, 0, none⟩ = some (.int .i64 pst) := cell_of hpd 0
      have v1 : wc.cell? ⟨gb, 1, none⟩ = some (.int .i64 pix) := cell_of hpd 1
      have v2 : wc.cell? ⟨gb, 2, none⟩ = some (.int .u64 ppx) := cell_of hpd 2
      have v3 : wc.cell? ⟨gb, 3, none⟩ = some (.int .i64 pep) := cell_of hpd 3
      have v4 : wc.cell? ⟨gb, 4, none⟩ = some (.slice psa pn pc) := cell_of hpd 4
      have v5 : wc.cell? ⟨gb, 5, none⟩ = some (.int .i64 pla) := cell_of hpd 5
      have v6 : wc.cell? ⟨gb, 6, none⟩ = some (.int .u64 plp) := cell_of hpd 6
      have v7 : wc.cell? ⟨gb, 7, none⟩ = some (.bool pco) := cell_of hpd 7
      clear A2' hpd hend A1 t0 tf0 hbt l1 hmm heq HN HM
      go_wp2_with fail
      go_region
      go_returns
      exact unhide HE
end Go.Proofs.Ytbgccnnomgeniaa
