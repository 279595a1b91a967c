/-
  prod's Table.Apply of any batch to any table. Conditions: the table is one; the batch's producer is below 2^64, and not 0.
-/
import Derived.Test.YtjocjnjdmmihnaaQe9
import Derived.Test.YtjocjnjdmmihnaaQb9
import Derived.WalkSpells
namespace Go.Proofs.Ytjocjnjdmmihnaa
open Go.RowKit
set_option linter.unusedVariables false

/-- What it leaves. -/
def ApP (w : World) (tb : Nat) (K : Nat → Option Kn) (c : Nat) (R : Nat → Prop) (b : Bt) (e : Ending) (w' : World) : Prop :=
  e = .returned (.tuple #[]) ∧ ∃ mv' av' m' n' R', Tb w' tb mv' av' m' (fun s => if s = b.pid then some (apK b (atK (K b.pid) b.pep)) else K s) n' (c + 1) R' ∧ (∀ k, R' k → R k ∨ (w.heap.size ≤ k ∧ k < w'.heap.size)) ∧ Touch R w w'
theorem ApP.of {w W : World} {tb gp n c mb : Nat} {av : Value} {m : Pps} {K : Nat → Option Kn} {R : Nat → Prop} {b : Bt} {a : Option Addr} {cap : Nat} {p : Pd} {ls : List Sn} (h : ApS w W tb gp (.map (some mb)) av m K n R b a cap p ls) (hc : m.length ≤ c) (hn : n ≤ c + 1) (hcm : c < maxLen) (h64 : b.pid < 18446744073709551616) (hnon : ∀ s, patx m s = none → K s = none) (hf : Fits p (apK b (atK (K b.pid) b.pep))) (hls : (apK b (atK (K b.pid) b.pep)).ls = ls) (h5 : ls.length ≤ 5) :
    ∃ w', (Instr.mapUpdate 46 (.map (some mb)) (.int .u64 (b.pid : Int)) (pdV p)).run Try.prog W = .ok () w' ∧ ApP w tb K c R b (.returned (.tuple #[])) w' := by
  obtain ⟨w', h1, h2, h3⟩ := h.stored hc hn hcm h64 hnon _ hf hls h5
  exact ⟨w', h1, rfl, _, _, _, _, _, h2, fun k hk => hk, h3⟩
/-- Behind the switch. -/
structure Sw (w W : World) (tb gp : Nat) (mv : Value) (m : Pps) (K : Nat → Option Kn) (c : Nat) (R : Nat → Prop) (b : Bt) (a : Option Addr) (cap : Nat) (k' : Kn) (av : Value) (n : Nat) (p : Pd) : Prop where
  st : ApS w W tb gp mv av m K n R b a cap p k'.ls
  len : n ≤ c + 1
  fit : Fits p k'
  few : k'.ls.length ≤ 5
section
variable {w W W' : World} {tb gp n c : Nat} {mv av : Value} {m : Pps} {K : Nat → Option Kn} {R : Nat → Prop} {b : Bt} {a : Option Addr} {cap : Nat} {p : Pd} {q : Kn}
theorem apK_data (hc : b.ctl = false) : apK b q = ⟨q.ep, IntKind.i64.wrap (b.seq + (b.vs.length : Int)), q.op || b.txn, if b.txn = true ∧ q.op = false then b.base else q.fi, wnd q.ls ++ [snB b]⟩ := by unfold apK; rw [hc]; rfl
theorem apK_shut (hc : b.ctl = true) (ho : q.op = false) : apK b q = q := by unfold apK; rw [hc, ho]; cases q; cases ho; rfl
theorem apK_open (hc : b.ctl = true) (ho : q.op = true) : apK b q = ⟨q.ep, q.nx, false, 0, q.ls⟩ := by unfold apK; rw [hc, ho]; rfl
theorem Sw.data (h : ApS w W tb gp mv av m K n R b a cap p q.ls) (hf : Fits p q) (hn : n ≤ c) (h5 : q.ls.length ≤ 5) (hc : b.ctl = false) {e : Ending} (ha : AdP2 W gp p q.ls b e W') : e = .returned (.tuple #[]) ∧ ∃ p2, Sw w W' tb gp mv m K c R b a cap (apK b q) av n p2 := by
  obtain ⟨e1, p2, h1, h2, h3, h4, h6⟩ := h.added ha
  refine ⟨e1, p2, ?_⟩
  rw [apK_data hc]
  refine ⟨h1, by omega, ⟨h2.trans hf.ep, ?_, by rw [h4, hf.op], by rw [h6, hf.op, hf.fi]⟩, ?_⟩
  · rw [h3, hc]; rfl
  · have := wnd_len h5
    simp only [List.length_append, List.length_singleton]
    omega
theorem Sw.shut (h : ApS w W tb gp mv av m K n R b a cap p q.ls) (hf : Fits p q) (hn : n ≤ c) (h5 : q.ls.length ≤ 5) (hc : b.ctl = true) (ho : p.op = false) : Sw w W tb gp mv m K c R b a cap (apK b q) av n p := by
  rw [apK_shut hc (by rw [← hf.op]; exact ho)]
  exact ⟨h, by omega, hf, h5⟩
theorem Sw.close (h : ApS w W tb gp mv av m K n R b a cap p q.ls) (hf : Fits p q) (hn : n ≤ c + 1) (h5 : q.ls.length ≤ 5) (hc : b.ctl = true) (ho : p.op = true) : ∃ p2, Sw w ((W.setCell ⟨gp, 3, none⟩ (.bool false)).setCell ⟨gp, 4, none⟩ (.int .i64 0)) tb gp mv m K c R b a cap (apK b q) av n p2 := by
  rw [apK_open hc (by rw [← hf.op]; exact ho)]
  have h1 := h.fld (p2 := ⟨p.ep, p.nx, p.g, p.n, p.c, false, p.fi⟩) 3 (.bool false) (heap_set h.pd 3 _) rfl rfl
  have h2 := h1.fld (p2 := ⟨p.ep, p.nx, p.g, p.n, p.c, false, 0⟩) 4 (.int .i64 0) (heap_set h1.pd 4 _) rfl rfl
  exact ⟨_, h2, hn, ⟨hf.ep, hf.nx, rfl, rfl⟩, h5⟩
theorem ApS.batC (h : ApS w W tb gp mv av m K n R b a cap p q.ls) : W.cell? ⟨w.heap.size, 0, none⟩ = some (.int .i64 b.base) ∧ W.cell? ⟨w.heap.size, 1, none⟩ = some (.int .i64 b.epoch) ∧ W.cell? ⟨w.heap.size, 2, none⟩ = some (.int .u64 (b.pid : Int)) ∧ W.cell? ⟨w.heap.size, 3, none⟩ = some (.int .i64 b.pep) ∧ W.cell? ⟨w.heap.size, 4, none⟩ = some (.int .i64 b.seq) ∧ W.cell? ⟨w.heap.size, 5, none⟩ = some (.bool b.txn) ∧ W.cell? ⟨w.heap.size, 6, none⟩ = some (.bool b.ctl) ∧ W.cell? ⟨w.heap.size, 7, none⟩ = some (.bool b.com) ∧ W.cell? ⟨w.heap.size, 8, none⟩ = some (.slice a b.vs.length cap) :=
  ⟨cell_of h.bat 0, cell_of h.bat 1, cell_of h.bat 2, cell_of h.bat 3, cell_of h.bat 4, cell_of h.bat 5, cell_of h.bat 6, cell_of h.bat 7, cell_of h.bat 8⟩
end
set_option maxRecDepth 100000 in
set_option maxHeartbeats 16000000 in
theorem apply_any {w : World} {tb : Nat} {mv av : Value} {m : Pps} {K : Nat → Option Kn} {n c : Nat} {R : Nat → Prop} (h : Tb w tb mv av m K n c R) (hcm : c ≤ 2000000000000) (b : Bt) (a : Option Addr) (cap : Nat) (hpid : b.pid ≠ 0) (hp64 : b.pid < 18446744073709551616) :
    Calls Try.prog 11 #[.pointer (some ⟨tb, 0, none⟩), bv b a cap] w fun e w' => ApP w tb K c R b e w' := by
  obtain ⟨mo, rfl⟩ := h.isMap
  obtain ⟨aa, ac, rfl⟩ : ∃ aa ac, av = .slice aa n ac := by obtain ⟨xs, hx⟩ := h.abr; exact hx.shape
  have HT := hide h
  have htb := h.lt
  have KAT : Hid (∀ w', Below w.heap.size w w' → Calls Try.prog 14 #[.pointer (some ⟨tb, 0, none⟩), .int .u64 (b.pid : Int), .int .i64 b.pep] w' fun e w'' => AnsPost w' (pdV (atP (gotP (patx m b.pid)) (patx m b.pid).isSome b.pep)) e w'') := fun w' hb =>
    at9_any (below_keep hb (unhide HT).tab) b.pid b.pep _ _ (fun v hv => hv ▸ (unhide HT).isMap) (fun W hW => (unhide HT).look hp64 (hb.trans (hW.mono hb.size)))
  have KAD : Hid (∀ W gp p ls, PdAt W gp p → Lst9 W p ls → ls.length ≤ 5 → Calls Try.prog 17 #[.pointer (some ⟨gp, 0, none⟩), bv b a cap] W fun e w' => AdP2 W gp p ls b e w') := fun W gp p ls h1 h2 h3 => add2_any h1 h2 h3 b a cap
  obtain ⟨f1, f2, f3, f4⟩ := h.at b.pid b.pep
  have HF := hide f1
  have HL := hide f2
  have hA : Below w.heap.size w (w.alloc (.cells (btC b a cap) 30)) := (Below.refl _ _).alloc (Nat.le_refl _) _
  have HA := hide hA
  have BX : Hid ((w.alloc (.cells (btC b a cap) 30)).heap[w.heap.size]? = some (.cells (btC b a cap) 30)) := heap_new _ _
  have k2 : (w.alloc (.cells (btC b a cap) 30)).cell? ⟨w.heap.size, 2, none⟩ = some (.int .u64 (b.pid : Int)) := cell_of (unhide BX) 2
  have k3 : (w.alloc (.cells (btC b a cap) 30)).cell? ⟨w.heap.size, 3, none⟩ = some (.int .i64 b.pep) := cell_of (unhide BX) 3
  have hpid' : ¬ (b.pid : Int) = 0 := by omega
  have hST : Hid (∀ W gp, Below w.heap.size w W → W.heap[w.heap.size]? = some (.cells (btC b a cap) 30) → PdAt W gp (atP (gotP (patx m b.pid)) (patx m b.pid).isSome b.pep) → w.heap.size < gp → ApS w W tb gp (.map mo) (.slice aa n ac) m K n R b a cap (atP (gotP (patx m b.pid)) (patx m b.pid).isSome b.pep) (atK (K b.pid) b.pep).ls) := fun W gp h1 h2 h3 h4 => (unhide HT).start h1 h2 h3 h4
  have HLEN := hide h.len
  have HNON := hide h.non
  generalize hp0 : atP (gotP (patx m b.pid)) (patx m b.pid).isSome b.pep = p0 at *
  generalize hk0 : atK (K b.pid) b.pep = q0 at *
  have HK0 := hide hk0
  clear h f1 f2 f4 hA HT hp0 hk0
  unfold bv at KAD ⊢
  unfold btC at HA BX k2 k3
  obtain ⟨pe, px, pg, pn, pc, po, pf⟩ := p0
  obtain ⟨sa, hsv'⟩ : ∃ sa, Value.slice sa pn pc = pdS ⟨pe, px, pg, pn, pc, po, pf⟩ := ⟨_, rfl⟩
  have hsv := hide hsv'
  clear hsv'
  have KAT2 : Hid (∀ w', Below w.heap.size w w' → Calls Try.prog 14 #[.pointer (some ⟨tb, 0, none⟩), .int .u64 (b.pid : Int), .int .i64 b.pep] w' fun e w'' => AnsPost w' (.agg #[.int .i64 pe, .int .i64 px, .slice sa pn pc, .bool po, .int .i64 pf]) e w'') := by
    rw [unhide hsv]
    exact unhide KAT
  clear KAT
  go_enter Try.func11, Try.ntmps11
  go_wp2_with fail
  generalize hWW : w.alloc (.cells #[.int .i64 b.base, .int .i64 b.epoch, .int .u64 (b.pid : Int), .int .i64 b.pep, .int .i64 b.seq, .bool b.txn, .bool b.ctl, .bool b.com, .slice a b.vs.length cap] 30) = W at *
  clear hWW
  refine (unhide KAT2 W (unhide HA)).mono ?_
  rintro e w1 ⟨rfl, b1⟩
  have AB : Below w1.heap.size w1 (w1.alloc (.cells #[.int .i64 pe, .int .i64 px, .slice sa pn pc, .bool po, .int .i64 pf] 44)) := (Below.refl _ _).alloc (Nat.le_refl _) _
  have bWV := b1.trans (AB.mono b1.size)
  have hw1 : w.heap.size < w1.heap.size := Nat.lt_of_lt_of_le (lt_of_heap (unhide BX)) b1.size
  have A0 : Hid (ApS w (w1.alloc (.cells #[.int .i64 pe, .int .i64 px, .slice sa pn pc, .bool po, .int .i64 pf] 44)) tb w1.heap.size (.map mo) (.slice aa n ac) m K n R b a cap ⟨pe, px, pg, pn, pc, po, pf⟩ q0.ls) :=
    unhide hST _ w1.heap.size ((unhide HA).trans (bWV.mono (unhide HA).size)) (below_keep bWV (unhide BX)) (by rw [unhide hsv]; exact heap_new _ _) hw1
  clear b1 AB bWV BX HA KAT2 k2 k3 hST
  go_upto_block 0 with fail
  generalize hVV : w1.alloc (.cells #[.int .i64 pe, .int .i64 px, .slice sa pn pc, .bool po, .int .i64 pf] 44) = V at *
  generalize hgp : w1.heap.size = gp at *
  clear hVV hgp
  obtain ⟨k0, k1, k2, k3, k4, k5, k6, k7, k8⟩ := (unhide A0).batC
  have hgV : V.heap[gp]? = some (.cells #[.int .i64 pe, .int .i64 px, .slice sa pn pc, .bool po, .int .i64 pf] 44) := by rw [unhide hsv]; exact (unhide A0).pd
  have p3 : V.cell? ⟨gp, 3, none⟩ = some (.bool po) := cell_of hgV 3
  have p4 : V.cell? ⟨gp, 4, none⟩ = some (.int .i64 pf) := cell_of hgV 4
  have hgp3 : V.frozen? ⟨gp, 3, none⟩ = false := frozen_of hgV 3
  have hgp4 : V.frozen? ⟨gp, 4, none⟩ = false := frozen_of hgV 4
  clear hgV
  generalize Value.agg #[.int .i64 b.base, .int .i64 b.epoch, .int .u64 (b.pid : Int), .int .i64 b.pep, .int .i64 b.seq, .bool b.txn, .bool b.ctl, .bool b.com, .slice a b.vs.length cap] = bv1
  go_cut [] from 5 (fun wx => ∃ av1 n1 p1, Sw w wx tb gp (.map mo) m K c R b a cap (apK b q0) av1 n1 p1)
  case first =>
    cases hc : b.ctl with
    | false =>
      rw [hc] at k6 KAD
      have KA := hide (unhide KAD V gp _ _ (unhide A0).pd (unhide A0).lst f3)
      go_wp2_with fail
      refine (unhide KA).mono ?_
      intro e w2 ha
      obtain ⟨e1, hsw⟩ := Sw.data (unhide A0) (unhide HF) (unhide HLEN).2 f3 hc ha
      subst e1
      have HS := hide hsw
      clear hsw ha
      go_wp2_with fail
      go_meet
      exact ⟨_, _, unhide HS⟩
    | true =>
      rw [hc] at k6
      cases po with
      | false =>
        have HS := hide (Sw.shut (unhide A0) (unhide HF) (unhide HLEN).2 f3 hc rfl)
        go_wp2_with fail
        go_meet
        exact ⟨_, _, _, unhide HS⟩
      | true =>
        have x4 : ∀ u, (V.setCell ⟨gp, 3, none⟩ u).cell? ⟨gp, 4, none⟩ = some (.int .i64 pf) := fun u => cell_of (heap_set (unhide A0).pd 3 u) 4
        have y4 : ∀ u, (V.setCell ⟨gp, 3, none⟩ u).frozen? ⟨gp, 4, none⟩ = false := fun u => frozen_of (heap_set (unhide A0).pd 3 u) 4
        cases hm : b.com with
        | true =>
          rw [hm] at k7
          have HS := hide (Sw.close (unhide A0) (unhide HF) (Nat.le_succ_of_le (unhide HLEN).2) f3 hc rfl)
          go_wp2_with fail
          go_meet
          exact ⟨_, _, unhide HS⟩
        | false =>
          rw [hm] at k7
          obtain ⟨xs, hxs⟩ := (unhide A0).abr
          have ROW := hide hxs
          have RB : Hid (Below V.heap.size V V) := Below.refl _ _
          have t1 : V.cell? ⟨tb, 1, none⟩ = some (.slice aa n ac) := cell_of (unhide A0).tab 1
          have hbV : tb < V.heap.size := lt_of_heap (unhide A0).tab
          have tA : ∀ X, (V.alloc X).cell? ⟨tb, 1, none⟩ = some (.slice aa n ac) := fun X => cell_of (heap_old X (unhide A0).tab) 1
          have hn40 : n ≤ 2000000000000 := Nat.le_trans (unhide HLEN).2 hcm
          clear hxs
          go_wp2_with fail
          go_region_law (refine step_abort rfl (.tmp 34) (.tmp 42) rfl (.slice aa n ac) n xs (by rfl) ((unhide ROW).later (by first | exact (unhide RB).alloc (Nat.le_refl _) _ | exact (below_drewN3 (unhide RB) _).alloc (Nat.le_refl _) _)) _ _ _ (by rfl) (heap_new _ _) rfl rfl (by intro u hu; simp at hu; rcases hu with rfl | rfl | rfl <;> rfl) hn40 ?_; intro v3 w3 o3 t3 m3; obtain ⟨y3, z3, q3⟩ := (unhide A0).aborts (by first | exact (unhide RB).alloc (Nat.le_refl _) _ | exact (below_drewN3 (unhide RB) _).alloc (Nat.le_refl _) _) o3 t3 m3; obtain ⟨a3, c3, rfl⟩ := o3.shape; have Q3 := hide q3; clear o3 t3 m3 q3)
          all_goals
            generalize w3.setCell ⟨tb, 1, none⟩ (.slice a3 (n + 1) c3) = V3 at *
            clear y3 z3 t1 tA p3 p4 hgp3 hgp4 x4 y4 k0 k1 k2 k3 k4 k5 k6 k7 k8
            have HS := hide (Sw.close (unhide Q3) (unhide HF) (Nat.succ_le_succ (unhide HLEN).2) f3 hc rfl)
            have p3 : V3.cell? ⟨gp, 3, none⟩ = some (.bool true) := cell_of (unhide Q3).pd 3
            have p4 : V3.cell? ⟨gp, 4, none⟩ = some (.int .i64 pf) := cell_of (unhide Q3).pd 4
            have hgp3 : V3.frozen? ⟨gp, 3, none⟩ = false := frozen_of (unhide Q3).pd 3
            have x4 : ∀ u, (V3.setCell ⟨gp, 3, none⟩ u).cell? ⟨gp, 4, none⟩ = some (.int .i64 pf) := fun u => cell_of (heap_set (unhide Q3).pd 3 u) 4
            have y4 : ∀ u, (V3.setCell ⟨gp, 3, none⟩ u).frozen? ⟨gp, 4, none⟩ = false := fun u => frozen_of (heap_set (unhide Q3).pd 3 u) 4
            go_wp2_with fail
            go_meet
            exact ⟨_, _, unhide HS⟩
  case rest =>
    obtain ⟨av1, n1, p1, A1'⟩ := hcut
    have A1 := hide A1'
    clear A1' A0 k0 k1 k2 k3 k4 k5 k6 k7 k8 p3 p4 hgp3 hgp4 KAD
    have t0 : wc.cell? ⟨tb, 0, none⟩ = some (.map mo) := cell_of (unhide A1).st.tab 0
    have heq := fun (w : World) => run_eql_map_nil (P := Try.prog) w 46 27 44 mo Try.underlying46
    have hmm := @run_makeMap Try.prog
    have hbt : tb < wc.heap.size := lt_of_heap (unhide A1).st.tab
    go_upto_if 52 with fail
    go_cut [] from 5 (fun wx => ∃ mb m1, m1.length ≤ c ∧ (∀ s, patx m1 s = none → K s = none) ∧ Sw w wx tb gp (.map (some mb)) m1 K c R b a cap (apK b q0) av1 n1 p1)
    case first =>
      cases mo with
      | none =>
        have tf : (wc.alloc (.map #[] 0)).frozen? ⟨tb, 0, none⟩ = false := frozen_of (heap_old _ (unhide A1).st.tab) 0
        have tc : (wc.alloc (.map #[] 0)).cell? ⟨tb, 0, none⟩ = some (.map none) := cell_of (heap_old _ (unhide A1).st.tab) 0
        have hm0 : m = [] := by
          rcases (unhide A1).st.map with e | ⟨mb, e, _⟩
          · exact e.2
          · cases e
        have HS : Hid (∃ mb m1, m1.length ≤ c ∧ (∀ s, patx m1 s = none → K s = none) ∧ Sw w ((wc.setCell ⟨tb, 0, none⟩ (.map (some wc.heap.size))).alloc (.map #[] 0)) tb gp (.map (some mb)) m1 K c R b a cap (apK b q0) av1 n1 p1) := ⟨_, [], Nat.zero_le _, fun s hs => unhide HNON s (by rw [hm0]; exact hs), (unhide A1).st.made rfl, (unhide A1).len, (unhide A1).fit, (unhide A1).few⟩
        clear hm0
        go_wp2_with fail
        go_meet
        exact unhide HS
      | some mb =>
        go_wp2_with fail
        go_meet
        exact ⟨mb, m, (unhide HLEN).1, unhide HNON, unhide A1⟩
    case rest =>
      obtain ⟨mb, m1, l1, l2, A2'⟩ := hcut
      have A2 := hide A2'
      have LL1 := hide l1
      have LL2 := hide l2
      clear A2' l1 l2 A1 t0 hbt
      obtain ⟨qe, qx, qg, qn, qc, qo, qf⟩ := p1
      obtain ⟨sa1, hsv1'⟩ : ∃ sa, Value.slice sa qn qc = pdS ⟨qe, qx, qg, qn, qc, qo, qf⟩ := ⟨_, rfl⟩
      have hsv1 := hide hsv1'
      clear hsv1'
      obtain ⟨w3, hst0, hP⟩ := ApP.of ((unhide A2).st.later (Below.refl _ _).drew) (unhide LL1) (unhide A2).len (by unfold maxLen; omega) hp64 (unhide LL2) (by rw [unhide HK0]; exact (unhide A2).fit) (by rw [unhide HK0]) (unhide A2).few
      have hst : (Instr.mapUpdate 46 (.map (some mb)) (.int .u64 (b.pid : Int)) (.agg #[.int .i64 qe, .int .i64 qx, .slice sa1 qn qc, .bool qo, .int .i64 qf])).run Try.prog wc.drew = .ok () w3 := by
        rw [unhide hsv1]; exact hst0
      have F := hide hP
      have VP : wc.heap[gp]? = some (.cells #[.int .i64 qe, .int .i64 qx, .slice sa1 qn qc, .bool qo, .int .i64 qf] 44) := by rw [unhide hsv1]; exact (unhide A2).st.pd
      have x2 : wc.cell? ⟨w.heap.size, 2, none⟩ = some (.int .u64 (b.pid : Int)) := cell_of (unhide A2).st.bat 2
      have p0 : wc.cell? ⟨gp, 0, none⟩ = some (.int .i64 qe) := cell_of VP 0
      have p1 : wc.cell? ⟨gp, 1, none⟩ = some (.int .i64 qx) := cell_of VP 1
      have p2 : wc.cell? ⟨gp, 2, none⟩ = some (.slice sa1 qn qc) := cell_of VP 2
      have p3 : wc.cell? ⟨gp, 3, none⟩ = some (.bool qo) := cell_of VP 3
      have p4 : wc.cell? ⟨gp, 4, none⟩ = some (.int .i64 qf) := cell_of VP 4
      have t0 : wc.cell? ⟨tb, 0, none⟩ = some (.map (some mb)) := cell_of (unhide A2).st.tab 0
      clear hst0 hP VP A2
      go_wp2_with fail
      go_region
      all_goals
        go_wp2
        go_returns
        exact unhide F
end Go.Proofs.Ytjocjnjdmmihnaa
