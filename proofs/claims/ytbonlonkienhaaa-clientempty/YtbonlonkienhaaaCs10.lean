/-
  Tick of a client that has one value to send: it asks for a producer. Conditions: the client as it lies.
-/
import Derived.Test.YtbonlonkienhaaaCs9
namespace Go.Proofs.Ytbonlonkienhaaa
open Go.RowKit
set_option linter.unusedVariables false

/-- What of a client's cells is read where it asks for a producer. -/
structure Reads7 (L : List Value) : Prop where
  hl : L.length = 113
  l0 : L[0]? = some (.int .i64 0)
  l1 : L[1]? = some (.int .i64 1)
  l2 : L[2]? = some (.int .i64 1)
  l3 : L[3]? = some (.int .i64 0)
  l6 : L[6]? = some (.int .i64 0)
  l13 : L[13]? = some (.int .i64 0)
  l76 : L[76]? = some (.int .i64 0)
  l81 : L[81]? = some (.bool false)
set_option maxRecDepth 100000 in
theorem askp_any {w : World} {b : Nat} {L : List Value} (h : w.heap[b]? = some (.cells L.toArray 91)) (r : Reads7 L) :
    Calls Try.prog 29 #[.pointer (some ⟨b, 0, none⟩)] w fun e w' => AskP w b e w' := by
  have H := hide h
  have R := hide r
  clear h r
  go_enter Try.func29, Try.ntmps29
  go_wp2_with (go_at_call 40; refine (ask_init (unhide H) (unhide R).hl (unhide R).l0 (unhide R).l1 (unhide R).l2 (unhide R).l3 (unhide R).l6 (unhide R).l13 (unhide R).l76 (by kernel_rfl) (by intro v hv; simp only [List.mem_cons, List.not_mem_nil, or_false] at hv; rcases hv with rfl | rfl | rfl | rfl | rfl | rfl | rfl | rfl | rfl | rfl | rfl | rfl | rfl | rfl | rfl | rfl | rfl | rfl | rfl | rfl | rfl | rfl | rfl | rfl | rfl | rfl | rfl | rfl | rfl | rfl | rfl | rfl | rfl | rfl | rfl | rfl | rfl | rfl | rfl | rfl | rfl | rfl | rfl | rfl | rfl | rfl | rfl | rfl | rfl | rfl | rfl | rfl | rfl | rfl | rfl | rfl | rfl | rfl | rfl <;> rfl) rfl (by kernel_rfl)).mono ?_; rintro e w2 ⟨g, M, rfl, hg, hh, m0, m1, m2, ht⟩)
  have FF : Hid (AskP w b (.returned (.slice (some ⟨g, 0, none⟩) 1 1)) w2) := hide ⟨g, M, rfl, hg, hh, m0, m1, m2, ht⟩
  clear hg hh m0 m1 m2 ht H R
  go_wp2
  go_returns
  exact unhide FF

def AddP (w : World) (b : Nat) (e : Ending) (w' : World) : Prop := ∃ g M, e = .returned (.tuple #[.slice (some ⟨g, 0, none⟩) 1 1, .bool true]) ∧ w.heap.size ≤ g ∧ w'.heap[g]? = some (.cells (M : List Value).toArray 65) ∧ M[0]? = some (.int .i64 7) ∧ M[1]? = some (.int .i64 1) ∧ M[2]? = some (.int .i64 0) ∧ Touch (· = b) w w'
set_option maxRecDepth 100000 in
theorem add_first {w : World} {b : Nat} {L : List Value} (k : Int) (h : w.heap[b]? = some (.cells L.toArray 91)) (r : Reads7 L) :
    Calls Try.prog 54 #[.pointer (some ⟨b, 0, none⟩), .int .i64 k] w fun e w' => AddP w b e w' := by
  have K := hide (askp_any h r)
  have y81 : w.cell? ⟨b, 81, none⟩ = some (.bool false) := (cell_of h 81).trans (by simpa using r.l81)
  clear h r
  go_enter Try.func54, Try.ntmps54
  go_wp2_with fail
  refine (unhide K).mono ?_
  rintro e w2 ⟨g, M, rfl, hg, hh, m0, m1, m2, ht⟩
  have FF : Hid (AddP w b (.returned (.tuple #[.slice (some ⟨g, 0, none⟩) 1 1, .bool true])) w2) := hide ⟨g, M, rfl, hg, hh, m0, m1, m2, ht⟩
  clear hg hh m0 m1 m2 ht K y81
  go_wp2
  go_returns
  exact unhide FF
theorem res_op {Y : World} {g : Nat} {l : List Value} {tmps : Array Value} (h : Y.heap[g]? = some (.cells l.toArray 36)) (hl : l.length = 5) (ht : tmps[2]?.getD undef = .pointer (some ⟨g, 0, none⟩)) :
    (results Try.f32 tmps).run Try.prog Y = .ok (.agg l.toArray) Y := by
  have hi : (Try.prog.info? 36).map (·.size) = some l.length := by rw [hl]; kernel_rfl
  have hlv := run_loadVar_mid (P := Try.prog) Y g 0 36 l _ (range_of h (fun j v hv => by rw [Nat.zero_add]; exact hv)) Try.underlying36 rfl hi
  simp [results, Try.results32, ht, asAddr, hlv]
set_option maxRecDepth 100000 in
set_option maxHeartbeats 4000000 in
theorem op_at {w : World} {b : Nat} {c : Cl} {p : Po} {j : Nat} (h : ClAt w b c) (hj : c.os[j]? = some p) (hp : c.pl = (j : Int)) :
    Calls Try.prog 32 #[.pointer (some ⟨b, 0, none⟩)] w fun e w' => e = .returned (.agg (cellsPo p).toArray) ∧ Below w.heap.size w w' := by
  obtain ⟨hlt, he⟩ := List.getElem?_eq_some_iff.1 hj
  have b0 := (Below.refl w.heap.size w).alloc (Nat.le_refl _) (.cells #[.int .i64 0, .int .i64 0, .int .i64 0, .int .i64 0, .string ByteArray.empty] 36)
  obtain ⟨gb, off, ea, hgb, hcell⟩ := RowsP.of_wide (f := cellsPo) (m := 5) (fun _ => rfl) (h.ops.later b0) (by decide) j hlt
  have y5 : (w.alloc (.cells #[.int .i64 0, .int .i64 0, .int .i64 0, .int .i64 0, .string ByteArray.empty] 36)).cell? ⟨b, 5, none⟩ = some (.int .i64 j) := by rw [← hp]; exact cell_of (below_keep b0 h.cl) 5
  have y4 : (w.alloc (.cells #[.int .i64 0, .int .i64 0, .int .i64 0, .int .i64 0, .string ByteArray.empty] 36)).cell? ⟨b, 4, none⟩ = some (.slice c.oa c.os.length c.oc) := cell_of (below_keep b0 h.cl) 4
  rw [ea] at y4
  rw [he] at hcell
  have z0 := hcell 0 (by decide)
  have z1 := hcell 1 (by decide)
  have z2 := hcell 2 (by decide)
  have z3 := hcell 3 (by decide)
  have z4 := hcell 4 (by decide)
  rw [Nat.add_zero] at z0
  simp only [cellsPo, List.getElem?_cons_zero, List.getElem?_cons_succ] at z0 z1 z2 z3 z4
  have hb := lt_of_heap h.cl
  have HZ := hide (heap_new w (.cells #[.int .i64 0, .int .i64 0, .int .i64 0, .int .i64 0, .string ByteArray.empty] 36))
  have HB := hide b0
  have hjl : (j : Int) < (c.os.length : Int) := by omega
  have hj0 : ¬ (j : Int) < 0 := by omega
  clear hcell b0 h hj hp ea he
  unfold cellsPo
  go_enter Try.func32, Try.ntmps32
  go_upto_region 1 with fail
  change Code.wp _ _ _ _ (w.alloc (.cells #[.int .i64 0, .int .i64 0, .int .i64 0, .int .i64 0, .string ByteArray.empty] 36))
  generalize hW : w.alloc (.cells #[.int .i64 0, .int .i64 0, .int .i64 0, .int .i64 0, .string ByteArray.empty] 36) = W1 at *
  generalize hg : w.heap.size = g at *
  have f0 : W1.frozen? ⟨g, 0, none⟩ = false := frozen_of (unhide HZ) 0
  have f1 : W1.frozen? ⟨g, 1, none⟩ = false := frozen_of (unhide HZ) 1
  have f2 : W1.frozen? ⟨g, 2, none⟩ = false := frozen_of (unhide HZ) 2
  have f3 : W1.frozen? ⟨g, 3, none⟩ = false := frozen_of (unhide HZ) 3
  have f4 : W1.frozen? ⟨g, 4, none⟩ = false := frozen_of (unhide HZ) 4
  have x0 : W1.cell? ⟨g, 0, none⟩ = some (.int .i64 0) := cell_of (unhide HZ) 0
  have x1 : W1.cell? ⟨g, 1, none⟩ = some (.int .i64 0) := cell_of (unhide HZ) 1
  have x2 : W1.cell? ⟨g, 2, none⟩ = some (.int .i64 0) := cell_of (unhide HZ) 2
  have x3 : W1.cell? ⟨g, 3, none⟩ = some (.int .i64 0) := cell_of (unhide HZ) 3
  have x4 : W1.cell? ⟨g, 4, none⟩ = some (.string ByteArray.empty) := cell_of (unhide HZ) 4
  have HG := hide hg
  clear hW hg
  go_region
  have tt : Touch (· = g) W1 (((((W1.setCell ⟨g, 0, none⟩ (.int .i64 p.kd)).setCell ⟨g, 1, none⟩ (.int .i64 p.pt)).setCell ⟨g, 2, none⟩ (.int .i64 p.tt)).setCell ⟨g, 3, none⟩ (.int .i64 p.ct)).setCell ⟨g, 4, none⟩ (.string p.s)).drew := (((((touch_set _ _ _ _).trans (touch_set _ _ _ _)).trans (touch_set _ _ _ _)).trans (touch_set _ _ _ _)).trans (touch_set _ _ _ _)).drew
  have hx : ((((((W1.setCell ⟨g, 0, none⟩ (.int .i64 p.kd)).setCell ⟨g, 1, none⟩ (.int .i64 p.pt)).setCell ⟨g, 2, none⟩ (.int .i64 p.tt)).setCell ⟨g, 3, none⟩ (.int .i64 p.ct)).setCell ⟨g, 4, none⟩ (.string p.s)).drew).heap[g]? = some (.cells #[.int .i64 p.kd, .int .i64 p.pt, .int .i64 p.tt, .int .i64 p.ct, .string p.s] 36) := heap_set (heap_set (heap_set (heap_set (heap_set (unhide HZ) 0 _) 1 _) 2 _) 3 _) 4 _
  have hbl : Below w.heap.size w ((((((W1.setCell ⟨g, 0, none⟩ (.int .i64 p.kd)).setCell ⟨g, 1, none⟩ (.int .i64 p.pt)).setCell ⟨g, 2, none⟩ (.int .i64 p.tt)).setCell ⟨g, 3, none⟩ (.int .i64 p.ct)).setCell ⟨g, 4, none⟩ (.string p.s)).drew) := by rw [unhide HG]; exact below_touch (unhide HB) tt (Nat.le_of_lt (lt_of_heap (unhide HZ))) (fun k hk => by omega)
  have HBL := hide hbl
  have HX := hide hx
  clear tt hx hbl y5 y4 z0 z1 z2 z3 z4 f0 f1 f2 f3 f4 x0 x1 x2 x3 x4 HZ HB HG
  generalize ((((((W1.setCell ⟨g, 0, none⟩ (.int .i64 p.kd)).setCell ⟨g, 1, none⟩ (.int .i64 p.pt)).setCell ⟨g, 2, none⟩ (.int .i64 p.tt)).setCell ⟨g, 3, none⟩ (.int .i64 p.ct)).setCell ⟨g, 4, none⟩ (.string p.s)).drew) = w2 at *
  go_wp2
  refine bodyPost_ret (res_op (l := cellsPo p) (unhide HX) rfl rfl) rfl ?_
  exact ⟨rfl, unhide HBL⟩
set_option maxRecDepth 100000 in
set_option maxHeartbeats 4000000 in
theorem send_first {w : World} {b : Nat} {c : Cl} {p : Po} {j : Nat} (h : ClAt w b c) (r : Reads7 (clL c)) (hj : c.os[j]? = some p) (hp : c.pl = (j : Int)) :
    Calls Try.prog 43 #[.pointer (some ⟨b, 0, none⟩)] w fun e w' => AskP w b e w' := by
  have K := hide (op_at h hj hp)
  have HC := hide h.cl
  have R := hide r
  clear h r hj hp
  go_enter Try.func43, Try.ntmps43
  go_wp2_with fail
  refine (unhide K).mono ?_
  rintro e w2 ⟨rfl, b2⟩
  unfold cellsPo
  have B2 := hide b2
  have H2 := hide (below_keep b2 (unhide HC))
  clear b2 HC K
  go_upto_region 2 with fail
  have HO := hide (heap_new w2 (.cells #[.int .i64 p.kd, .int .i64 p.pt, .int .i64 p.tt, .int .i64 p.ct, .string p.s] 36))
  have H3 := hide (heap_old (.cells #[.int .i64 p.kd, .int .i64 p.pt, .int .i64 p.tt, .int .i64 p.ct, .string p.s] 36) (unhide H2))
  have B3 := hide ((unhide B2).alloc (unhide B2).size (.cells #[.int .i64 p.kd, .int .i64 p.pt, .int .i64 p.tt, .int .i64 p.ct, .string p.s] 36))
  change Code.wp _ _ _ _ (w2.alloc (.cells #[.int .i64 p.kd, .int .i64 p.pt, .int .i64 p.tt, .int .i64 p.ct, .string p.s] 36))
  generalize w2.alloc (.cells #[.int .i64 p.kd, .int .i64 p.pt, .int .i64 p.tt, .int .i64 p.ct, .string p.s] 36) = w3 at *
  generalize w2.heap.size = g at *
  have x1 : w3.cell? ⟨g, 1, none⟩ = some (.int .i64 p.pt) := cell_of (unhide HO) 1
  have KA := hide (add_first p.pt (unhide H3) (unhide R))
  clear HO H3 H2 B2 R
  go_wp2_with fail
  refine (unhide KA).mono ?_
  rintro e w4 ⟨x, M, rfl, hx, hh, m0, m1, m2, ht⟩
  have FF : Hid (AskP w b (.returned (.slice (some ⟨x, 0, none⟩) 1 1)) w4) := hide ⟨x, M, rfl, Nat.le_trans (unhide B3).size hx, hh, m0, m1, m2, (Touch.of_below (unhide B3)).trans ht⟩
  clear hx hh m0 m1 m2 ht KA B3 x1
  go_wp2
  go_returns
  exact unhide FF
/-- A client with one value to send. -/
structure First (c : Cl) (p : Po) : Prop where
  n : c.n = 0
  nd : c.nd = 1
  pt : c.pt = 1
  g : c.g = 0
  ic : c.ic = 0
  pl : c.pl = 0
  en : c.en = false
  os : c.os = [p]
  kd : p.kd = 1
theorem First.reads {c : Cl} {p : Po} (h : First c p) : Reads7 (clL c) := by
  refine ⟨clL_len c, ?_, ?_, ?_, ?_, ?_, ?_, ?_, ?_⟩
  · show some (Value.int IntKind.i64 c.n) = _
    rw [h.n]
  · show some (Value.int IntKind.i64 c.nd) = _
    rw [h.nd]
  · show some (Value.int IntKind.i64 c.pt) = _
    rw [h.pt]
  · show some (Value.int IntKind.i64 c.g) = _
    rw [h.g]
  · show some (Value.int IntKind.i64 c.ic) = _
    rw [h.ic]
  · kernel_rfl
  · kernel_rfl
  · kernel_rfl
set_option maxRecDepth 100000 in
set_option maxHeartbeats 4000000 in
theorem step_first {w : World} {b : Nat} {c : Cl} {p : Po} (h : ClAt w b c) (q : First c p) :
    Calls Try.prog 19 #[.pointer (some ⟨b, 0, none⟩)] w fun e w' => AskP w b e w' := by
  have hos : c.os[0]? = some p := by rw [q.os]; rfl
  have KO : Hid (∀ W, Below w.heap.size w W → Calls Try.prog 32 #[.pointer (some ⟨b, 0, none⟩)] W fun e w' => e = .returned (.agg (cellsPo p).toArray) ∧ Below W.heap.size W w') := hide (fun W hb => op_at (h.keep (Touch.of_below hb)) hos q.pl)
  have KS : Hid (∀ W, Below w.heap.size w W → Calls Try.prog 43 #[.pointer (some ⟨b, 0, none⟩)] W fun e w' => AskP W b e w') := hide (fun W hb => send_first (h.keep (Touch.of_below hb)) q.reads hos q.pl)
  have y7 : w.cell? ⟨b, 7, none⟩ = some (.bool false) := cell_of h.cl 7
  have y5 : w.cell? ⟨b, 5, none⟩ = some (.int .i64 0) := by rw [← q.pl]; exact cell_of h.cl 5
  have y4 : w.cell? ⟨b, 4, none⟩ = some (.slice c.oa 1 c.oc) := (cell_of h.cl 4).trans (by show some (Value.slice c.oa c.os.length c.oc) = _; rw [q.os]; rfl)
  have KD : Hid (∀ W, Calls Try.prog 31 #[] W fun e w' => DeP W e w') := hide deeds_any
  have HK := hide q.kd
  clear h q hos
  go_enter Try.func19, Try.ntmps19
  go_wp2_with fail
  go_quiet (fail)
  have B := hide (below_drewN6 (Below.refl w.heap.size w) nq)
  generalize w.drewN nq = w2 at *
  clear y7 y5 y4
  go_wp2_with fail
  refine (unhide KD _).mono ?_
  rintro e w3 ⟨rfl, hm, hb, hlt⟩
  have HM := hide hm
  have B3 := hide ((unhide B).trans (Below.mono hb (unhide B).size))
  have KO3 := hide (unhide KO _ (unhide B3))
  have HLT := hide hlt
  clear hm hb hlt B KO KD
  generalize w2.heap.size = mb at *
  go_wp2_with fail
  refine (unhide KO3).mono ?_
  rintro e w4 ⟨rfl, b4⟩
  unfold cellsPo
  rw [unhide HK]
  have HM4 : w4.heap[mb]? = some (.map deedE 5) := below_keep b4 (unhide HM)
  have lk := run_look HM4 1 0 (.func (.func 43) #[] #[]) (by kernel_rfl)
  have B4 := hide ((unhide B3).trans (Below.mono b4 (unhide B3).size))
  have KS4 := hide (unhide KS _ (unhide B4))
  have hfl : ∀ W : World, (Instr.field 36 (.agg #[.int .i64 1, .int .i64 p.pt, .int .i64 p.tt, .int .i64 p.ct, .string p.s]) 0).run Try.prog W = .ok (.int .i64 1) W := fun W => by kernel_rfl
  clear HM HM4 b4 B3 KO3 KS HLT HK
  go_wp2_with fail
  refine (unhide KS4).mono ?_
  rintro e w5 ⟨x, M, rfl, hx, hh, m0, m1, m2, ht⟩
  have FF : Hid (AskP w b (.returned (.slice (some ⟨x, 0, none⟩) 1 1)) w5) := hide ⟨x, M, rfl, Nat.le_trans (unhide B4).size hx, hh, m0, m1, m2, (Touch.of_below (unhide B4)).trans ht⟩
  clear hx hh m0 m1 m2 ht KS4 B4 lk hfl
  go_wp2
  go_returns
  exact unhide FF
set_option maxRecDepth 100000 in
theorem tick_first {w : World} {b : Nat} {c : Cl} {p : Po} (h : ClAt w b c) (q : First c p) :
    Calls Try.prog 11 #[.pointer (some ⟨b, 0, none⟩)] w fun e w' => AskP w b e w' := by
  have KS := hide (step_first h q)
  have KW := hide (waits_no h.cl)
  have y12 : w.cell? ⟨b, 12, none⟩ = some (.bool false) := by have := cell_of h.cl 12; rw [← q.en]; exact this
  clear h q
  go_enter Try.func11, Try.ntmps11
  go_wp2_with fail
  refine (unhide KW).mono ?_
  rintro e w2 ⟨rfl, rfl⟩
  clear y12 KW
  go_wp2_with fail
  refine (unhide KS).mono ?_
  rintro e w3 ⟨x, M, rfl, hx, hh, m0, m1, m2, ht⟩
  have FF : Hid (AskP w2 b (.returned (.slice (some ⟨x, 0, none⟩) 1 1)) w3) := hide ⟨x, M, rfl, hx, hh, m0, m1, m2, ht⟩
  clear hx hh m0 m1 m2 ht KS
  go_wp2
  go_returns
  exact unhide FF
end Go.Proofs.Ytbonlonkienhaaa
