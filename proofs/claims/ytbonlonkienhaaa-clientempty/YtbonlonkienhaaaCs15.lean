/-
  A client ends a transaction that isn't open: that is seen, and it goes on. Conditions: the client as it lies.
-/
import Derived.Test.YtbonlonkienhaaaCs12
namespace Go.Proofs.Ytbonlonkienhaaa
open Go.RowKit
set_option linter.unusedVariables false

/-- An operation that ends a transaction. -/
def pE (q : Bool) : Po := ⟨if q = true then 2 else 3, 0, 0, 0, ByteArray.empty⟩
def rd0 : List Value := [.bool false, .int .i64 0, .slice none 0 0, .bool false, .int .i64 0, .int .i64 0, .bool false, .int .i64 0, .int .i64 0, .bool false, .int .i64 0, .int .i64 0, .bool false, .int .i64 0, .int .i64 0, .slice none 0 0, .bool false, .bool false, .bool false]
def tx0 : List Value := [.bool false, .int .u64 0, .int .i64 0, .int .i64 0]
theorem lay_rd (c : Cl) : lay (clL c).toArray 94 rd0 = (clL c).toArray := by kernel_rfl
theorem lay_tx (c : Cl) : lay (clL c).toArray 7 tx0 = (clL c).toArray := by kernel_rfl
theorem set_pl (c : Cl) (x : Int) : (clL c).toArray.setIfInBounds 5 (.int .i64 x) = (clL { c with pl := x }).toArray := by kernel_rfl
theorem rd_one : rd0.toArray.all (·.oneCell') = true := by simp [rd0, Value.oneCell']
theorem tx_one : tx0.toArray.all (·.oneCell') = true := by simp [tx0, Value.oneCell']
theorem info_rd : (Try.prog.info? 87).map (·.size) = some 19 := by kernel_rfl
theorem info_tx : (Try.prog.info? 72).map (·.size) = some 4 := by kernel_rfl
/-- The client's block was written alone, and still holds such a client. -/
theorem ClAt.upon {w w' : World} {b : Nat} {c d : Cl} (h : ClAt w b c) (t : Touch (· = b) w w') (hd : w'.heap[b]? = some (.cells (clL d).toArray 91)) (e1 : d.oa = c.oa) (e2 : d.oc = c.oc) (e3 : d.os = c.os) (e4 : d.ta = c.ta) (e5 : d.tc = c.tc) (e6 : d.tr = c.tr) : ClAt w' b d := by
  refine ⟨hd, ?_, ?_⟩
  · rw [e1, e2, e3]
    exact h.ops.keep t (fun k hk e => by
      subst e
      obtain ⟨cs, h1⟩ := h.ops.heap hk
      rw [h.cl] at h1
      exact absurd (Obj.cells.inj (Option.some.inj h1)).2.1 (by decide))
  · rw [e4, e5, e6]
    exact h.tr.keep t (fun k hk e => by
      subst e
      obtain ⟨cs, h1⟩ := h.tr.heap hk
      rw [h.cl] at h1
      exact absurd (Obj.cells.inj (Option.some.inj h1)).2.1 (by decide))
theorem commits_any {w : World} {b : Nat} {c : Cl} {j : Nat} (q : Bool) (h : ClAt w b c) (hj : c.os[j]? = some (pE q)) (hp : c.pl = (j : Int)) :
    Calls Try.prog 52 #[.pointer (some ⟨b, 0, none⟩)] w fun e w' => e = .returned (.bool q) ∧ Below w.heap.size w w' := by
  have K := hide (op_at h hj hp)
  clear h hj hp
  cases q
  all_goals
    unfold pE at K
    unfold cellsPo at K
    simp only [Bool.false_eq_true, if_false, if_true] at K
    go_enter Try.func52, Try.ntmps52
    go_wp2_with fail
    refine (unhide K).mono ?_
    rintro e w2 ⟨rfl, b2⟩
    have B := hide b2
    clear b2 K
  · have hfl : ∀ W : World, (Instr.field 36 (.agg #[.int .i64 3, .int .i64 0, .int .i64 0, .int .i64 0, .string ByteArray.empty]) 0).run Try.prog W = .ok (.int .i64 3) W := fun W => by kernel_rfl
    go_wp2
    go_ret
    exact ⟨rfl, unhide B⟩
  · have hfl : ∀ W : World, (Instr.field 36 (.agg #[.int .i64 2, .int .i64 0, .int .i64 0, .int .i64 0, .string ByteArray.empty]) 0).run Try.prog W = .ok (.int .i64 2) W := fun W => by kernel_rfl
    go_wp2
    go_ret
    exact ⟨rfl, unhide B⟩
def NxP (w : World) (b : Nat) (c : Cl) (e : Ending) (w' : World) : Prop := e = .returned (.tuple #[]) ∧ ClAt w' b { c with pl := c.pl + 1 } ∧ Touch (· = b) w w'
set_option maxRecDepth 100000 in
set_option maxHeartbeats 4000000 in
theorem next_any {w : World} {b : Nat} {c : Cl} (h : ClAt w b c) (h0 : 0 ≤ c.pl) (h1 : c.pl ≤ 4096) :
    Calls Try.prog 61 #[.pointer (some ⟨b, 0, none⟩)] w fun e w' => NxP w b c e w' := by
  have y5 : w.cell? ⟨b, 5, none⟩ = some (.int .i64 c.pl) := cell_of h.cl 5
  have f5 : w.frozen? ⟨b, 5, none⟩ = false := frozen_of h.cl 5
  have H := hide h
  clear h
  go_enter Try.func61, Try.ntmps61
  go_upto_region 1 with fail
  have T1 := hide (touch_set w b 5 (.int .i64 (c.pl + 1)))
  have H1 : Hid ((w.setCell ⟨b, 5, none⟩ (.int .i64 (c.pl + 1))).heap[b]? = some (.cells (clL { c with pl := c.pl + 1 }).toArray 91)) := hide ((heap_set (unhide H).cl 5 _).trans (by rw [set_pl]))
  clear y5 f5
  generalize w.setCell ⟨b, 5, none⟩ (.int .i64 (c.pl + 1)) = w1 at *
  obtain ⟨D, hD⟩ : ∃ D, D = rd0 := ⟨_, rfl⟩
  have HD := hide hD
  have HDI : Hid ((Try.prog.info? 87).map (·.size) = some D.length) := hide (by rw [hD]; exact info_rd)
  have HD1 : Hid (D.toArray.all (·.oneCell') = true) := hide (by rw [hD]; exact rd_one)
  obtain ⟨LC, hLC⟩ : ∃ LC, LC = clL { c with pl := c.pl + 1 } := ⟨_, rfl⟩
  have HLY : Hid (lay LC.toArray 94 D = LC.toArray) := hide (by rw [hLC, hD]; exact lay_rd _)
  have HFit : Hid (94 + D.length ≤ LC.toArray.size) := hide (by rw [hLC, hD, List.size_toArray, clL_len]; decide)
  have H2 : Hid (w1.heap[b]? = some (.cells LC.toArray 91)) := hide (by rw [hLC]; exact unhide H1)
  have HLC := hide hLC
  clear hD hLC H1
  go_wp2_with (with_reducible (show wpList _ _ _ (Oper.mk _ (Op.store _ _ _) _ _ _ _ :: _) _ _); refine store_part 87 91 rfl _ _ rfl b 94 D rfl (by rw [unhide HD]; kernel_rfl) LC (unhide H2) (unhide HFit) (unhide HDI) (unhide HD1) (unhide HLY) ?_; rintro w2 q1 q2; have Q1 := hide q1; have Q2 := hide q2; clear q1 q2)
  have FF : Hid (NxP w b c (.returned (.tuple #[])) w2) := by
    have t := (unhide T1).trans (unhide Q2)
    have hq := unhide Q1
    rw [unhide HLC] at hq
    exact hide ⟨rfl, (unhide H).upon t hq rfl rfl rfl rfl rfl rfl, t⟩
  clear T1 H H2 HD HDI HD1 HLY HFit HLC Q1 Q2
  go_returns
  exact unhide FF
def goC (c : Cl) (q : Bool) (a : Option Addr) (k : Nat) : Cl := { seenC c ⟨if q = true then 2 else 3, c.n, c.pl, 0, 0, ByteArray.empty, 0⟩ a k with pl := c.pl + 1 }
def SnP (w : World) (b : Nat) (c : Cl) (q : Bool) (e : Ending) (w' : World) : Prop := e = .returned (.tuple #[]) ∧ ∃ a k, ClAt w' b (goC c q a k) ∧ Touch (Mine b c) w w' ∧ Moved w (trV c) (trV (goC c q a k))
set_option maxRecDepth 100000 in
set_option maxHeartbeats 4000000 in
theorem seeEnd_any {w : World} {b : Nat} {c : Cl} {j : Nat} (q : Bool) (h : ClAt w b c) (hj : c.os[j]? = some (pE q)) (hp : c.pl = (j : Int)) (hl : c.tr.length ≤ 4096) (hjb : j ≤ 4095) :
    Calls Try.prog 53 #[.pointer (some ⟨b, 0, none⟩)] w fun e w' => SnP w b c q e w' := by
  have K := hide (commits_any q h hj hp)
  have KS : Hid (∀ W, Below w.heap.size w W → Calls Try.prog 42 #[.pointer (some ⟨b, 0, none⟩), .agg #[.int .i64 (if q = true then 2 else 3), .int .i64 0, .int .i64 0, .int .i64 0, .int .i64 0, .string ByteArray.empty, .int .i64 0]] W fun e w' => SeP W b c ⟨if q = true then 2 else 3, c.n, c.pl, 0, 0, ByteArray.empty, 0⟩ e w') := hide (fun W hb => see_any (h.keep (Touch.of_below hb)) ⟨if q = true then 2 else 3, 0, 0, 0, 0, ByteArray.empty, 0⟩ hl)
  have HP0 : Hid (0 ≤ c.pl ∧ c.pl ≤ 4096) := hide (by omega)
  clear h hj hp hl hjb
  go_enter Try.func53, Try.ntmps53
  go_wp2_with fail
  refine (unhide K).mono ?_
  rintro e w2 ⟨rfl, b2⟩
  have KS2 := hide (unhide KS _ b2)
  have B2 := hide b2
  clear b2 K KS
  obtain ⟨D, hD⟩ : ∃ D, D = tx0 := ⟨_, rfl⟩
  have HD := hide hD
  have HDI : Hid ((Try.prog.info? 72).map (·.size) = some D.length) := hide (by rw [hD]; exact info_tx)
  have HD1 : Hid (D.toArray.all (·.oneCell') = true) := hide (by rw [hD]; exact tx_one)
  clear hD
  cases q
  · simp only [Bool.false_eq_true, if_false] at KS2
    go_wp2_with fail
    refine (unhide KS2).mono ?_
    rintro e w3 ⟨rfl, a, k, h3, t3, m3⟩
    have H3 := hide h3
    have T3 := hide ((Touch.of_below (unhide B2)).trans t3)
    have M3 : Hid (∀ q, (trV (seenC c ⟨3, c.n, c.pl, 0, 0, ByteArray.empty, 0⟩ a k)).ownBlock = some q → (trV c).ownBlock = some q ∨ w.heap.size ≤ q) := hide (fun q hq => (m3 q hq).imp id (fun h => Nat.le_trans (unhide B2).size h))
    clear h3 t3 m3 KS2 B2
    go_upto_region 4 with fail
    obtain ⟨c3, hc3⟩ : ∃ c3, c3 = seenC c ⟨3, c.n, c.pl, 0, 0, ByteArray.empty, 0⟩ a k := ⟨_, rfl⟩
    rw [← hc3] at H3 M3
    have HC3 := hide hc3
    obtain ⟨LC, hLC⟩ : ∃ LC, LC = clL c3 := ⟨_, rfl⟩
    have HLY : Hid (lay LC.toArray 7 D = LC.toArray) := hide (by rw [hLC, unhide HD]; exact lay_tx _)
    have HFit : Hid (7 + D.length ≤ LC.toArray.size) := hide (by rw [hLC, unhide HD, List.size_toArray, clL_len]; decide)
    have H4 : Hid (w3.heap[b]? = some (.cells LC.toArray 91)) := hide (by rw [hLC]; exact (unhide H3).cl)
    have HLC := hide hLC
    clear hc3 hLC
    go_wp2_with (with_reducible (show wpList _ _ _ (Oper.mk _ (Op.store _ _ _) _ _ _ _ :: _) _ _); refine store_part 72 91 rfl _ _ rfl b 7 D rfl (by rw [unhide HD]; kernel_rfl) LC (unhide H4) (unhide HFit) (unhide HDI) (unhide HD1) (unhide HLY) ?_; rintro w5 q1 q2; have Q1 := hide q1; have Q2 := hide q2; clear q1 q2)
    have H5 := (unhide H3).upon (unhide Q2) (by have := unhide Q1; rw [unhide HLC] at this; exact this) rfl rfl rfl rfl rfl rfl
    have KN := hide (next_any H5 (by rw [unhide HC3]; exact (unhide HP0).1) (by rw [unhide HC3]; exact (unhide HP0).2))
    have T5 := hide ((unhide T3).trans ((unhide Q2).mono (fun q hq => .inl hq)))
    clear H5 H3 H4 T3 Q1 Q2 HLC HLY HFit HDI HD1 HD HP0
    refine (unhide KN).mono ?_
    rintro e w6 ⟨rfl, h6, t6⟩
    have FF : Hid (SnP w b c false (.returned (.tuple #[])) w6) := hide ⟨rfl, a, k, by rw [unhide HC3] at h6; exact h6, (unhide T5).trans (t6.mono (fun q hq => .inl hq)), fun q hq => unhide M3 q (by rw [unhide HC3]; exact hq)⟩
    clear h6 t6 KN T5 M3 HC3
    go_wp2
    go_returns
    exact unhide FF
  · simp only [if_true] at KS2
    go_wp2_with fail
    refine (unhide KS2).mono ?_
    rintro e w3 ⟨rfl, a, k, h3, t3, m3⟩
    have H3 := hide h3
    have T3 := hide ((Touch.of_below (unhide B2)).trans t3)
    have M3 : Hid (∀ q, (trV (seenC c ⟨2, c.n, c.pl, 0, 0, ByteArray.empty, 0⟩ a k)).ownBlock = some q → (trV c).ownBlock = some q ∨ w.heap.size ≤ q) := hide (fun q hq => (m3 q hq).imp id (fun h => Nat.le_trans (unhide B2).size h))
    clear h3 t3 m3 KS2 B2
    go_upto_region 4 with fail
    obtain ⟨c3, hc3⟩ : ∃ c3, c3 = seenC c ⟨2, c.n, c.pl, 0, 0, ByteArray.empty, 0⟩ a k := ⟨_, rfl⟩
    rw [← hc3] at H3 M3
    have HC3 := hide hc3
    obtain ⟨LC, hLC⟩ : ∃ LC, LC = clL c3 := ⟨_, rfl⟩
    have HLY : Hid (lay LC.toArray 7 D = LC.toArray) := hide (by rw [hLC, unhide HD]; exact lay_tx _)
    have HFit : Hid (7 + D.length ≤ LC.toArray.size) := hide (by rw [hLC, unhide HD, List.size_toArray, clL_len]; decide)
    have H4 : Hid (w3.heap[b]? = some (.cells LC.toArray 91)) := hide (by rw [hLC]; exact (unhide H3).cl)
    have HLC := hide hLC
    clear hc3 hLC
    go_wp2_with (with_reducible (show wpList _ _ _ (Oper.mk _ (Op.store _ _ _) _ _ _ _ :: _) _ _); refine store_part 72 91 rfl _ _ rfl b 7 D rfl (by rw [unhide HD]; kernel_rfl) LC (unhide H4) (unhide HFit) (unhide HDI) (unhide HD1) (unhide HLY) ?_; rintro w5 q1 q2; have Q1 := hide q1; have Q2 := hide q2; clear q1 q2)
    have H5 := (unhide H3).upon (unhide Q2) (by have := unhide Q1; rw [unhide HLC] at this; exact this) rfl rfl rfl rfl rfl rfl
    have KN := hide (next_any H5 (by rw [unhide HC3]; exact (unhide HP0).1) (by rw [unhide HC3]; exact (unhide HP0).2))
    have T5 := hide ((unhide T3).trans ((unhide Q2).mono (fun q hq => .inl hq)))
    clear H5 H3 H4 T3 Q1 Q2 HLC HLY HFit HDI HD1 HD HP0
    refine (unhide KN).mono ?_
    rintro e w6 ⟨rfl, h6, t6⟩
    have FF : Hid (SnP w b c true (.returned (.tuple #[])) w6) := hide ⟨rfl, a, k, by rw [unhide HC3] at h6; exact h6, (unhide T5).trans (t6.mono (fun q hq => .inl hq)), fun q hq => unhide M3 q (by rw [unhide HC3]; exact hq)⟩
    clear h6 t6 KN T5 M3 HC3
    go_wp2
    go_returns
    exact unhide FF
/-- What a Tick leaves that saw an end. -/
def TkP (w : World) (b : Nat) (c : Cl) (q : Bool) (e : Ending) (w' : World) : Prop := e = .returned (.slice none 0 0) ∧ ∃ a k, ClAt w' b (goC c q a k) ∧ Touch (Mine b c) w w' ∧ Moved w (trV c) (trV (goC c q a k))
set_option maxRecDepth 100000 in
theorem endTx_any {w : World} {b : Nat} {c : Cl} {j : Nat} (q : Bool) (h : ClAt w b c) (hj : c.os[j]? = some (pE q)) (hp : c.pl = (j : Int)) (hl : c.tr.length ≤ 4096) (hjb : j ≤ 4095) :
    Calls Try.prog 44 #[.pointer (some ⟨b, 0, none⟩)] w fun e w' => TkP w b c q e w' := by
  have K := hide (seeEnd_any q h hj hp hl hjb)
  have y7 : w.cell? ⟨b, 7, none⟩ = some (.bool false) := cell_of h.cl 7
  clear h hj hp hl hjb
  go_enter Try.func44, Try.ntmps44
  go_wp2_with fail
  refine (unhide K).mono ?_
  rintro e w2 ⟨rfl, a, k, h2, t2, m2⟩
  have FF : Hid (TkP w b c q (.returned (.slice none 0 0)) w2) := hide ⟨rfl, a, k, h2, t2, m2⟩
  clear h2 t2 m2 K y7
  go_wp2
  go_returns
  exact unhide FF
set_option maxRecDepth 100000 in
set_option maxHeartbeats 4000000 in
theorem step_sees {w : World} {b : Nat} {c : Cl} {j : Nat} (q : Bool) (h : ClAt w b c) (hj : c.os[j]? = some (pE q)) (hp : c.pl = (j : Int)) (hl : c.tr.length ≤ 4096) (hjb : j ≤ 4095) :
    Calls Try.prog 19 #[.pointer (some ⟨b, 0, none⟩)] w fun e w' => TkP w b c q e w' := by
  have hlt : j < c.os.length := (List.getElem?_eq_some_iff.1 hj).1
  have KO : Hid (∀ W, Below w.heap.size w W → Calls Try.prog 32 #[.pointer (some ⟨b, 0, none⟩)] W fun e w' => e = .returned (.agg (cellsPo (pE q)).toArray) ∧ Below W.heap.size W w') := hide (fun W hb => op_at (h.keep (Touch.of_below hb)) hj hp)
  have KS : Hid (∀ W, Below w.heap.size w W → Calls Try.prog 44 #[.pointer (some ⟨b, 0, none⟩)] W fun e w' => TkP W b c q e w') := hide (fun W hb => endTx_any q (h.keep (Touch.of_below hb)) hj hp hl hjb)
  have y7 : w.cell? ⟨b, 7, none⟩ = some (.bool false) := cell_of h.cl 7
  have y5 : w.cell? ⟨b, 5, none⟩ = some (.int .i64 c.pl) := cell_of h.cl 5
  have y4 : w.cell? ⟨b, 4, none⟩ = some (.slice c.oa c.os.length c.oc) := cell_of h.cl 4
  have KD : Hid (∀ W, Calls Try.prog 31 #[] W fun e w' => DeP W e w') := hide deeds_any
  have hpb : (c.pl == (c.os.length : Int)) = false := by
    rw [hp]
    exact beq_eq_false_iff_ne.2 (by omega)
  clear h hj hp hl hjb hlt
  go_enter Try.func19, Try.ntmps19
  go_wp2_with fail
  go_quiet (fail)
  have B := hide (below_drewN6 (Below.refl w.heap.size w) nq)
  generalize w.drewN nq = w2 at *
  clear y7 y5 y4
  go_wp2_with fail
  refine (unhide KD _).mono ?_
  rintro e w3 ⟨rfl, hm, hb, hlt⟩
  have HM := hide hm
  have B3 := hide ((unhide B).trans (Below.mono hb (unhide B).size))
  have KO3 := hide (unhide KO _ (unhide B3))
  have HLT := hide hlt
  clear hm hb hlt B KO KD hpb
  generalize w2.heap.size = mb at *
  go_wp2_with fail
  cases q
  · unfold pE at KO3
    unfold cellsPo at KO3
    simp only [Bool.false_eq_true, if_false] at KO3
    go_wp2_with fail
    refine (unhide KO3).mono ?_
    rintro e w4 ⟨rfl, b4⟩
    have HM4 : w4.heap[mb]? = some (.map deedE 5) := below_keep b4 (unhide HM)
    have lk := run_look HM4 3 2 (.func (.func 44) #[] #[]) (by kernel_rfl)
    have B4 := hide ((unhide B3).trans (Below.mono b4 (unhide B3).size))
    have KS4 := hide (unhide KS _ (unhide B4))
    have hfl : ∀ W : World, (Instr.field 36 (.agg #[.int .i64 3, .int .i64 0, .int .i64 0, .int .i64 0, .string ByteArray.empty]) 0).run Try.prog W = .ok (.int .i64 3) W := fun W => by kernel_rfl
    clear HM HM4 b4 B3 KO3 KS HLT
    go_wp2_with fail
    refine (unhide KS4).mono ?_
    rintro e w5 ⟨rfl, a, k, h5, t5, m5⟩
    have FF : Hid (TkP w b c false (.returned (.slice none 0 0)) w5) := hide ⟨rfl, a, k, h5, (Touch.of_below (unhide B4)).trans t5, fun q hq => (m5 q hq).imp id (fun h => Nat.le_trans (unhide B4).size h)⟩
    clear h5 t5 m5 KS4 B4 lk hfl
    go_wp2
    go_returns
    exact unhide FF
  · unfold pE at KO3
    unfold cellsPo at KO3
    simp only [if_true] at KO3
    go_wp2_with fail
    refine (unhide KO3).mono ?_
    rintro e w4 ⟨rfl, b4⟩
    have HM4 : w4.heap[mb]? = some (.map deedE 5) := below_keep b4 (unhide HM)
    have lk := run_look HM4 2 1 (.func (.func 44) #[] #[]) (by kernel_rfl)
    have B4 := hide ((unhide B3).trans (Below.mono b4 (unhide B3).size))
    have KS4 := hide (unhide KS _ (unhide B4))
    have hfl : ∀ W : World, (Instr.field 36 (.agg #[.int .i64 2, .int .i64 0, .int .i64 0, .int .i64 0, .string ByteArray.empty]) 0).run Try.prog W = .ok (.int .i64 2) W := fun W => by kernel_rfl
    clear HM HM4 b4 B3 KO3 KS HLT
    go_wp2_with fail
    refine (unhide KS4).mono ?_
    rintro e w5 ⟨rfl, a, k, h5, t5, m5⟩
    have FF : Hid (TkP w b c true (.returned (.slice none 0 0)) w5) := hide ⟨rfl, a, k, h5, (Touch.of_below (unhide B4)).trans t5, fun q hq => (m5 q hq).imp id (fun h => Nat.le_trans (unhide B4).size h)⟩
    clear h5 t5 m5 KS4 B4 lk hfl
    go_wp2
    go_returns
    exact unhide FF
set_option maxRecDepth 100000 in
theorem tick_sees {w : World} {b : Nat} {c : Cl} {j : Nat} (q : Bool) (h : ClAt w b c) (he : c.en = false) (hj : c.os[j]? = some (pE q)) (hp : c.pl = (j : Int)) (hl : c.tr.length ≤ 4096) (hjb : j ≤ 4095) :
    Calls Try.prog 11 #[.pointer (some ⟨b, 0, none⟩)] w fun e w' => TkP w b c q e w' := by
  have KS := hide (step_sees q h hj hp hl hjb)
  have KW := hide (waits_no h.cl)
  have y12 : w.cell? ⟨b, 12, none⟩ = some (.bool false) := by have := cell_of h.cl 12; rw [← he]; exact this
  clear h he hj hp hl hjb
  go_enter Try.func11, Try.ntmps11
  go_wp2_with fail
  refine (unhide KW).mono ?_
  rintro e w2 ⟨rfl, rfl⟩
  clear y12 KW
  go_wp2_with fail
  refine (unhide KS).mono ?_
  rintro e w3 ⟨rfl, a, k, h3, t3, m3⟩
  have FF : Hid (TkP w2 b c q (.returned (.slice none 0 0)) w3) := hide ⟨rfl, a, k, h3, t3, m3⟩
  clear h3 t3 m3 KS
  go_wp2
  go_returns
  exact unhide FF
set_option maxRecDepth 100000 in
/-- Tick of a client whose program has ended. -/
theorem tick_over {w : World} {b : Nat} {c : Cl} (h : w.heap[b]? = some (.cells (clL c).toArray 91)) (he : c.en = true) :
    Calls Try.prog 11 #[.pointer (some ⟨b, 0, none⟩)] w fun e w' => e = .returned (.slice none 0 0) ∧ w' = w := by
  have y12 : w.cell? ⟨b, 12, none⟩ = some (.bool true) := by have := cell_of h 12; rw [← he]; exact this
  clear h he
  go_enter Try.func11, Try.ntmps11
  go_wp2
  go_ret
  exact ⟨rfl, rfl⟩
set_option maxRecDepth 100000 in
theorem state_any {w : World} {b : Nat} {c : Cl} (h : w.heap[b]? = some (.cells (clL c).toArray 91)) :
    Calls Try.prog 13 #[.pointer (some ⟨b, 0, none⟩)] w fun e w' => e = .returned (.tuple #[.int .i64 c.pl, .int .i64 c.ic, .bool c.en]) ∧ Below w.heap.size w w' := by
  have y5 : w.cell? ⟨b, 5, none⟩ = some (.int .i64 c.pl) := cell_of h 5
  have y6 : w.cell? ⟨b, 6, none⟩ = some (.int .i64 c.ic) := cell_of h 6
  have y12 : w.cell? ⟨b, 12, none⟩ = some (.bool c.en) := cell_of h 12
  clear h
  go_enter Try.func13, Try.ntmps13
  go_wp2_with fail
  go_quiet (fail)
  have B := hide (below_drewN6 (Below.refl w.heap.size w) nq)
  generalize w.drewN nq = w2 at *
  clear y5 y6 y12
  go_wp2
  go_returns
  exact ⟨rfl, unhide B⟩
end Go.Proofs.Ytbonlonkienhaaa
