/-
  The road of ClientNone. Conditions: none.
-/
import Derived.Test.YtbonlonkienhaaaCs12
namespace Go.Proofs.Ytbonlonkienhaaa
open Go.RowKit
set_option linter.unusedVariables false

theorem cagain_nil (w : World) : Calls Try.prog 14 #[.pointer none] w fun e w' => e = .returned (.tuple #[]) ∧ w' = w := by
  go_enter Try.func14, Try.ntmps14
  go_wp2
  go_returns
  exact ⟨rfl, rfl⟩
theorem cstate_nil (w : World) : Calls Try.prog 13 #[.pointer none] w fun e w' => e = .returned (.tuple #[.int .i64 0, .int .i64 0, .bool false]) ∧ w' = w := by
  go_enter Try.func13, Try.ntmps13
  go_wp2
  go_returns
  exact ⟨rfl, rfl⟩
theorem ctick_nil (w : World) : Calls Try.prog 11 #[.pointer none] w fun e w' => e = .returned (.slice none 0 0) ∧ w' = w := by
  go_enter Try.func11, Try.ntmps11
  go_wp2
  go_ret
  exact ⟨rfl, rfl⟩
theorem ctrace_nil (w : World) : Calls Try.prog 12 #[.pointer none] w fun e w' => e = .returned (.slice none 0 0) ∧ w' = w := by
  go_enter Try.func12, Try.ntmps12
  go_wp2
  go_ret
  exact ⟨rfl, rfl⟩
theorem chandle_nil (w : World) (M : List Value) : Calls Try.prog 15 #[.pointer none, .agg M.toArray] w fun e w' => e = .returned (.slice none 0 0) ∧ Below w.heap.size w w' := by
  have B := hide ((Below.refl w.heap.size w).alloc (Nat.le_refl _) (.cells M.toArray 65))
  go_enter Try.func15, Try.ntmps15
  go_wp2
  go_returns
  exact ⟨rfl, unhide B⟩
/-- A load that hangs on what was found. -/
theorem wpList_load_guard {ops : Array Oper} {rest : List Oper} {op : Oper} {a : Act} {w : World} {Q : Exit → Act → World → Prop} (hw : Region.wanted op (yielded ops a.tmps) = true) (ty : TypeId) (x : Operand) (ho : op.op = .load ty x)
    (b o : Nat) (hx : a.eval x = .pointer (some ⟨b, o, none⟩)) (cs : List Value) (d : TypeDesc) (hc : w.rangeAt b o cs)
    (hu : Try.prog.underlying ty = some d) (hd : d.isRow = true) (hi : (Try.prog.info? ty).map (·.size) = some cs.length)
    (h : wpList Try.prog ops Q rest (a.put op.dst (.agg cs.toArray)) w) : wpList Try.prog ops Q (op :: rest) a w :=
  wpList_step fun K hK => by
    rw [if_pos hw]
    exact wp_load_mid ty x ho b o hx cs d hc hu hd hi (hK _ _ h)
set_option maxRecDepth 100000 in
set_option maxHeartbeats 4000000 in
theorem clientNone_walk (w : World) (M : List Value) (hm : M.length = 59) : Calls Try.prog 5 #[.agg M.toArray] w fun e w' => e = .returned (.bool true) ∧ Below w.heap.size w w' := by
  have HM := hide hm
  have HI : Hid ((Try.prog.info? 65).map (·.size) = some M.length) := hide (by rw [hm]; exact info_ms)
  have b0 := (Below.refl w.heap.size w).alloc (Nat.le_refl _) (.cells M.toArray 65)
  have B0 := hide b0
  have H0 := hide (heap_new w (.cells M.toArray 65))
  have KA := hide (awake19 (w.alloc (.cells M.toArray 65)))
  clear b0 hm
  go_enter Try.func5, Try.ntmps5
  go_upto_region 1 with fail
  change Code.wp _ _ _ _ (w.alloc (.cells M.toArray 65))
  generalize w.alloc (.cells M.toArray 65) = w1 at *
  generalize hg : w.heap.size = g at *
  have HG := hide hg
  clear hg
  go_wp2_with fail
  refine (cagain_nil _).mono ?_
  rintro e w2 ⟨rfl, rfl⟩
  go_wp2_with fail
  refine (cstate_nil _).mono ?_
  rintro e w3 ⟨rfl, rfl⟩
  go_wp2_with fail
  refine (unhide KA).mono ?_
  rintro e w4 ⟨rfl, b4⟩
  have R4 : Hid (w4.rangeAt g 0 M) := hide (range_of (below_keep b4 (unhide H0)) (fun j v hj => by rw [Nat.zero_add]; exact hj))
  have B4 := hide ((unhide B0).trans (Below.mono b4 (by have := lt_of_heap (unhide H0); omega)))
  clear b4 B0 H0 KA
  go_wp2_with fail
  refine (ctick_nil _).mono ?_
  rintro e w5 ⟨rfl, rfl⟩
  go_wp2_with (with_reducible (show wpList _ _ _ (Oper.mk _ (Op.load 65 _) _ _ _ _ :: _) _ _); refine wpList_load_guard rfl 65 _ rfl g 0 rfl M _ (unhide R4) Try.underlying65 rfl (unhide HI) ?_)
  refine (chandle_nil _ M).mono ?_
  rintro e w6 ⟨rfl, b6⟩
  have B6 := hide ((unhide B4).trans (Below.mono b6 (by have := (unhide B4).size; have := unhide HG; omega)))
  clear b6 B4 R4
  go_wp2_with fail
  refine (ctrace_nil _).mono ?_
  rintro e w7 ⟨rfl, rfl⟩
  have FF : Hid (Below w.heap.size w w7) := hide (by rw [unhide HG]; exact unhide B6)
  clear B6 HG
  go_wp2
  go_returns
  exact ⟨rfl, unhide FF⟩
end Go.Proofs.Ytbonlonkienhaaa
