/-
  raft's Tick, State and Propose, of a node that is alone. Conditions: the log is one, of at most 2^42 - 128 entries.
-/
import Derived.Test.YtibjfekfkllnjaaRt7
namespace Go.Proofs.Ytibjfekfkllnjaa
open Go.RowKit Go.Maps
set_option linter.unusedVariables false
variable {sn : Value}

set_option maxRecDepth 100000 in
set_option maxHeartbeats 2000000 in
theorem count1 {w : World} {rb m : Nat} {T T1 vo le tk li nx mt co to : Int} {sv : Bool} {v : Value} {ps : List En} (hT : IntKind.i64.wrap (T + 1) = T1) (h : R1 sn w rb T vo v 1 le tk li (some m) nx mt co to sv) (L : EL 64 w v ps) (hn : ps.length ≤ 4398046510976) (hco : co ≤ ps.length) (hm : VM w m 0) :
    Calls Try.prog 49 #[.pointer (some ⟨rb, 0, none⟩), .int .i64 0] w fun e w' => GPost (fun k => k = rb ∨ v.ownBlock = some k ∨ k = m) w rb (ldC sn T1 0 tk li to ps.length) v ps (T1, []) e w' := by
  have x12 : w.cell? ⟨rb, 12, none⟩ = some (.map (some m)) := cell_of h 12
  obtain ⟨w1, hst, hm1, t1⟩ := hm.store
  have h1 : R1 sn w1 rb T vo v 1 le tk li (some m) nx mt co to sv := t1.keep h (Ne.symm (hm.not h))
  have L1 := L.keep t1 (fun k hk e => hm.notL L (by rw [← e]; exact hk))
  have y1 : w1.cell? ⟨rb, 1, none⟩ = some (.int .i64 1) := cell_of h1 1
  have y8 : w1.cell? ⟨rb, 8, none⟩ = some (.int .i64 1) := cell_of h1 8
  have y12 : w1.cell? ⟨rb, 12, none⟩ = some (.map (some m)) := cell_of h1 12
  have LE : Hid (∀ n, Calls Try.prog 62 #[.pointer (some ⟨rb, 0, none⟩)] (w1.drewN n) fun e w' => GPost (fun k => k = rb ∨ v.ownBlock = some k) (w1.drewN n) rb (ldC sn T1 0 tk li to ps.length) v ps (T1, []) e w') := fun n => stand1 (w := w1.drewN n) hT h1 (L1.keep ((Touch.refl (fun _ => False) w1).drewN n) (fun _ _ h => h)) hn hco
  have F : Hid (∀ n w2, GPost (fun k => k = rb ∨ v.ownBlock = some k) (w1.drewN n) rb (ldC sn T1 0 tk li to ps.length) v ps (T1, []) (.returned (.tuple #[])) w2 → GPost (fun k => k = rb ∨ v.ownBlock = some k ∨ k = m) w rb (ldC sn T1 0 tk li to ps.length) v ps (T1, []) (.returned (.tuple #[])) w2) := fun n w2 hw => by
    obtain ⟨_, m', v', p', a1, a2, a3, a4, a5⟩ := hw
    refine ⟨rfl, m', v', p', a1, a2, a3, ?_, fun k hk => (a5 k hk).imp id (fun e => Nat.le_trans t1.size e)⟩
    exact ((t1.mono (fun k hk => .inr (.inr hk))).drewN n).trans (a4.mono (fun k hk => hk.elim .inl (fun e => .inr (.inl e))))
  have hl2 : ∀ n ty, (Builtin.len_ #[74] ty #[.map (some m)]).run Try.prog (w1.drewN n) = .ok (.int .i64 1) (w1.drewN n) := fun n ty => (hm1.keep ((Touch.refl (fun _ => False) w1).drewN n) (fun h => h)).len ty
  clear h L hm h1 L1 hm1 t1 hT
  go_enter Try.func49, Try.ntmps49
  go_wp2_with fail
  go_quiet (fail)
  go_wp2_with fail
  refine (unhide LE _).mono ?_
  rintro e w2 ⟨rfl, rest⟩
  have FF := hide (unhide F _ w2 ⟨rfl, rest⟩)
  clear F LE rest
  go_wp2
  go_returns
  exact unhide FF
set_option maxRecDepth 100000 in
set_option maxHeartbeats 2000000 in
theorem askAhead1 {w : World} {rb : Nat} {T T1 vo ro le tk li nx mt co to : Int} {mo : Option Nat} {sv : Bool} {v : Value} {ps : List En} (hT : IntKind.i64.wrap (T + 1) = T1) (h : R1 sn w rb T vo v ro le tk li mo nx mt co to sv) (L : EL 64 w v ps) (hn : ps.length ≤ 4398046510976) (hco : co ≤ ps.length) :
    Calls Try.prog 34 #[.pointer (some ⟨rb, 0, none⟩)] w fun e w' => GPost (fun k => k = rb ∨ v.ownBlock = some k) w rb (ldC sn T1 0 tk li to ps.length) v ps (T1, []) e w' := by
  have hnot := L.not h (by decide) (by decide)
  have x2 : w.cell? ⟨rb, 2, none⟩ = some (.int .i64 T) := cell_of h 2
  have x8 : w.cell? ⟨rb, 8, none⟩ = some (.int .i64 ro) := cell_of h 8
  have f8 : w.frozen? ⟨rb, 8, none⟩ = false := frozen_of h 8
  have h1 : R1 sn (w.setCell ⟨rb, 8, none⟩ (.int .i64 1)) rb T vo v 1 le tk li mo nx mt co to sv := heap_set h 8 _
  have t1 : Touch (· = rb) w (w.setCell ⟨rb, 8, none⟩ (.int .i64 1)) := touch_set w rb 8 _
  have L1 := L.keep t1 (fun k hk e => hnot k hk e)
  have KK : Hid (Calls Try.prog 45 #[.pointer (some ⟨rb, 0, none⟩), .int .i64 1, .int .i64 T1] (w.setCell ⟨rb, 8, none⟩ (.int .i64 1)) fun e w' => GPost (fun k => k = rb ∨ v.ownBlock = some k) (w.setCell ⟨rb, 8, none⟩ (.int .i64 1)) rb (ldC sn T1 0 tk li to ps.length) v ps (T1, []) e w') := ask_of h1 L1 (fun w1 m a1 a2 a3 => count1 hT a1 a2 hn hco a3)
  have F : Hid (∀ w2, GPost (fun k => k = rb ∨ v.ownBlock = some k) (w.setCell ⟨rb, 8, none⟩ (.int .i64 1)) rb (ldC sn T1 0 tk li to ps.length) v ps (T1, []) (.returned (.tuple #[])) w2 → GPost (fun k => k = rb ∨ v.ownBlock = some k) w rb (ldC sn T1 0 tk li to ps.length) v ps (T1, []) (.returned (.tuple #[])) w2) := fun w2 hw => by
    obtain ⟨_, m, v', p', a1, a2, a3, a4, a5⟩ := hw
    exact ⟨rfl, m, v', p', a1, a2, a3, (t1.mono (fun k hk => .inl hk)).trans a4, fun k hk => (a5 k hk).imp id (fun e => Nat.le_trans t1.size e)⟩
  have y2 : (w.setCell ⟨rb, 8, none⟩ (.int .i64 1)).cell? ⟨rb, 2, none⟩ = some (.int .i64 T) := cell_of h1 2
  clear h L h1 t1 L1 hnot hn hco
  go_enter Try.func34, Try.ntmps34
  go_wp2_with fail
  generalize w.setCell ⟨rb, 8, none⟩ (.int .i64 1) = W at *
  refine (unhide KK).mono ?_
  rintro e w2 ⟨rfl, rest⟩
  have FF := hide (unhide F w2 ⟨rfl, rest⟩)
  clear F KK rest
  go_wp2
  go_returns
  exact unhide FF
set_option maxRecDepth 100000 in
set_option maxHeartbeats 1000000 in
/-- A tick that isn't the one at the limit. -/
theorem tick_low {w : World} {rb : Nat} {T vo le tk tk1 li nx mt co to d : Int} {mo : Option Nat} {sv : Bool} {v : Value} (hk : IntKind.i64.wrap (tk + 1) = tk1) (hl : tk1 < li) (h : R1 sn w rb T vo v 0 le tk li mo nx mt co to sv) :
    Calls Try.prog 19 #[.pointer (some ⟨rb, 0, none⟩), .int .u64 d] w fun e w' => e = .returned (.tuple #[]) ∧ R1 sn w' rb T vo v 0 le tk1 li mo nx mt co to sv ∧ Touch (· = rb) w w' := by
  have x1 : w.cell? ⟨rb, 1, none⟩ = some (.int .i64 1) := cell_of h 1
  have x8 : w.cell? ⟨rb, 8, none⟩ = some (.int .i64 0) := cell_of h 8
  have x10 : w.cell? ⟨rb, 10, none⟩ = some (.int .i64 tk) := cell_of h 10
  have x11 : w.cell? ⟨rb, 11, none⟩ = some (.int .i64 li) := cell_of h 11
  have f10 : w.frozen? ⟨rb, 10, none⟩ = false := frozen_of h 10
  have F : Hid (∀ n, R1 sn ((w.setCell ⟨rb, 10, none⟩ (.int .i64 tk1)).drewN n) rb T vo v 0 le tk1 li mo nx mt co to sv ∧ Touch (· = rb) w ((w.setCell ⟨rb, 10, none⟩ (.int .i64 tk1)).drewN n)) := fun n => ⟨heap_set h 10 _, (touch_set w rb 10 _).drewN n⟩
  clear h
  go_enter Try.func19, Try.ntmps19
  go_wp2_with fail
  go_quiet (fail)
  go_wp2
  go_returns
  exact ⟨rfl, unhide F _⟩
set_option maxRecDepth 100000 in
set_option maxHeartbeats 1000000 in
/-- The tick at the limit, its draw 0. -/
theorem tick_at {w : World} {rb : Nat} {T T1 vo le tk tk1 li nx mt co to : Int} {mo : Option Nat} {sv : Bool} {v : Value} {ps : List En} (hT : IntKind.i64.wrap (T + 1) = T1) (hk : IntKind.i64.wrap (tk + 1) = tk1) (hl : li ≤ tk1) (h : R1 sn w rb T vo v 0 le tk li mo nx mt co to sv) (L : EL 64 w v ps) (hn : ps.length ≤ 4398046510976) (hco : co ≤ ps.length) :
    Calls Try.prog 19 #[.pointer (some ⟨rb, 0, none⟩), .int .u64 0] w fun e w' => GPost (fun k => k = rb ∨ v.ownBlock = some k) w rb (ldC sn T1 0 0 4 to ps.length) v ps (T1, []) e w' := by
  have hnot := L.not h (by decide) (by decide)
  have x1 : w.cell? ⟨rb, 1, none⟩ = some (.int .i64 1) := cell_of h 1
  have x8 : w.cell? ⟨rb, 8, none⟩ = some (.int .i64 0) := cell_of h 8
  have x10 : w.cell? ⟨rb, 10, none⟩ = some (.int .i64 tk) := cell_of h 10
  have x11 : w.cell? ⟨rb, 11, none⟩ = some (.int .i64 li) := cell_of h 11
  have f10 : w.frozen? ⟨rb, 10, none⟩ = false := frozen_of h 10
  have f11 : w.frozen? ⟨rb, 11, none⟩ = false := frozen_of h 11
  have FX : Hid (∀ n, R1 sn ((((w.setCell ⟨rb, 10, none⟩ (.int .i64 tk1)).drewN n).setCell ⟨rb, 10, none⟩ (.int .i64 0)).setCell ⟨rb, 11, none⟩ (.int .i64 4)) rb T vo v 0 le 0 4 mo nx mt co to sv ∧ Touch (· = rb) w ((((w.setCell ⟨rb, 10, none⟩ (.int .i64 tk1)).drewN n).setCell ⟨rb, 10, none⟩ (.int .i64 0)).setCell ⟨rb, 11, none⟩ (.int .i64 4))) := fun n => ⟨heap_set (heap_set (w := (w.setCell ⟨rb, 10, none⟩ (.int .i64 tk1)).drewN n) (heap_set h 10 _) 10 _) 11 _, (((touch_set w rb 10 _).drewN n).setCell (p := ⟨rb, 10, none⟩) rfl _).setCell (p := ⟨rb, 11, none⟩) rfl _⟩
  have HL := hide L
  have HN := hide hnot
  clear h L hnot
  go_enter Try.func19, Try.ntmps19
  go_wp2_with fail
  go_quiet (fail)
  go_wp2_with fail
  obtain ⟨h2, t2⟩ := unhide FX nq
  have KK := hide (askAhead1 hT h2 ((unhide HL).keep t2 (fun k hk e => (unhide HN) k hk e)) hn hco)
  have T2 := hide t2
  clear h2 t2 FX x1 x8 x10 x11 f10 f11
  generalize (((w.setCell ⟨rb, 10, none⟩ (.int .i64 tk1)).drewN nq).setCell ⟨rb, 10, none⟩ (.int .i64 0)).setCell ⟨rb, 11, none⟩ (.int .i64 4) = W at *
  refine (unhide KK).mono ?_
  rintro e w2 ⟨rfl, m, v', p', a1, a2, a3, a4, a5⟩
  have F : Hid (GPost (fun k => k = rb ∨ v.ownBlock = some k) w rb (ldC sn T1 0 0 4 to ps.length) v ps (T1, []) (.returned (.tuple #[])) w2) := ⟨rfl, m, v', p', a1, a2, a3, ((unhide T2).mono (fun k hk => .inl hk)).trans a4, fun k hk => (a5 k hk).imp id (fun e => Nat.le_trans (unhide T2).size e)⟩
  clear KK a1 a2 a3 a4 a5
  go_wp2
  go_returns
  exact unhide F
theorem drewN_heap {w : World} {n : Nat} : (w.drewN n).heap = w.heap := rfl
theorem drewN_cell {w : World} {n : Nat} {a : Addr} : (w.drewN n).cell? a = w.cell? a := rfl
set_option maxRecDepth 100000 in
set_option maxHeartbeats 1000000 in
theorem state_any {w : World} {rb k cap : Nat} {a : Option Addr} {base T ro le co : Int} (h2 : w.cell? ⟨rb, 2, none⟩ = some (.int .i64 T)) (h4 : w.cell? ⟨rb, 4, none⟩ = some (.int .i64 base)) (h7 : w.cell? ⟨rb, 7, none⟩ = some (.slice a k cap)) (h8 : w.cell? ⟨rb, 8, none⟩ = some (.int .i64 ro)) (h9 : w.cell? ⟨rb, 9, none⟩ = some (.int .i64 le)) (h23 : w.cell? ⟨rb, 23, none⟩ = some (.int .i64 co)) :
    Calls Try.prog 12 #[.pointer (some ⟨rb, 0, none⟩)] w fun e w' => e = .returned (.tuple #[.int .i64 ro, .int .i64 T, .int .i64 le, .int .i64 co, .int .i64 (wrap64 (base + (k : Int)))]) ∧ ∃ n, w' = w.drewN n := by
  have LA : Hid (∀ n, Calls Try.prog 25 #[.pointer (some ⟨rb, 0, none⟩)] (w.drewN n) fun e w' => e = .returned (.int .i64 (wrap64 (base + (k : Int)))) ∧ ∃ m, w' = (w.drewN n).drewN m) := fun n => last12_any (w := w.drewN n) h4 h7
  clear h4 h7
  go_enter Try.func12, Try.ntmps12
  go_wp2_with fail
  go_quiet (first | (go_at_call 25; exact Calls.quiet_of (unhide LA _)))
  go_wp2
  go_returns
  exact ⟨rfl, _, rfl⟩
end Go.Proofs.Ytibjfekfkllnjaa
