/-
  raft's elections, of a node that is alone. Conditions: the log is one, of at most 2^42 - 128 entries.
-/
import Derived.Test.YtibjfekfkllnjaaRt6
namespace Go.Proofs.Ytibjfekfkllnjaa
open Go.RowKit Go.Maps
set_option linter.unusedVariables false
variable {sn : Value}

theorem touch_new {w w1 w2 : World} {S R : Nat → Prop} (h1 : Touch S w w1) (h2 : Touch R w1 w2) (h : ∀ k, R k → S k ∨ w.heap.size ≤ k) : Touch S w w2 :=
  ⟨h2.os.trans h1.os, h2.tape.trans h1.tape, h2.output.trans h1.output, Nat.le_trans h1.size h2.size, fun k hk hs => (h2.block k (Nat.lt_of_lt_of_le hk h1.size) (fun r => (h k r).elim hs (fun e => by omega))).trans (h1.block k hk hs)⟩
theorem VM.not {w : World} {m n b : Nat} {cs : Array Value} {T : TypeId} (h : VM w m n) (hb : w.heap[b]? = some (.cells cs T)) : m ≠ b := by
  rintro rfl
  obtain ⟨es, c, h2⟩ := h.block
  rw [hb] at h2; cases h2
theorem VM.notL {w : World} {m n : Nat} {ty : TypeId} {v : Value} {ps : List En} (h : VM w m n) (L : EL ty w v ps) : ¬ ELB v ps m := by
  rintro (hk | ⟨p, hp, hk⟩)
  · obtain ⟨c, hc⟩ := L.row.heap hk
    exact h.not hc rfl
  · obtain ⟨c, hc⟩ := (L.each p hp).row.heap hk
    exact h.not hc rfl
/-- What a call leaves that may have elected the node. -/
def GPost (S : Nat → Prop) (w : World) (rb : Nat) (C : Nat → Value → Array Value) (v : Value) (ps : List En) (q : Int × List Nat) (e : Ending) (w' : World) : Prop :=
  e = .returned (.tuple #[]) ∧ ∃ m v' p', w'.heap[rb]? = some (.cells (C m v') 77) ∧ EL 64 w' v' (ps ++ [p']) ∧ p'.abs = q ∧ Touch S w w' ∧ ∀ k, ELB v' (ps ++ [p']) k → ELB v ps k ∨ w.heap.size ≤ k
/-- The node that leads. -/
abbrev ldC (sn : Value) (T vo tk li to : Int) (n : Nat) (m : Nat) (v : Value) : Array Value := r1C sn T vo v 3 0 tk li (some m) ((n + 1 : Nat) : Int) ((n + 1 : Nat) : Int) ((n + 1 : Nat) : Int) to true
set_option maxRecDepth 100000 in
set_option maxHeartbeats 2000000 in
theorem count2 {w : World} {rb m : Nat} {T vo le tk li nx mt co to : Int} {sv : Bool} {v : Value} {ps : List En} (h : R1 sn w rb T vo v 2 le tk li (some m) nx mt co to sv) (L : EL 64 w v ps) (hn : ps.length ≤ 4398046510976) (hco : co ≤ ps.length) (hm : VM w m 0) :
    Calls Try.prog 49 #[.pointer (some ⟨rb, 0, none⟩), .int .i64 0] w fun e w' => GPost (fun k => k = rb ∨ v.ownBlock = some k ∨ k = m) w rb (ldC sn T vo tk li to ps.length) v ps (T, []) e w' := by
  have x12 : w.cell? ⟨rb, 12, none⟩ = some (.map (some m)) := cell_of h 12
  obtain ⟨w1, hst, hm1, t1⟩ := hm.store
  have h1 : R1 sn w1 rb T vo v 2 le tk li (some m) nx mt co to sv := t1.keep h (Ne.symm (hm.not h))
  have L1 := L.keep t1 (fun k hk e => hm.notL L (by rw [← e]; exact hk))
  have hlen := hm1.len
  have y1 : w1.cell? ⟨rb, 1, none⟩ = some (.int .i64 1) := cell_of h1 1
  have y8 : w1.cell? ⟨rb, 8, none⟩ = some (.int .i64 2) := cell_of h1 8
  have y12 : w1.cell? ⟨rb, 12, none⟩ = some (.map (some m)) := cell_of h1 12
  have LE : Hid (∀ n, Calls Try.prog 63 #[.pointer (some ⟨rb, 0, none⟩)] (w1.drewN n) fun e w' => LyPost (w1.drewN n) rb (fun v' => r1C sn T vo v' 3 0 tk li (some m) ((ps.length + 1 : Nat) : Int) ((ps.length + 1 : Nat) : Int) ((ps.length + 1 : Nat) : Int) to true) v ps (T, []) e w') := fun n => lead1 (w := w1.drewN n) h1 (L1.keep ((Touch.refl (fun _ => False) w1).drewN n) (fun _ _ h => h)) hn hco
  have F : Hid (∀ n w2, LyPost (w1.drewN n) rb (fun v' => r1C sn T vo v' 3 0 tk li (some m) ((ps.length + 1 : Nat) : Int) ((ps.length + 1 : Nat) : Int) ((ps.length + 1 : Nat) : Int) to true) v ps (T, []) (.returned (.tuple #[])) w2 → GPost (fun k => k = rb ∨ v.ownBlock = some k ∨ k = m) w rb (ldC sn T vo tk li to ps.length) v ps (T, []) (.returned (.tuple #[])) w2) := fun n w2 hw => by
    obtain ⟨_, v', p', a1, a2, a3, a4, a5⟩ := hw
    refine ⟨rfl, m, v', p', a1, a2, a3, ?_, fun k hk => (a5 k hk).imp id (fun e => Nat.le_trans t1.size e)⟩
    exact ((t1.mono (fun k hk => .inr (.inr hk))).drewN n).trans (a4.mono (fun k hk => hk.elim .inl (fun e => .inr (.inl e))))
  have hl2 : ∀ n ty, (Builtin.len_ #[74] ty #[.map (some m)]).run Try.prog (w1.drewN n) = .ok (.int .i64 1) (w1.drewN n) := fun n ty => (hm1.keep ((Touch.refl (fun _ => False) w1).drewN n) (fun h => h)).len ty
  clear h L hm h1 L1 hm1 t1 hlen
  go_enter Try.func49, Try.ntmps49
  go_wp2_with fail
  go_quiet (fail)
  go_wp2_with fail
  refine (unhide LE _).mono ?_
  rintro e w2 ⟨rfl, rest⟩
  have FF := hide (unhide F _ w2 ⟨rfl, rest⟩)
  clear F LE rest
  go_wp2
  go_returns
  exact unhide FF
set_option maxRecDepth 100000 in
set_option maxHeartbeats 2000000 in
/-- ask, over whatever count does. -/
theorem ask_of {w : World} {rb : Nat} {T vo ro le tk li nx mt co to kd tm : Int} {mo : Option Nat} {sv : Bool} {v : Value} {ps : List En} {C : Nat → Value → Array Value} {q : Int × List Nat} (h : R1 sn w rb T vo v ro le tk li mo nx mt co to sv) (L : EL 64 w v ps)
    (K : ∀ w1 m, R1 sn w1 rb T vo v ro (-1) tk li (some m) nx mt co to sv → EL 64 w1 v ps → VM w1 m 0 → Calls Try.prog 49 #[.pointer (some ⟨rb, 0, none⟩), .int .i64 0] w1 fun e w' => GPost (fun k => k = rb ∨ v.ownBlock = some k ∨ k = m) w1 rb C v ps q e w') :
    Calls Try.prog 45 #[.pointer (some ⟨rb, 0, none⟩), .int .i64 kd, .int .i64 tm] w fun e w' => GPost (fun k => k = rb ∨ v.ownBlock = some k) w rb C v ps q e w' := by
  have hnot := L.not h (by decide) (by decide)
  have hrb := lt_of_heap h
  have x9 : w.cell? ⟨rb, 9, none⟩ = some (.int .i64 le) := cell_of h 9
  have f9 : w.frozen? ⟨rb, 9, none⟩ = false := frozen_of h 9
  have x12 : w.cell? ⟨rb, 12, none⟩ = some (.map mo) := cell_of h 12
  have f12 : w.frozen? ⟨rb, 12, none⟩ = false := frozen_of h 12
  have h1 : R1 sn ((w.setCell ⟨rb, 9, none⟩ (.int .i64 (-1))).setCell ⟨rb, 12, none⟩ (.map (some w.heap.size))) rb T vo v ro (-1) tk li (some w.heap.size) nx mt co to sv := heap_set (heap_set h 9 _) 12 _
  have t1 : Touch (· = rb) w ((w.setCell ⟨rb, 9, none⟩ (.int .i64 (-1))).setCell ⟨rb, 12, none⟩ (.map (some w.heap.size))) := (touch_set w rb 9 _).trans (touch_set _ rb 12 _)
  have s1 : ((w.setCell ⟨rb, 9, none⟩ (.int .i64 (-1))).setCell ⟨rb, 12, none⟩ (.map (some w.heap.size))).heap.size = w.heap.size := by simp [World.setCell]
  have L1 := L.keep t1 (fun k hk e => hnot k hk e)
  generalize hW1 : (w.setCell ⟨rb, 9, none⟩ (.int .i64 (-1))).setCell ⟨rb, 12, none⟩ (.map (some w.heap.size)) = W1 at *
  have hA : Below W1.heap.size W1 (W1.alloc (.map #[] 0)) := (Below.refl _ _).alloc (Nat.le_refl _) _
  have h3 : R1 sn (W1.alloc (.map #[] 0)) rb T vo v ro (-1) tk li (some w.heap.size) nx mt co to sv := below_keep hA h1
  have V3 := VM.made W1
  rw [s1] at V3
  have L3 := L1.later hA
  have KK := hide (K _ _ h3 L3 V3)
  have T3 : Hid (Touch (· = rb) w (W1.alloc (.map #[] 0))) := t1.trans (Touch.of_below hA)
  have y0 : (W1.alloc (.map #[] 0)).cell? ⟨rb, 0, none⟩ = some (.int .i64 0) := cell_of h3 0
  have y1 : (W1.alloc (.map #[] 0)).cell? ⟨rb, 1, none⟩ = some (.int .i64 1) := cell_of h3 1
  have F : Hid (∀ w2, GPost (fun k => k = rb ∨ v.ownBlock = some k ∨ k = w.heap.size) (W1.alloc (.map #[] 0)) rb C v ps q (.returned (.tuple #[])) w2 → GPost (fun k => k = rb ∨ v.ownBlock = some k) w rb C v ps q (.returned (.tuple #[])) w2) := fun w2 hw => by
    obtain ⟨_, m, v', p', a1, a2, a3, a4, a5⟩ := hw
    refine ⟨rfl, m, v', p', a1, a2, a3, touch_new ((unhide T3).mono (fun k hk => .inl hk)) a4 (fun k hk => ?_), fun k hk => (a5 k hk).imp id (fun e => Nat.le_trans (unhide T3).size e)⟩
    rcases hk with e | e | e
    · exact .inl (.inl e)
    · exact .inl (.inr e)
    · exact .inr (by omega)
  have hmm := @run_makeMap Try.prog
  clear K h L h1 t1 L1 hA h3 L3 V3 T3
  subst hW1
  go_enter Try.func45, Try.ntmps45
  go_wp2_with fail
  generalize ((w.setCell ⟨rb, 9, none⟩ (.int .i64 (-1))).setCell ⟨rb, 12, none⟩ (.map (some w.heap.size))).alloc (.map #[] 0) = W at *
  go_loopw [18] (fun pl wr => ∃ j : Nat, j ≤ 1 ∧ pl = .int .i64 (j : Int) ∧ wr = W) (fun pl _ => 1 - (intOf pl).toNat)
  case atStart => exact ⟨0, Nat.zero_le _, rfl, rfl⟩
  case round =>
    obtain ⟨j, hj, rfl, rfl⟩ := hrel
    clear x9 f9 x12 f12
    rcases Nat.lt_or_ge j 1 with hj1 | hj1
    · obtain rfl : j = 0 := by omega
      go_wp2
      go_roundw
      case rel => exact ⟨1, by omega, by go_num, by first | rfl | trivial⟩
      case measure => simp [intOf]
    · obtain rfl : j = 1 := by omega
      go_wp2_with fail
      refine (unhide KK).mono ?_
      rintro e w2 ⟨rfl, rest⟩
      have FF := hide (unhide F w2 ⟨rfl, rest⟩)
      clear F KK rest
      go_wp2
      go_returns
      exact unhide FF
set_option maxRecDepth 100000 in
set_option maxHeartbeats 2000000 in
theorem stand1 {w : World} {rb : Nat} {T T1 vo ro le tk li nx mt co to : Int} {mo : Option Nat} {sv : Bool} {v : Value} {ps : List En} (hT : IntKind.i64.wrap (T + 1) = T1) (h : R1 sn w rb T vo v ro le tk li mo nx mt co to sv) (L : EL 64 w v ps) (hn : ps.length ≤ 4398046510976) (hco : co ≤ ps.length) :
    Calls Try.prog 62 #[.pointer (some ⟨rb, 0, none⟩)] w fun e w' => GPost (fun k => k = rb ∨ v.ownBlock = some k) w rb (ldC sn T1 0 tk li to ps.length) v ps (T1, []) e w' := by
  have hnot := L.not h (by decide) (by decide)
  have x0 : w.cell? ⟨rb, 0, none⟩ = some (.int .i64 0) := cell_of h 0
  have x2 : w.cell? ⟨rb, 2, none⟩ = some (.int .i64 T) := cell_of h 2
  have x3 : w.cell? ⟨rb, 3, none⟩ = some (.int .i64 vo) := cell_of h 3
  have x8 : w.cell? ⟨rb, 8, none⟩ = some (.int .i64 ro) := cell_of h 8
  have x25 : w.cell? ⟨rb, 25, none⟩ = some (.bool sv) := cell_of h 25
  have f2 : w.frozen? ⟨rb, 2, none⟩ = false := frozen_of h 2
  have f3 : w.frozen? ⟨rb, 3, none⟩ = false := frozen_of h 3
  have f8 : w.frozen? ⟨rb, 8, none⟩ = false := frozen_of h 8
  have f25 : w.frozen? ⟨rb, 25, none⟩ = false := frozen_of h 25
  have h1 : R1 sn ((((w.setCell ⟨rb, 2, none⟩ (.int .i64 T1)).setCell ⟨rb, 3, none⟩ (.int .i64 0)).setCell ⟨rb, 25, none⟩ (.bool true)).setCell ⟨rb, 8, none⟩ (.int .i64 2)) rb T1 0 v 2 le tk li mo nx mt co to true := heap_set (heap_set (heap_set (heap_set h 2 _) 3 _) 25 _) 8 _
  have t1 : Touch (· = rb) w ((((w.setCell ⟨rb, 2, none⟩ (.int .i64 T1)).setCell ⟨rb, 3, none⟩ (.int .i64 0)).setCell ⟨rb, 25, none⟩ (.bool true)).setCell ⟨rb, 8, none⟩ (.int .i64 2)) := (((touch_set w rb 2 _).trans (touch_set _ rb 3 _)).trans (touch_set _ rb 25 _)).trans (touch_set _ rb 8 _)
  have L1 := L.keep t1 (fun k hk e => hnot k hk e)
  have KK : Hid (Calls Try.prog 45 #[.pointer (some ⟨rb, 0, none⟩), .int .i64 3, .int .i64 T1] ((((w.setCell ⟨rb, 2, none⟩ (.int .i64 T1)).setCell ⟨rb, 3, none⟩ (.int .i64 0)).setCell ⟨rb, 25, none⟩ (.bool true)).setCell ⟨rb, 8, none⟩ (.int .i64 2)) fun e w' => GPost (fun k => k = rb ∨ v.ownBlock = some k) ((((w.setCell ⟨rb, 2, none⟩ (.int .i64 T1)).setCell ⟨rb, 3, none⟩ (.int .i64 0)).setCell ⟨rb, 25, none⟩ (.bool true)).setCell ⟨rb, 8, none⟩ (.int .i64 2)) rb (ldC sn T1 0 tk li to ps.length) v ps (T1, []) e w') := ask_of h1 L1 (fun w1 m a1 a2 a3 => count2 a1 a2 hn hco a3)
  have F : Hid (∀ w2, GPost (fun k => k = rb ∨ v.ownBlock = some k) ((((w.setCell ⟨rb, 2, none⟩ (.int .i64 T1)).setCell ⟨rb, 3, none⟩ (.int .i64 0)).setCell ⟨rb, 25, none⟩ (.bool true)).setCell ⟨rb, 8, none⟩ (.int .i64 2)) rb (ldC sn T1 0 tk li to ps.length) v ps (T1, []) (.returned (.tuple #[])) w2 → GPost (fun k => k = rb ∨ v.ownBlock = some k) w rb (ldC sn T1 0 tk li to ps.length) v ps (T1, []) (.returned (.tuple #[])) w2) := fun w2 hw => by
    obtain ⟨_, m, v', p', a1, a2, a3, a4, a5⟩ := hw
    exact ⟨rfl, m, v', p', a1, a2, a3, (t1.mono (fun k hk => .inl hk)).trans a4, fun k hk => (a5 k hk).imp id (fun e => Nat.le_trans t1.size e)⟩
  have y0 : ((((w.setCell ⟨rb, 2, none⟩ (.int .i64 T1)).setCell ⟨rb, 3, none⟩ (.int .i64 0)).setCell ⟨rb, 25, none⟩ (.bool true)).setCell ⟨rb, 8, none⟩ (.int .i64 2)).cell? ⟨rb, 2, none⟩ = some (.int .i64 T1) := cell_of h1 2
  clear h L h1 t1 L1 hnot hn hco
  go_enter Try.func62, Try.ntmps62
  go_wp2_with fail
  generalize (((w.setCell ⟨rb, 2, none⟩ (.int .i64 T1)).setCell ⟨rb, 3, none⟩ (.int .i64 0)).setCell ⟨rb, 25, none⟩ (.bool true)).setCell ⟨rb, 8, none⟩ (.int .i64 2) = W at *
  refine (unhide KK).mono ?_
  rintro e w2 ⟨rfl, rest⟩
  have FF := hide (unhide F w2 ⟨rfl, rest⟩)
  clear F KK rest
  go_wp2
  go_returns
  exact unhide FF
end Go.Proofs.Ytibjfekfkllnjaa
