/-
  wire.tried: what gives up is told as an error. Conditions: as each says.
-/
import Derived.Test.YtcekleconjmfjaaWq0
import Derived.Defers
import Derived.Recover
import Derived.Shelf.Abstract
namespace Go.Proofs.Ytcekleconjmfjaa
open Go.RowKit
set_option linter.unusedVariables false

set_option maxRecDepth 100000 in
theorem asserted (W : World) (v : Value) (x : TypeId) : (Instr.typeAssert (.iface 22 v) x 22 false).run Try.prog W = .ok v W := by kernel_rfl
set_option maxRecDepth 100000 in
theorem caught (p : Addr) (x E : Int) (older : List PanicEntry) (w : World) (hc : w.cell? p = some (.int .i64 x)) (hz : w.frozen? p = false) :
    CallsD Try.prog 39 #[.pointer (some p)] (.panicking ({ v := .iface 22 (.int .i64 E), recovered := false } :: older)) w fun e u' w' =>
      e = .returned (.tuple #[]) ∧ u' = .panicking ({ v := .iface 22 (.int .i64 E), recovered := true } :: older) ∧ w' = w.setCell p (.int .i64 E) := by
  refine callsD_of_wpS Try.func39 rfl fun c₀ cs hu => ?_
  apply wpS_seq
  apply wpS_region
  simp [wpOpsS, go_sem, recoverD, hu, Try.ntmps39, Exit.thenS]
  apply wpS_seq
  apply wpS_region
  simp [wpOpsS, go_sem, Exit.thenS, Array.replicate, Act.eval]
  refine wpS_cond (t := true) (by simp [Act.eval]) ?_
  simp only [if_true]
  apply wpS_region
  simp [wpOpsS, go_sem, asserted, hc, hz, bodyPostS, results, Try.results39, Act.eval]
theorem idle (p : Addr) (w : World) :
    CallsD Try.prog 39 #[.pointer (some p)] .returning w fun e u' w' => e = .returned (.tuple #[]) ∧ u' = .returning ∧ w' = w := by
  refine callsD_of_wpS Try.func39 rfl fun c₀ cs hu => ?_
  apply wpS_seq
  apply wpS_region
  simp [wpOpsS, go_sem, recoverD, hu, Try.ntmps39, Exit.thenS]
  apply wpS_seq
  apply wpS_region
  simp [wpOpsS, go_sem, Exit.thenS, Array.replicate, Act.eval]
  refine wpS_cond (t := false) (by simp [Act.eval]) ?_
  simp only [Bool.false_eq_true, if_false]
  refine wpS_of_wp (wp_skip ?_)
  cases c₀
  simp_all [bodyPostS, results, Try.results39]
/-- What is behind a call that was tried: it left the answer's own cell as it was. -/
def TR (v : Ending) (R : World → Prop) (r : Nat) (e : Ending) (w' : World) : Prop := e = v ∧ w'.heap[r]? = some (.cells #[.int .i64 0] 22) ∧ R w'
def TD (E : Int) (R : World → Prop) (r : Nat) (e : Ending) (w' : World) : Prop := e = .returned (.int .i64 E) ∧ ∃ u, R u ∧ Touch (· = r) u w'
set_option maxHeartbeats 4000000 in
theorem tried_ok {w : World} {g : Nat} {caps : Array Value} {R : World → Prop} (eg : ∀ args w, (callFunc g args).run Try.prog w = .ok (.enter g args) w)
    (K : Calls Try.prog g caps (w.alloc (.cells #[.int .i64 0] 22)) (fun e w' => TR (.returned (.tuple #[])) R w.heap.size e w')) :
    Calls Try.prog 29 #[.func (.func g) #[] caps] w fun e w' => TD 0 R w.heap.size e w' := by
  have hmf : ∀ (fn : Fn) (first cap : Array Value) (w : World), (Instr.makeFunc fn first cap).run Try.prog w = .ok (.func fn first cap) w := fun _ _ _ _ => rfl
  have HK := hide K
  clear K
  go_enter_defers Try.func29, Try.ntmps29
  go_wp2_with (go_at_fn g; refine (unhide HK).mono ?_; rintro e w1 ⟨rfl, h1, hr⟩; have c0 := cell_of h1 0; have f0 := frozen_of h1 0; simp at c0)
  refine leaves_cons (f := 39) (args := #[.pointer (some ⟨w.heap.size, 0, none⟩)]) (by simp) (by simp [go_sem]) ?_
  refine (idle ⟨w.heap.size, 0, none⟩ _).mono ?_
  rintro e u' w'' ⟨rfl, rfl, rfl⟩
  have cS := cell_of (heap_set h1 0 (.int .i64 0)) 0
  simp at cS
  have hP : TD 0 R w.heap.size (.returned (.int .i64 0)) (w1.setCell ⟨w.heap.size, 0, none⟩ (.int .i64 0)) := ⟨rfl, w1, hr, touch_set _ _ _ _⟩
  generalize w1.setCell ⟨w.heap.size, 0, none⟩ (.int .i64 0) = Y at *
  simp [Leaves, settle, results, Try.results29, go_sem, cS]
  exact hP
set_option maxHeartbeats 4000000 in
theorem tried_no {w : World} {g : Nat} {caps : Array Value} {R : World → Prop} {E : Int} (eg : ∀ args w, (callFunc g args).run Try.prog w = .ok (.enter g args) w)
    (K : Calls Try.prog g caps (w.alloc (.cells #[.int .i64 0] 22)) (fun e w' => TR (gone E) R w.heap.size e w')) :
    Calls Try.prog 29 #[.func (.func g) #[] caps] w fun e w' => TD E R w.heap.size e w' := by
  have hmf : ∀ (fn : Fn) (first cap : Array Value) (w : World), (Instr.makeFunc fn first cap).run Try.prog w = .ok (.func fn first cap) w := fun _ _ _ _ => rfl
  have HK := hide K
  clear K
  go_enter_defers Try.func29, Try.ntmps29
  go_wp2_with (go_at_fn g; refine (unhide HK).mono ?_; rintro e w1 ⟨rfl, h1, hr⟩)
  refine leaves_cons (f := 39) (args := #[.pointer (some ⟨w.heap.size, 0, none⟩)]) (by simp) (by simp [go_sem]) ?_
  refine (caught ⟨w.heap.size, 0, none⟩ 0 E [] w1 (by have := cell_of h1 0; simpa using this) (frozen_of h1 0)).mono ?_
  rintro e u' w'' ⟨rfl, rfl, rfl⟩
  have cS := cell_of (heap_set h1 0 (.int .i64 E)) 0
  simp at cS
  have hP : TD E R w.heap.size (.returned (.int .i64 E)) (w1.setCell ⟨w.heap.size, 0, none⟩ (.int .i64 E)) := ⟨rfl, w1, hr, touch_set _ _ _ _⟩
  generalize w1.setCell ⟨w.heap.size, 0, none⟩ (.int .i64 E) = Y at *
  simp [Leaves, settle, results, Try.results29, go_sem, cS]
  exact hP
end Go.Proofs.Ytcekleconjmfjaa
