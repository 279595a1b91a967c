/-
  gate.Once's Do in the run of one goroutine: the first time it lays the value, behind that it tells the first one. Conditions: as in the text on Once.
-/
import Derived.Test.YtbojiafnapcgnabOnce
namespace Go.Proofs.Ytbojiafnapcgnab
open Go.RowKit

theorem setset {w : World} {b : Nat} {cs : Array Value} {t : TypeId} (h : w.heap[b]? = some (.cells cs t)) (i : Nat) (v : Value) : Touch (· = b) w (w.setCell ⟨b, i, none⟩ v) ∧ (w.setCell ⟨b, i, none⟩ v).heap[b]? = some (.cells (cs.setIfInBounds i v) t) := ⟨touch_set _ _ _ _, heap_set h _ _⟩

set_option maxRecDepth 100000 in
set_option maxHeartbeats 1600000 in
theorem slow_any (b : Nat) (pv po : Addr) (v0 t0 : Int) (v : Int) (w : World) (hv : w.cell? pv = some (.int .u64 v)) (hp : w.cell? po = some (.pointer (some ⟨b, 0, none⟩))) (hob : b ≠ po.block) (hvb : b ≠ pv.block)
    (h : w.heap[b]? = some (onceObj 0 0 v0 t0)) :
    Calls Try.prog 42 #[.pointer (some ⟨b, 0, none⟩), .func (.func 31) #[] #[.pointer (some pv), .pointer (some po)]] w fun e w' => e = .returned (.tuple #[]) ∧ w'.heap[b]? = some (onceObj 1 0 v 1) ∧ Touch (· = b) w w' := by
  have h0 : w.cell? ⟨b, 0, none⟩ = some (.int .u32 0) := by rw [cell_of h]; rfl
  have h1 : w.cell? ⟨b, 1, none⟩ = some (.int .i32 0) := by rw [cell_of h]; rfl
  have f1 : w.frozen? ⟨b, 1, none⟩ = false := frozen_of h 1
  have ha : (w.setCell ⟨b, 1, none⟩ (.int .i32 1)).heap[b]? = some (onceObj 0 1 v0 t0) := by rw [heap_set h]; rfl
  have ta : Touch (· = b) w (w.setCell ⟨b, 1, none⟩ (.int .i32 1)) := touch_set _ _ _ _
  have a0 : (w.setCell ⟨b, 1, none⟩ (.int .i32 1)).cell? ⟨b, 0, none⟩ = some (.int .u32 0) := by rw [cell_of ha]; rfl
  have av : (w.setCell ⟨b, 1, none⟩ (.int .i32 1)).cell? pv = some (.int .u64 v) := (World.cell?_setCell_other _ ⟨b, 1, none⟩ pv _ (fun h => hvb (by rw [← h]))).trans hv
  have ap : (w.setCell ⟨b, 1, none⟩ (.int .i32 1)).cell? po = some (.pointer (some ⟨b, 0, none⟩)) := (World.cell?_setCell_other _ ⟨b, 1, none⟩ po _ (fun h => hob (by rw [← h]))).trans hp
  have a3 : (w.setCell ⟨b, 1, none⟩ (.int .i32 1)).cell? ⟨b, 3, none⟩ = some (.int .u64 v0) := by rw [cell_of ha]; rfl
  have a4 : (w.setCell ⟨b, 1, none⟩ (.int .i32 1)).cell? ⟨b, 4, none⟩ = some (.int .u32 t0) := by rw [cell_of ha]; rfl
  have fa3 := frozen_of ha 3
  have fa4 := frozen_of ha 4
  have HA := hide ha
  have TA := hide ta
  have hnot : ∀ (x : Bool) (w : World), (Op.unary .not (.bool x)).run Try.prog w = .ok (.bool (!x)) w := fun _ _ => rfl
  clear hv hp ha ta h hvb
  go_enter_defers Try.func42, Try.ntmps42
  go_wp2_with fail
  refine (lock_free ⟨b, 1, none⟩ w h1 f1).mono ?_
  rintro e w' ⟨rfl, rfl⟩
  go_wp2_with fail
  refine (boolload_any b 0 0 _ a0).mono ?_
  rintro e w' ⟨rfl, rfl⟩
  go_wp2_with fail
  refine (tell_any b pv po _ _ v _ av ap hob a3 a4 fa3 fa4).mono ?_
  rintro e w' ⟨rfl, rfl⟩
  clear hob
  have hb : (((w.setCell ⟨b, 1, none⟩ (.int .i32 1)).setCell ⟨b, 3, none⟩ (.int .u64 v)).drew.setCell ⟨b, 4, none⟩ (.int .u32 1)).heap[b]? = some (onceObj 0 1 v 1) := by
    have x1 : ((w.setCell ⟨b, 1, none⟩ (.int .i32 1)).setCell ⟨b, 3, none⟩ (.int .u64 v)).drew.heap[b]? = some (onceObj 0 1 v t0) := by
      show ((w.setCell ⟨b, 1, none⟩ (.int .i32 1)).setCell ⟨b, 3, none⟩ (.int .u64 v)).heap[b]? = _
      rw [heap_set (unhide HA)]; rfl
    rw [heap_set x1]; rfl
  have tb : Touch (· = b) w (((w.setCell ⟨b, 1, none⟩ (.int .i32 1)).setCell ⟨b, 3, none⟩ (.int .u64 v)).drew.setCell ⟨b, 4, none⟩ (.int .u32 1)) :=
    (((unhide TA).trans (touch_set _ _ _ _)).drew).trans (touch_set _ _ _ _)
  generalize ((w.setCell ⟨b, 1, none⟩ (.int .i32 1)).setCell ⟨b, 3, none⟩ (.int .u64 v)).drew.setCell ⟨b, 4, none⟩ (.int .u32 1) = wb at hb tb ⊢
  clear HA TA a0 av ap a3 a4 fa3 fa4
  go_wp2_with fail
  refine leaves_cons (f := 32) (args := #[.pointer (some ⟨b, 0, none⟩), .bool true]) (by simp) (by simp [go_sem]) ?_
  refine (boolstore_deferred ⟨b, 0, none⟩ (.int .u32 0) .returning wb (by rw [cell_of hb]; rfl) (frozen_of hb 0)).mono ?_
  rintro e u' w'' ⟨rfl, rfl, rfl⟩
  have hc : (wb.drew.setCell ⟨b, 0, none⟩ (.int .u32 1)).heap[b]? = some (onceObj 1 1 v 1) := by
    have x1 : wb.drew.heap[b]? = some (onceObj 0 1 v 1) := hb
    rw [heap_set x1]; rfl
  have tc : Touch (· = b) w (wb.drew.setCell ⟨b, 0, none⟩ (.int .u32 1)) := tb.drew.trans (touch_set _ _ _ _)
  generalize wb.drew.setCell ⟨b, 0, none⟩ (.int .u32 1) = wc at hc tc ⊢
  refine leaves_cons (f := 36) (args := #[.pointer (some ⟨b, 1, none⟩)]) (by simp [settle]) (by simp [go_sem]) ?_
  refine (unlock_deferred ⟨b, 1, none⟩ _ wc (by rw [cell_of hc]; rfl) (frozen_of hc 1)).mono ?_
  rintro e u' w'' ⟨rfl, rfl, rfl⟩
  have hd : (wc.setCell ⟨b, 1, none⟩ (.int .i32 0)).heap[b]? = some (onceObj 1 0 v 1) := by rw [heap_set hc]; rfl
  have td : Touch (· = b) w (wc.setCell ⟨b, 1, none⟩ (.int .i32 0)) := tc.trans (touch_set _ _ _ _)
  exact ⟨_, results_none rfl _ _ _, rfl, hd, td⟩

theorem syncdo_first (b : Nat) (pv po : Addr) (v0 t0 : Int) (v : Int) (w : World) (hv : w.cell? pv = some (.int .u64 v)) (hp : w.cell? po = some (.pointer (some ⟨b, 0, none⟩))) (hob : b ≠ po.block) (hvb : b ≠ pv.block)
    (h : w.heap[b]? = some (onceObj 0 0 v0 t0)) :
    Calls Try.prog 30 #[.pointer (some ⟨b, 0, none⟩), .func (.func 31) #[] #[.pointer (some pv), .pointer (some po)]] w fun e w' => e = .returned (.tuple #[]) ∧ w'.heap[b]? = some (onceObj 1 0 v 1) ∧ Touch (· = b) w w' := by
  have h0 : w.cell? ⟨b, 0, none⟩ = some (.int .u32 0) := by rw [cell_of h]; rfl
  have K := hide (slow_any b pv po v0 t0 v w hv hp hob hvb h)
  clear h hv hp hob hvb
  go_enter Try.func30, Try.ntmps30
  go_wp2_with fail
  refine (boolload_any b 0 0 _ h0).mono ?_
  rintro e w' ⟨rfl, rfl⟩
  go_wp2_with fail
  refine (unhide K).mono ?_
  rintro e w1 ⟨rfl, h1⟩
  have H1 := hide h1
  clear h1
  go_wp2
  go_end0
  exact ⟨rfl, unhide H1⟩

theorem syncdo_done (b : Nat) (fv : Value) (d : Int) (hd : (d != 0) = true) (w : World) (h0 : w.cell? ⟨b, 0, none⟩ = some (.int .u32 d)) :
    Calls Try.prog 30 #[.pointer (some ⟨b, 0, none⟩), fv] w fun e w' => e = .returned (.tuple #[]) ∧ w' = w := by
  go_enter Try.func30, Try.ntmps30
  go_wp2_with (go_at_call 28; refine (boolload_any b 0 d _ h0).mono ?_; rintro e w' ⟨rfl, rfl⟩)
  go_end0
  exact ⟨rfl, rfl⟩

set_option maxRecDepth 100000 in
theorem do_nil (v : Int) (w : World) :
    Calls Try.prog 15 #[.pointer none, .int .u64 v] w fun e w' => e = .returned (.int .u64 0) ∧ Below w.heap.size w w' := by
  go_enter Try.func15, Try.ntmps15
  go_wp2
  go_ret
  exact ⟨rfl, ((Below.refl _ _).alloc (Nat.le_refl _) _).alloc (by simp) _⟩

set_option maxRecDepth 100000 in
set_option maxHeartbeats 1600000 in
theorem do_first (b : Nat) (v0 t0 : Int) (v : Int) (w : World) (h : w.heap[b]? = some (onceObj 0 0 v0 t0)) :
    Calls Try.prog 15 #[.pointer (some ⟨b, 0, none⟩), .int .u64 v] w fun e w' => e = .returned (.int .u64 v) ∧ w'.heap[b]? = some (onceObj 1 0 v 1) ∧ Touch (· = b) w w' := by
  have hmf : ∀ (fn : Fn) (first cap : Array Value) (w : World), (Instr.makeFunc fn first cap).run Try.prog w = .ok (.func fn first cap) w := fun _ _ _ _ => rfl
  have hb := lt_of_heap h
  have q0 : ((w.alloc (.cells #[.pointer (some ⟨b, 0, none⟩)] 24)).alloc (.cells #[.int .u64 v] 22)).heap[w.heap.size]? = some (.cells #[.pointer (some ⟨b, 0, none⟩)] 24) := heap_old _ (heap_new _ _)
  have q1 : ((w.alloc (.cells #[.pointer (some ⟨b, 0, none⟩)] 24)).alloc (.cells #[.int .u64 v] 22)).heap[w.heap.size + 1]? = some (.cells #[.int .u64 v] 22) := by
    have := heap_new (w.alloc (.cells #[.pointer (some ⟨b, 0, none⟩)] 24)) (.cells #[.int .u64 v] 22)
    simpa using this
  have qb : ((w.alloc (.cells #[.pointer (some ⟨b, 0, none⟩)] 24)).alloc (.cells #[.int .u64 v] 22)).heap[b]? = some (onceObj 0 0 v0 t0) := heap_old _ (heap_old _ h)
  have qt : Touch (· = b) w ((w.alloc (.cells #[.pointer (some ⟨b, 0, none⟩)] 24)).alloc (.cells #[.int .u64 v] 22)) := ((Touch.refl _ _).alloc _).alloc _
  have Q0 := hide q0
  have Q1 := hide q1
  have QB := hide qb
  have QT := hide qt
  clear h q0 q1 qb qt
  go_enter Try.func15, Try.ntmps15
  go_wp2_with fail
  refine (syncdo_first b ⟨w.heap.size + 1, 0, none⟩ ⟨w.heap.size, 0, none⟩ v0 t0 v _ (by rw [cell_of (unhide Q1)]; rfl) (by rw [cell_of (unhide Q0)]; rfl) (by simp; omega) (by simp; omega) (unhide QB)).mono ?_
  rintro e w1 ⟨rfl, h1, t1⟩
  have p1 : w1.cell? ⟨w.heap.size, 0, none⟩ = some (.pointer (some ⟨b, 0, none⟩)) := by rw [cell_of (t1.keep (unhide Q0) (by omega))]; rfl
  have p2 : w1.cell? ⟨b, 3, none⟩ = some (.int .u64 v) := by rw [cell_of h1]; rfl
  have H1 := hide h1
  have T1 := hide ((unhide QT).trans t1)
  clear h1 t1 Q0 Q1 QB QT
  go_wp2
  go_ret
  exact ⟨rfl, unhide H1, unhide T1⟩

set_option maxRecDepth 100000 in
set_option maxHeartbeats 1600000 in
theorem do_again (b : Nat) (v0 t0 : Int) (v : Int) (w : World) (h : w.heap[b]? = some (onceObj 1 0 v0 t0)) :
    Calls Try.prog 15 #[.pointer (some ⟨b, 0, none⟩), .int .u64 v] w fun e w' => e = .returned (.int .u64 v0) ∧ w'.heap[b]? = some (onceObj 1 0 v0 t0) ∧ Touch (· = b) w w' := by
  have hmf : ∀ (fn : Fn) (first cap : Array Value) (w : World), (Instr.makeFunc fn first cap).run Try.prog w = .ok (.func fn first cap) w := fun _ _ _ _ => rfl
  have q0 : ((w.alloc (.cells #[.pointer (some ⟨b, 0, none⟩)] 24)).alloc (.cells #[.int .u64 v] 22)).heap[w.heap.size]? = some (.cells #[.pointer (some ⟨b, 0, none⟩)] 24) := heap_old _ (heap_new _ _)
  have qb : ((w.alloc (.cells #[.pointer (some ⟨b, 0, none⟩)] 24)).alloc (.cells #[.int .u64 v] 22)).heap[b]? = some (onceObj 1 0 v0 t0) := heap_old _ (heap_old _ h)
  have qt : Touch (· = b) w ((w.alloc (.cells #[.pointer (some ⟨b, 0, none⟩)] 24)).alloc (.cells #[.int .u64 v] 22)) := ((Touch.refl _ _).alloc _).alloc _
  have Q0 := hide q0
  have QB := hide qb
  have QT := hide qt
  clear h q0 qb qt
  go_enter Try.func15, Try.ntmps15
  go_wp2_with fail
  refine (syncdo_done b _ 1 rfl _ (by rw [cell_of (unhide QB)]; rfl)).mono ?_
  rintro e w1 ⟨rfl, rfl⟩
  have p1 := cell_of (unhide Q0) 0
  have p2 := cell_of (unhide QB) 3
  go_wp2
  go_ret
  exact ⟨rfl, unhide QB, unhide QT⟩
end Go.Proofs.Ytbojiafnapcgnab
