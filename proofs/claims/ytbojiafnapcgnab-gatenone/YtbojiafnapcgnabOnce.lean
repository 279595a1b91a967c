/-
  What gate.Once's methods do in the run of one goroutine: Value and Do, the first time and behind it. Conditions: the Once's block holds what a Once that was told nothing, or one value, holds.
-/
import Derived.Test.YtbojiafnapcgnabMu
import Derived.Deep.RegionWith
namespace Go.Proofs.Ytbojiafnapcgnab
open Go.RowKit

theorem boolload_any (b off : Nat) (d : Int) (w : World) (h0 : w.cell? ⟨b, off, none⟩ = some (.int .u32 d)) :
    Calls Try.prog 28 #[.pointer (some ⟨b, off, none⟩)] w fun e w' => e = .returned (.bool (d != 0)) ∧ w' = w := by
  have hl := run_call_load (P := Try.prog) Try.func40 (by kernel_rfl) (by kernel_rfl) (by kernel_rfl) .u32 (by kernel_rfl) h0
  go_enter Try.func28, Try.ntmps28
  go_wp2
  go_ret
  exact ⟨rfl, rfl⟩

theorem boolstore_any (a : Addr) (x : Value) (w : World) (hc : w.cell? a = some x) (hz : w.frozen? a = false) :
    Calls Try.prog 32 #[.pointer (some a), .bool true] w fun e w' => e = .returned (.tuple #[]) ∧ w' = w.drew.setCell a (.int .u32 1) := by
  have hc' : w.drew.cell? a = some x := by go_simp
  have hz' : w.drew.frozen? a = false := by go_simp
  have hst := run_call_store (P := Try.prog) Try.func43 (by kernel_rfl) (by kernel_rfl) (by kernel_rfl) (by kernel_rfl) (k := .u32) (y := 1) hc' hz'
  go_enter Try.func32, Try.ntmps32
  go_wp2
  go_region_calls
  all_goals (go_end0; exact ⟨rfl, rfl⟩)

theorem boolstore_deferred (a : Addr) (x : Value) (u : FrameMode) (w : World) (hc : w.cell? a = some x) (hz : w.frozen? a = false) :
    CallsD Try.prog 32 #[.pointer (some a), .bool true] u w fun e u' w' => u' = u ∧ (e = .returned (.tuple #[]) ∧ w' = w.drew.setCell a (.int .u32 1)) := by
  have hc' : w.drew.cell? a = some x := by go_simp
  have hz' : w.drew.frozen? a = false := by go_simp
  have hst := run_call_store (P := Try.prog) Try.func43 (by kernel_rfl) (by kernel_rfl) (by kernel_rfl) (by kernel_rfl) (k := .u32) (y := 1) hc' hz'
  go_enter_d Try.func32, Try.ntmps32
  go_wp2
  go_region_calls
  all_goals (go_end0; exact ⟨rfl, rfl⟩)

/-- What a Once's block holds: told, the value. -/
def onceObj (d s v t : Int) : Obj := .cells #[.int .u32 d, .int .i32 s, .int .u32 0, .int .u64 v, .int .u32 t] 72

theorem value_nil (w : World) :
    Calls Try.prog 13 #[.pointer none] w fun e w' => e = .returned (.tuple #[.int .u64 0, .bool false]) ∧ w' = w := by
  go_enter Try.func13, Try.ntmps13
  go_wp2
  go_ret2
  exact ⟨rfl, rfl⟩

theorem value_no (b : Nat) (d s v : Int) (w : World) (h : w.heap[b]? = some (onceObj d s v 0)) :
    Calls Try.prog 13 #[.pointer (some ⟨b, 0, none⟩)] w fun e w' => e = .returned (.tuple #[.int .u64 0, .bool false]) ∧ w' = w := by
  have c4 : w.cell? ⟨b, 4, none⟩ = some (.int .u32 0) := by rw [cell_of h]; rfl
  clear h
  go_enter Try.func13, Try.ntmps13
  go_wp2_with (go_at_call 28; refine (boolload_any _ _ _ _ c4).mono ?_; rintro e w' ⟨rfl, rfl⟩)
  go_ret2
  exact ⟨rfl, rfl⟩

theorem value_yes (b : Nat) (d s v : Int) (w : World) (h : w.heap[b]? = some (onceObj d s v 1)) :
    Calls Try.prog 13 #[.pointer (some ⟨b, 0, none⟩)] w fun e w' => e = .returned (.tuple #[.int .u64 v, .bool true]) ∧ w' = w := by
  have c4 : w.cell? ⟨b, 4, none⟩ = some (.int .u32 1) := by rw [cell_of h]; rfl
  have c3 : w.cell? ⟨b, 3, none⟩ = some (.int .u64 v) := by rw [cell_of h]; rfl
  clear h
  go_enter Try.func13, Try.ntmps13
  go_wp2_with (go_at_call 28; refine (boolload_any _ _ _ _ c4).mono ?_; rintro e w' ⟨rfl, rfl⟩)
  go_ret2
  exact ⟨rfl, rfl⟩

theorem tell_any (b : Nat) (pv po : Addr) (x3 x4 : Value) (v : Int) (w : World) (hv : w.cell? pv = some (.int .u64 v)) (hp : w.cell? po = some (.pointer (some ⟨b, 0, none⟩))) (hob : b ≠ po.block)
    (c3 : w.cell? ⟨b, 3, none⟩ = some x3) (c4 : w.cell? ⟨b, 4, none⟩ = some x4) (f3 : w.frozen? ⟨b, 3, none⟩ = false) (f4 : w.frozen? ⟨b, 4, none⟩ = false) :
    Calls Try.prog 31 #[.pointer (some pv), .pointer (some po)] w fun e w' => e = .returned (.tuple #[]) ∧ w' = (w.setCell ⟨b, 3, none⟩ (.int .u64 v)).drew.setCell ⟨b, 4, none⟩ (.int .u32 1) := by
  have hp1 : (w.setCell ⟨b, 3, none⟩ (.int .u64 v)).cell? po = some (.pointer (some ⟨b, 0, none⟩)) := (World.cell?_setCell_other _ ⟨b, 3, none⟩ po _ (fun h => hob (by rw [← h]))).trans hp
  have hc1 : (w.setCell ⟨b, 3, none⟩ (.int .u64 v)).cell? ⟨b, 4, none⟩ = some x4 := (World.cell?_setCell_other _ ⟨b, 3, none⟩ ⟨b, 4, none⟩ _ (by simp)).trans c4
  have hf1 : (w.setCell ⟨b, 3, none⟩ (.int .u64 v)).frozen? ⟨b, 4, none⟩ = false := by simp [f4]
  go_enter Try.func31, Try.ntmps31
  go_wp2_with (go_at_call 32; refine (boolstore_any ⟨b, 4, none⟩ x4 _ hc1 hf1).mono ?_; rintro e w' ⟨rfl, rfl⟩)
  go_end0
  exact ⟨rfl, rfl⟩
end Go.Proofs.Ytbojiafnapcgnab
