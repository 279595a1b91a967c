/-
  What gate.Once's methods do in the run of one goroutine: Value and Do, the first time and behind it. Conditions: the Once's block holds what a Once that was told nothing, or one value, holds.
-/
import Derived.Test.YtbojiafnapcgnabBools
import Derived.Deep.RegionWith
namespace Go.Proofs.Ytbojiafnapcgnab
open Go.RowKit

/-- What a Once's block holds: told, the value. -/
def onceObj (d s v t : Int) : Obj := .cells #[.int .u32 d, .int .i32 s, .int .u32 0, .int .u64 v, .int .u32 t] 72

theorem value_nil (w : World) :
    Calls Try.prog 13 #[.pointer none] w fun e w' => e = .returned (.tuple #[.int .u64 0, .bool false]) ∧ w' = w := by
  go_enter Try.func13, Try.ntmps13
  go_wp2
  go_ret2
  exact ⟨rfl, rfl⟩

theorem value_no (b : Nat) (d s v : Int) (w : World) (h : w.heap[b]? = some (onceObj d s v 0)) :
    Calls Try.prog 13 #[.pointer (some ⟨b, 0, none⟩)] w fun e w' => e = .returned (.tuple #[.int .u64 0, .bool false]) ∧ w' = w := by
  have c4 : w.cell? ⟨b, 4, none⟩ = some (.int .u32 0) := by rw [cell_of h]; rfl
  clear h
  go_enter Try.func13, Try.ntmps13
  go_wp2_with (go_at_call 28; refine (boolload_any _ _ _ _ c4).mono ?_; rintro e w' ⟨rfl, rfl⟩)
  go_ret2
  exact ⟨rfl, rfl⟩

theorem value_yes (b : Nat) (d s v : Int) (w : World) (h : w.heap[b]? = some (onceObj d s v 1)) :
    Calls Try.prog 13 #[.pointer (some ⟨b, 0, none⟩)] w fun e w' => e = .returned (.tuple #[.int .u64 v, .bool true]) ∧ w' = w := by
  have c4 : w.cell? ⟨b, 4, none⟩ = some (.int .u32 1) := by rw [cell_of h]; rfl
  have c3 : w.cell? ⟨b, 3, none⟩ = some (.int .u64 v) := by rw [cell_of h]; rfl
  clear h
  go_enter Try.func13, Try.ntmps13
  go_wp2_with (go_at_call 28; refine (boolload_any _ _ _ _ c4).mono ?_; rintro e w' ⟨rfl, rfl⟩)
  go_ret2
  exact ⟨rfl, rfl⟩

theorem tell_any (b : Nat) (pv po : Addr) (x3 x4 : Value) (v : Int) (w : World) (hv : w.cell? pv = some (.int .u64 v)) (hp : w.cell? po = some (.pointer (some ⟨b, 0, none⟩))) (hob : b ≠ po.block)
    (c3 : w.cell? ⟨b, 3, none⟩ = some x3) (c4 : w.cell? ⟨b, 4, none⟩ = some x4) (f3 : w.frozen? ⟨b, 3, none⟩ = false) (f4 : w.frozen? ⟨b, 4, none⟩ = false) :
    Calls Try.prog 31 #[.pointer (some pv), .pointer (some po)] w fun e w' => e = .returned (.tuple #[]) ∧ w' = (w.setCell ⟨b, 3, none⟩ (.int .u64 v)).drew.setCell ⟨b, 4, none⟩ (.int .u32 1) := by
  have hp1 : (w.setCell ⟨b, 3, none⟩ (.int .u64 v)).cell? po = some (.pointer (some ⟨b, 0, none⟩)) := (World.cell?_setCell_other _ ⟨b, 3, none⟩ po _ (fun h => hob (by rw [← h]))).trans hp
  have hc1 : (w.setCell ⟨b, 3, none⟩ (.int .u64 v)).cell? ⟨b, 4, none⟩ = some x4 := (World.cell?_setCell_other _ ⟨b, 3, none⟩ ⟨b, 4, none⟩ _ (by simp)).trans c4
  have hf1 : (w.setCell ⟨b, 3, none⟩ (.int .u64 v)).frozen? ⟨b, 4, none⟩ = false := by simp [f4]
  go_enter Try.func31, Try.ntmps31
  go_wp2_with (go_at_call 32; refine (boolstore_any ⟨b, 4, none⟩ x4 _ hc1 hf1).mono ?_; rintro e w' ⟨rfl, rfl⟩)
  go_end0
  exact ⟨rfl, rfl⟩
end Go.Proofs.Ytbojiafnapcgnab
