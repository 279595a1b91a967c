/-
  txn's New and Tx. Conditions: at most 2^44 partitions.
-/
import Derived.Test.YtbgccnnomgeniaaTx6
namespace Go.Proofs.Ytbgccnnomgeniaa
open Go.RowKit Go.Maps
set_option linter.unusedVariables false

theorem tnew_any (w : World) : Calls Try.prog 22 #[] w fun e w' => e = .returned (.pointer (some ⟨w.heap.size, 0, none⟩)) ∧ w' = w.alloc (.cells #[.map none] 74) := by
  go_enter Try.func22, Try.ntmps22
  go_wp2
  go_returns
  exact ⟨rfl, rfl⟩
theorem ts_new (w : World) : TS (w.alloc (.cells #[.map none] 74)) w.heap.size (.map none) [] (fun _ => none) (· = w.heap.size) :=
  ⟨heap_new _ _, .inl ⟨rfl, rfl⟩, fun _ _ => rfl, (fun _ _ h => by cases h), (fun _ _ h => by cases h), rfl, fun k hk => by simp; omega⟩
def TxP (w : World) (x : Tx) (e : Ending) (w' : World) : Prop := ∃ q, e = .returned (tdV q) ∧ TFit w' q x ∧ New w (tdS q) ∧ Below w.heap.size w w'
end Go.Proofs.Ytbgccnnomgeniaa
