/-
  A Marks that nothing was told, as the code makes it: its cells. No conditions.
-/
import Derived.Test.YtbojiafnapcgnaaMarks
namespace Go.Proofs.Ytbojiafnapcgnaa
open Go.RowKit

def zeroMarks : Array Value := #[.int .i32 0, .int .u32 0] ++ Array.replicate 256 (.bool false)
theorem zero_marks (w : World) : Sem.run Try.prog (zeroValue 65) w = .ok (.agg zeroMarks) w := by kernel_rfl
theorem zeroMarks_at {w : World} {b : Nat} (h : w.heap[b]? = some (.cells zeroMarks 65)) : MarksAt w b 2 65 (some 0) (fun _ => false) := by
  refine ⟨zeroMarks, h, by simp [zeroMarks], fun x hx => ?_, fun i hi => ?_⟩
  · obtain rfl : (0 : Int) = x := by simpa using hx
    simp [zeroMarks]
  · unfold zeroMarks
    rw [Array.getElem?_append_right (by simp)]
    simp [hi]
end Go.Proofs.Ytbojiafnapcgnaa
