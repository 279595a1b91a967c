/-
  DeleteFunc of ints, out of the library. No conditions.
-/
import Derived.Test.YtfakjcaolpmkeaaProg
import Derived.Shelf.SlicesE.DeleteFunc
namespace Go.Proofs.Ytfakjcaolpmkeaa
open Go.Shelf
def Try.laysH10_ren : Go.Shelf.Ren := ⟨fun | 10 => 38 | 6 => 57 | n => n, fun | 22 => 39 | 23 => 3 | 25 => 73 | 3 => 3 | 4 => 4 | 0 => 0 | n => n, fun | n => n⟩
theorem Try.laysH10 : Go.Proofs.SlLaysH.n10 Try.prog Try.laysH10_ren := {
  mixed := by kernel_rfl,
  f6 := ⟨"slices.IndexFunc[[]int,int]", by decide, Try.func57.trans (congrArg some (by kernel_rfl))⟩,
  f10 := ⟨"slices.DeleteFunc[[]int,int]", by decide, Try.func38.trans (congrArg some (by kernel_rfl))⟩,
  t0 := Try.underlying0,
  a0 := Try.isAgg0,
  z0 := Try.sizeOf0,
  v0 := Try.zeroValue0,
  t3 := Try.underlying3,
  a3 := Try.isAgg3,
  z3 := Try.sizeOf3,
  v3 := Try.zeroValue3,
  t4 := Try.underlying4,
  a4 := Try.isAgg4,
  z4 := Try.sizeOf4,
  v4 := Try.zeroValue4,
  t22 := Try.underlying39,
  a22 := Try.isAgg39,
  z22 := Try.sizeOf39,
  v22 := Try.zeroValue39,
  a23 := Try.isAgg3,
  z23 := Try.sizeOf3,
  t25 := Try.underlying73,
  a25 := Try.isAgg73,
  z25 := Try.sizeOf73,
  v25 := Try.zeroValue73 }
end Go.Proofs.Ytfakjcaolpmkeaa
