/-
  DeleteFunc of ints, out of the library. No conditions.
-/
import Derived.Test.YthaedepnglincaaProg
import Derived.Shelf.SlicesE.DeleteFunc
namespace Go.Proofs.Ythaedepnglincaa
open Go.Shelf
def Try.laysH10_ren : Go.Shelf.Ren := ⟨fun | 10 => 33 | 6 => 43 | n => n, fun | 22 => 28 | 23 => 3 | 25 => 59 | 3 => 3 | 4 => 4 | 0 => 0 | n => n, fun | n => n⟩
theorem Try.laysH10 : Go.Proofs.SlLaysH.n10 Try.prog Try.laysH10_ren := {
  mixed := by kernel_rfl,
  f6 := ⟨"slices.IndexFunc[[]int,int]", by decide, Try.func43.trans (congrArg some (by kernel_rfl))⟩,
  f10 := ⟨"slices.DeleteFunc[[]int,int]", by decide, Try.func33.trans (congrArg some (by kernel_rfl))⟩,
  t0 := Try.underlying0,
  a0 := Try.isAgg0,
  z0 := Try.sizeOf0,
  v0 := Try.zeroValue0,
  t3 := Try.underlying3,
  a3 := Try.isAgg3,
  z3 := Try.sizeOf3,
  v3 := Try.zeroValue3,
  t4 := Try.underlying4,
  a4 := Try.isAgg4,
  z4 := Try.sizeOf4,
  v4 := Try.zeroValue4,
  t22 := Try.underlying28,
  a22 := Try.isAgg28,
  z22 := Try.sizeOf28,
  v22 := Try.zeroValue28,
  a23 := Try.isAgg3,
  z23 := Try.sizeOf3,
  t25 := Try.underlying59,
  a25 := Try.isAgg59,
  z25 := Try.sizeOf59,
  v25 := Try.zeroValue59 }
end Go.Proofs.Ythaedepnglincaa
