/-
  slices.DeleteFunc at a list of ints: the library's contract, laid at this program. No conditions.
-/
import Derived.Test.YtlildelmeeojlaaProg
import Derived.Shelf.SlicesE.DeleteFunc
namespace Go.Proofs.Ytlildelmeeojlaa
open Go.Shelf
def Try.laysH10_ren : Go.Shelf.Ren := ⟨fun | 10 => 80 | 6 => 92 | n => n, fun | 22 => 22 | 23 => 3 | 25 => 106 | 3 => 3 | 4 => 4 | 0 => 0 | n => n, fun | n => n⟩
theorem Try.laysH10 : Go.Proofs.SlLaysH.n10 Try.prog Try.laysH10_ren := {
  mixed := by kernel_rfl,
  f6 := ⟨"slices.IndexFunc[[]int,int]", by decide, Try.func92.trans (congrArg some (by kernel_rfl))⟩,
  f10 := ⟨"slices.DeleteFunc[[]int,int]", by decide, Try.func80.trans (congrArg some (by kernel_rfl))⟩,
  t0 := Try.underlying0,
  a0 := Try.isAgg0,
  z0 := Try.sizeOf0,
  v0 := Try.zeroValue0,
  t3 := Try.underlying3,
  a3 := Try.isAgg3,
  z3 := Try.sizeOf3,
  v3 := Try.zeroValue3,
  t4 := Try.underlying4,
  a4 := Try.isAgg4,
  z4 := Try.sizeOf4,
  v4 := Try.zeroValue4,
  t22 := Try.underlying22,
  a22 := Try.isAgg22,
  z22 := Try.sizeOf22,
  v22 := Try.zeroValue22,
  a23 := Try.isAgg3,
  z23 := Try.sizeOf3,
  t25 := Try.underlying106,
  a25 := Try.isAgg106,
  z25 := Try.sizeOf106,
  v25 := Try.zeroValue106 }
end Go.Proofs.Ytlildelmeeojlaa
