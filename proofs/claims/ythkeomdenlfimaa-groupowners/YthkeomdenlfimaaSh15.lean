/-
  The library's contracts of slices.Clone, BinarySearch and Insert at ints, laid at this program. No conditions.
-/
import Derived.Test.YthkeomdenlfimaaProg
import Derived.Shelf.Slices.Clone
import Derived.Shelf.Slices.SearchI
import Derived.Shelf.Spec.SlicesInsert
namespace Go.Proofs.Ythkeomdenlfimaa
open Go.Shelf
def Try.lays215_ren : Go.Shelf.Ren := ⟨fun | 15 => 43 | n => n, fun | 22 => 22 | 3 => 3 | 4 => 4 | n => n, fun | n => n⟩
theorem Try.lays215 : Go.Proofs.Lays2.n15 Try.prog Try.lays215_ren := {
  mixed := by kernel_rfl,
  f15 := Try.func43.trans (congrArg some (by kernel_rfl)),
  t3 := Try.underlying3,
  a3 := Try.isAgg3,
  z3 := Try.sizeOf3,
  v3 := Try.zeroValue3,
  t4 := Try.underlying4,
  a4 := Try.isAgg4,
  z4 := Try.sizeOf4,
  v4 := Try.zeroValue4,
  t22 := Try.underlying22,
  a22 := Try.isAgg22,
  z22 := Try.sizeOf22,
  v22 := Try.zeroValue22,
  i3 := by kernel_rfl }
def Try.lays225_ren : Go.Shelf.Ren := ⟨fun | 25 => 42 | 31 => 64 | 32 => 65 | 37 => 70 | n => n, fun | 22 => 22 | 3 => 3 | 4 => 4 | 40 => 111 | 0 => 0 | n => n, fun | n => n⟩
theorem Try.lays225 : Go.Proofs.Lays2.n25 Try.prog Try.lays225_ren := {
  mixed := by kernel_rfl,
  f25 := Try.func42.trans (congrArg some (by kernel_rfl)),
  f31 := Try.func64.trans (congrArg some (by kernel_rfl)),
  f32 := Try.func65.trans (congrArg some (by kernel_rfl)),
  f37 := Try.func70.trans (congrArg some (by kernel_rfl)),
  t0 := Try.underlying0,
  a0 := Try.isAgg0,
  z0 := Try.sizeOf0,
  v0 := Try.zeroValue0,
  t3 := Try.underlying3,
  a3 := Try.isAgg3,
  z3 := Try.sizeOf3,
  v3 := Try.zeroValue3,
  t4 := Try.underlying4,
  a4 := Try.isAgg4,
  z4 := Try.sizeOf4,
  v4 := Try.zeroValue4,
  t22 := Try.underlying22,
  a22 := Try.isAgg22,
  z22 := Try.sizeOf22,
  v22 := Try.zeroValue22,
  t40 := Try.underlying111,
  a40 := Try.isAgg111,
  z40 := Try.sizeOf111,
  v40 := Try.zeroValue111 }
def Try.lays221_ren : Go.Shelf.Ren := ⟨fun | 21 => 44 | 27 => 66 | 28 => 67 | 35 => 71 | 39 => 72 | n => n, fun | 22 => 22 | 3 => 3 | 4 => 4 | 0 => 0 | n => n, fun | n => n⟩
theorem Try.lays221 : Go.Proofs.Lays2.n21 Try.prog Try.lays221_ren := {
  mixed := by kernel_rfl,
  f21 := Try.func44.trans (congrArg some (by kernel_rfl)),
  f27 := Try.func66.trans (congrArg some (by kernel_rfl)),
  f28 := Try.func67.trans (congrArg some (by kernel_rfl)),
  f35 := Try.func71.trans (congrArg some (by kernel_rfl)),
  f39 := Try.func72.trans (congrArg some (by kernel_rfl)),
  t0 := Try.underlying0,
  a0 := Try.isAgg0,
  z0 := Try.sizeOf0,
  v0 := Try.zeroValue0,
  t3 := Try.underlying3,
  a3 := Try.isAgg3,
  z3 := Try.sizeOf3,
  v3 := Try.zeroValue3,
  t4 := Try.underlying4,
  a4 := Try.isAgg4,
  z4 := Try.sizeOf4,
  v4 := Try.zeroValue4,
  t22 := Try.underlying22,
  a22 := Try.isAgg22,
  z22 := Try.sizeOf22,
  v22 := Try.zeroValue22,
  i3 := by kernel_rfl }
end Go.Proofs.Ythkeomdenlfimaa
