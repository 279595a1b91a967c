/-
  The library functions that this seat calls, by their contracts.
-/
import Derived.Test.YtbbcbmlkbdmdfaaProg
import Derived.Shelf.Sort.Plain
import Derived.Shelf.Slices.Turned
import Derived.Shelf.Slices.Clone
import Derived.Shelf.Slices.SearchI
import Derived.Shelf.Spec.SlicesInsertGrow
namespace Go.Proofs.Ytbbcbmlkbdmdfaa
open Go.Shelf
def Try.lays215_ren : Go.Shelf.Ren := ⟨fun | 15 => 37 | n => n, fun | 22 => 22 | 3 => 3 | 4 => 4 | n => n, fun | n => n⟩
theorem Try.lays215 : Go.Proofs.Lays2.n15 Try.prog Try.lays215_ren := {
  mixed := by kernel_rfl,
  f15 := Try.func37.trans (congrArg some (by kernel_rfl)),
  t3 := Try.underlying3,
  a3 := Try.isAgg3,
  z3 := Try.sizeOf3,
  v3 := Try.zeroValue3,
  t4 := Try.underlying4,
  a4 := Try.isAgg4,
  z4 := Try.sizeOf4,
  v4 := Try.zeroValue4,
  t22 := Try.underlying22,
  a22 := Try.isAgg22,
  z22 := Try.sizeOf22,
  v22 := Try.zeroValue22,
  i3 := by kernel_rfl }
def Try.lays225_ren : Go.Shelf.Ren := ⟨fun | 25 => 36 | 31 => 48 | 32 => 49 | 37 => 54 | n => n, fun | 22 => 22 | 3 => 3 | 4 => 4 | 40 => 85 | 0 => 0 | n => n, fun | n => n⟩
theorem Try.lays225 : Go.Proofs.Lays2.n25 Try.prog Try.lays225_ren := {
  mixed := by kernel_rfl,
  f25 := Try.func36.trans (congrArg some (by kernel_rfl)),
  f31 := Try.func48.trans (congrArg some (by kernel_rfl)),
  f32 := Try.func49.trans (congrArg some (by kernel_rfl)),
  f37 := Try.func54.trans (congrArg some (by kernel_rfl)),
  t0 := Try.underlying0,
  a0 := Try.isAgg0,
  z0 := Try.sizeOf0,
  v0 := Try.zeroValue0,
  t3 := Try.underlying3,
  a3 := Try.isAgg3,
  z3 := Try.sizeOf3,
  v3 := Try.zeroValue3,
  t4 := Try.underlying4,
  a4 := Try.isAgg4,
  z4 := Try.sizeOf4,
  v4 := Try.zeroValue4,
  t22 := Try.underlying22,
  a22 := Try.isAgg22,
  z22 := Try.sizeOf22,
  v22 := Try.zeroValue22,
  t40 := Try.underlying85,
  a40 := Try.isAgg85,
  z40 := Try.sizeOf85,
  v40 := Try.zeroValue85 }
def Try.lays221_ren : Go.Shelf.Ren := ⟨fun | 21 => 38 | 27 => 50 | 28 => 51 | 35 => 55 | 39 => 56 | n => n, fun | 22 => 22 | 3 => 3 | 4 => 4 | 0 => 0 | n => n, fun | n => n⟩
theorem Try.lays221 : Go.Proofs.Lays2.n21 Try.prog Try.lays221_ren := {
  mixed := by kernel_rfl,
  f21 := Try.func38.trans (congrArg some (by kernel_rfl)),
  f27 := Try.func50.trans (congrArg some (by kernel_rfl)),
  f28 := Try.func51.trans (congrArg some (by kernel_rfl)),
  f35 := Try.func55.trans (congrArg some (by kernel_rfl)),
  f39 := Try.func56.trans (congrArg some (by kernel_rfl)),
  t0 := Try.underlying0,
  a0 := Try.isAgg0,
  z0 := Try.sizeOf0,
  v0 := Try.zeroValue0,
  t3 := Try.underlying3,
  a3 := Try.isAgg3,
  z3 := Try.sizeOf3,
  v3 := Try.zeroValue3,
  t4 := Try.underlying4,
  a4 := Try.isAgg4,
  z4 := Try.sizeOf4,
  v4 := Try.zeroValue4,
  t22 := Try.underlying22,
  a22 := Try.isAgg22,
  z22 := Try.sizeOf22,
  v22 := Try.zeroValue22,
  i3 := by kernel_rfl }
end Go.Proofs.Ytbbcbmlkbdmdfaa
