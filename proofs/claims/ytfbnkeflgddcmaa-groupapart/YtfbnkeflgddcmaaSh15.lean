/-
  The library functions that this seat calls, by their contracts.
-/
import Derived.Test.YtfbnkeflgddcmaaProg
import Derived.Shelf.Sort.Plain
import Derived.Shelf.Slices.Turned
import Derived.Shelf.Slices.Clone
import Derived.Shelf.Slices.SearchI
import Derived.Shelf.Spec.SlicesInsertGrow
namespace Go.Proofs.Ytfbnkeflgddcmaa
open Go.Shelf
def Try.lays215_ren : Go.Shelf.Ren := ⟨fun | 15 => 24 | n => n, fun | 22 => 27 | 3 => 3 | 4 => 4 | n => n, fun | n => n⟩
theorem Try.lays215 : Go.Proofs.Lays2.n15 Try.prog Try.lays215_ren := {
  mixed := by kernel_rfl,
  f15 := Try.func24.trans (congrArg some (by kernel_rfl)),
  t3 := Try.underlying3,
  a3 := Try.isAgg3,
  z3 := Try.sizeOf3,
  v3 := Try.zeroValue3,
  t4 := Try.underlying4,
  a4 := Try.isAgg4,
  z4 := Try.sizeOf4,
  v4 := Try.zeroValue4,
  t22 := Try.underlying27,
  a22 := Try.isAgg27,
  z22 := Try.sizeOf27,
  v22 := Try.zeroValue27,
  i3 := by kernel_rfl }
def Try.lays225_ren : Go.Shelf.Ren := ⟨fun | 25 => 25 | 31 => 32 | 32 => 33 | 37 => 41 | n => n, fun | 22 => 27 | 3 => 3 | 4 => 4 | 40 => 78 | 0 => 0 | n => n, fun | n => n⟩
theorem Try.lays225 : Go.Proofs.Lays2.n25 Try.prog Try.lays225_ren := {
  mixed := by kernel_rfl,
  f25 := Try.func25.trans (congrArg some (by kernel_rfl)),
  f31 := Try.func32.trans (congrArg some (by kernel_rfl)),
  f32 := Try.func33.trans (congrArg some (by kernel_rfl)),
  f37 := Try.func41.trans (congrArg some (by kernel_rfl)),
  t0 := Try.underlying0,
  a0 := Try.isAgg0,
  z0 := Try.sizeOf0,
  v0 := Try.zeroValue0,
  t3 := Try.underlying3,
  a3 := Try.isAgg3,
  z3 := Try.sizeOf3,
  v3 := Try.zeroValue3,
  t4 := Try.underlying4,
  a4 := Try.isAgg4,
  z4 := Try.sizeOf4,
  v4 := Try.zeroValue4,
  t22 := Try.underlying27,
  a22 := Try.isAgg27,
  z22 := Try.sizeOf27,
  v22 := Try.zeroValue27,
  t40 := Try.underlying78,
  a40 := Try.isAgg78,
  z40 := Try.sizeOf78,
  v40 := Try.zeroValue78 }
def Try.lays221_ren : Go.Shelf.Ren := ⟨fun | 21 => 26 | 27 => 34 | 28 => 35 | 35 => 42 | 39 => 49 | n => n, fun | 22 => 27 | 3 => 3 | 4 => 4 | 0 => 0 | n => n, fun | n => n⟩
theorem Try.lays221 : Go.Proofs.Lays2.n21 Try.prog Try.lays221_ren := {
  mixed := by kernel_rfl,
  f21 := Try.func26.trans (congrArg some (by kernel_rfl)),
  f27 := Try.func34.trans (congrArg some (by kernel_rfl)),
  f28 := Try.func35.trans (congrArg some (by kernel_rfl)),
  f35 := Try.func42.trans (congrArg some (by kernel_rfl)),
  f39 := Try.func49.trans (congrArg some (by kernel_rfl)),
  t0 := Try.underlying0,
  a0 := Try.isAgg0,
  z0 := Try.sizeOf0,
  v0 := Try.zeroValue0,
  t3 := Try.underlying3,
  a3 := Try.isAgg3,
  z3 := Try.sizeOf3,
  v3 := Try.zeroValue3,
  t4 := Try.underlying4,
  a4 := Try.isAgg4,
  z4 := Try.sizeOf4,
  v4 := Try.zeroValue4,
  t22 := Try.underlying27,
  a22 := Try.isAgg27,
  z22 := Try.sizeOf27,
  v22 := Try.zeroValue27,
  i3 := by kernel_rfl }
end Go.Proofs.Ytfbnkeflgddcmaa
