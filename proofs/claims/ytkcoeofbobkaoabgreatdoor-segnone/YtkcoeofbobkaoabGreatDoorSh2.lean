/-
  sort.Search: the library's contract's premises, laid at this program. No conditions.
-/
import Derived.Test.YtkcoeofbobkaoabGreatDoorProg
import Derived.Shelf.SlSorted.Search

namespace Go.Proofs.YtkcoeofbobkaoabGreatDoor
open Go.Shelf
def Tryz.laysSearch_ren : Go.Shelf.Ren := ⟨fun | 16 => 45 | n => n, fun | 3 => 3 | 35 => 105 | 4 => 4 | 38 => 120 | n => n, fun | n => n⟩
theorem Tryz.laysSearch : Go.Proofs.SlLaysO.n16 Tryz.prog Tryz.laysSearch_ren := {
  mixed := by kernel_rfl,
  f16 := Tryz.func45.trans (congrArg some (by kernel_rfl)),
  t3 := Tryz.underlying3,
  a3 := Tryz.isAgg3,
  z3 := Tryz.sizeOf3,
  v3 := Tryz.zeroValue3,
  t4 := Tryz.underlying4,
  a4 := Tryz.isAgg4,
  z4 := Tryz.sizeOf4,
  v4 := Tryz.zeroValue4,
  t35 := Tryz.underlying105,
  a35 := Tryz.isAgg105,
  z35 := Tryz.sizeOf105,
  v35 := Tryz.zeroValue105,
  t38 := Tryz.underlying120,
  a38 := Tryz.isAgg120,
  z38 := Tryz.sizeOf120,
  v38 := Tryz.zeroValue120 }
end Go.Proofs.YtkcoeofbobkaoabGreatDoor
