/-
  sync.Mutex in the run of one goroutine, by the library's own contracts: Lock of a free lock, the deferred Unlock of a held one. Conditions: the lock's state word is 0 ahead of Lock, 1 ahead of Unlock.
-/
import Derived.Test.YtfdpnfeaagijhaaProg
import Derived.Test.YtfdpnfeaagijhaaBytes
import Derived.Conc.MuLone
import Derived.WalkKit
import Derived.Defers
import Derived.Laws.LoneSync
import Derived.Laws.Pointers
import Derived.RegionTactic
import Derived.RegionCalls
import Derived.WalkLawsBesides

namespace Go.Proofs.Ytfdpnfeaagijhaa
open Go.RowKit

/-- The numbers under which this program holds the lock's functions and types. -/
abbrev muLink : Go.Conc.Locks.MuLink := { lock := 60, unlock := 61, ilock := 74, iunlock := 75, lockSlow := 88, unlockSlow := 91, disable := 84, enable := 86, acquire := 87, relMerge := 89, cas32 := 85, add32 := 90, tMutex := 48, tIMutex := 46, tPMutex := 133, tPIMutex := 142, tPI32 := 144, tUP := 146, tNoCopy := 40, tU32 := 42 }
theorem muLib : Go.Conc.Locks.MuLib Try.prog muLink :=
  ⟨Try.func60, Try.func61, Try.func74, Try.func75, Try.func84, Try.func86, Try.func87, Try.func89, Try.func85, Try.func90, Try.underlying46, Try.runUnderlying46, Try.sizeOf46, Try.isAgg46, Try.zeroValue46, Try.underlying48, Try.runUnderlying48, Try.sizeOf48, Try.isAgg48, Try.zeroValue48, Try.underlying133, Try.runUnderlying133, Try.sizeOf133, Try.isAgg133, Try.zeroValue133, Try.underlying142, Try.runUnderlying142, Try.sizeOf142, Try.isAgg142, Try.zeroValue142, Try.underlying144, Try.runUnderlying144, Try.sizeOf144, Try.isAgg144, Try.zeroValue144, Try.underlying146, Try.runUnderlying146, Try.sizeOf146, Try.isAgg146, Try.zeroValue146, Try.underlying40, Try.runUnderlying40, Try.sizeOf40, Try.isAgg40, Try.zeroValue40, Try.underlying21, Try.runUnderlying21, Try.sizeOf21, Try.isAgg21, Try.zeroValue21, (by kernel_rfl)⟩

theorem unlock_deferred (a : Addr) (u : FrameMode) (w : World) (hc : w.cell? a = some (.int .i32 1)) (hz : w.frozen? a = false) :
    CallsD Try.prog 61 #[.pointer (some a)] u w fun e u' w' => u' = u ∧ (e = .returned (.tuple #[]) ∧ w' = w.setCell a (.int .i32 0)) :=
  Go.MuLone.unlock_deferred muLib a u w hc hz

theorem lock_free (a : Addr) (w : World) (hc : w.cell? a = some (.int .i32 0)) (hz : w.frozen? a = false) :
    Calls Try.prog 60 #[.pointer (some a)] w fun e w' => e = .returned (.tuple #[]) ∧ w' = w.setCell a (.int .i32 1) :=
  Go.MuLone.lock_free muLib a w hc hz
end Go.Proofs.Ytfdpnfeaagijhaa
