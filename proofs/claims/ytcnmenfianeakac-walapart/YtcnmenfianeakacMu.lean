/-
  sync.Mutex in the run of one goroutine, by the library's own contracts: Lock of a free lock, the deferred Unlock of a held one. Conditions: the lock's state word is 0 ahead of Lock, 1 ahead of Unlock.
-/
import Derived.Test.YtcnmenfianeakacProg
import Derived.Test.YtcnmenfianeakacBase
import Derived.Conc.MuLone
import Derived.WalkKit
import Derived.Defers
import Derived.Laws.LoneSync
import Derived.Laws.Pointers
import Derived.RegionTactic
import Derived.RegionCalls
import Derived.WalkLawsBesides
namespace Go.Proofs.Ytcnmenfianeakac
open Go.RowKit

/-- The numbers under which this program holds the lock's functions and types. -/
abbrev muLink : Go.Conc.Locks.MuLink := { lock := 74, unlock := 75, ilock := 83, iunlock := 84, lockSlow := 92, unlockSlow := 95, disable := 88, enable := 90, acquire := 91, relMerge := 93, cas32 := 89, add32 := 94, tMutex := 54, tIMutex := 52, tPMutex := 142, tPIMutex := 148, tPI32 := 150, tUP := 152, tNoCopy := 46, tU32 := 48 }
theorem muLib : Go.Conc.Locks.MuLib Try.prog muLink :=
  ⟨Try.func74, Try.func75, Try.func83, Try.func84, Try.func88, Try.func90, Try.func91, Try.func93, Try.func89, Try.func94, Try.underlying52, Try.runUnderlying52, Try.sizeOf52, Try.isAgg52, Try.zeroValue52, Try.underlying54, Try.runUnderlying54, Try.sizeOf54, Try.isAgg54, Try.zeroValue54, Try.underlying142, Try.runUnderlying142, Try.sizeOf142, Try.isAgg142, Try.zeroValue142, Try.underlying148, Try.runUnderlying148, Try.sizeOf148, Try.isAgg148, Try.zeroValue148, Try.underlying150, Try.runUnderlying150, Try.sizeOf150, Try.isAgg150, Try.zeroValue150, Try.underlying152, Try.runUnderlying152, Try.sizeOf152, Try.isAgg152, Try.zeroValue152, Try.underlying46, Try.runUnderlying46, Try.sizeOf46, Try.isAgg46, Try.zeroValue46, Try.underlying21, Try.runUnderlying21, Try.sizeOf21, Try.isAgg21, Try.zeroValue21, (by kernel_rfl)⟩

theorem unlock_deferred (a : Addr) (u : FrameMode) (w : World) (hc : w.cell? a = some (.int .i32 1)) (hz : w.frozen? a = false) :
    CallsD Try.prog 75 #[.pointer (some a)] u w fun e u' w' => u' = u ∧ (e = .returned (.tuple #[]) ∧ w' = w.setCell a (.int .i32 0)) :=
  Go.MuLone.unlock_deferred muLib a u w hc hz

theorem lock_free (a : Addr) (w : World) (hc : w.cell? a = some (.int .i32 0)) (hz : w.frozen? a = false) :
    Calls Try.prog 74 #[.pointer (some a)] w fun e w' => e = .returned (.tuple #[]) ∧ w' = w.setCell a (.int .i32 1) :=
  Go.MuLone.lock_free muLib a w hc hz
end Go.Proofs.Ytcnmenfianeakac
