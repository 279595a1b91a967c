/-
  sync.Mutex in the run of one goroutine, by the library's own contracts: Lock of a free lock, the deferred Unlock of a held one. Conditions: the lock's state word is 0 ahead of Lock, 1 ahead of Unlock.
-/
import Derived.Test.YtbojiafnapcgnacProg
import Derived.Test.YtbojiafnapcgnacBase
import Derived.Conc.MuLone
import Derived.WalkKit
import Derived.Defers
import Derived.Laws.LoneSync
import Derived.Laws.Pointers
import Derived.RegionTactic
import Derived.RegionCalls
import Derived.WalkLawsBesides
namespace Go.Proofs.Ytbojiafnapcgnac
open Go.RowKit

/-- The numbers under which this program holds the lock's functions and types. -/
abbrev muLink : Go.Conc.Locks.MuLink := { lock := 14, unlock := 15, ilock := 17, iunlock := 18, lockSlow := 25, unlockSlow := 28, disable := 21, enable := 23, acquire := 24, relMerge := 26, cas32 := 22, add32 := 27, tMutex := 38, tIMutex := 36, tPMutex := 52, tPIMutex := 55, tPI32 := 57, tUP := 59, tNoCopy := 31, tU32 := 22 }
theorem muLib : Go.Conc.Locks.MuLib Try.prog muLink :=
  ⟨Try.func14, Try.func15, Try.func17, Try.func18, Try.func21, Try.func23, Try.func24, Try.func26, Try.func22, Try.func27, Try.underlying36, Try.runUnderlying36, Try.sizeOf36, Try.isAgg36, Try.zeroValue36, Try.underlying38, Try.runUnderlying38, Try.sizeOf38, Try.isAgg38, Try.zeroValue38, Try.underlying52, Try.runUnderlying52, Try.sizeOf52, Try.isAgg52, Try.zeroValue52, Try.underlying55, Try.runUnderlying55, Try.sizeOf55, Try.isAgg55, Try.zeroValue55, Try.underlying57, Try.runUnderlying57, Try.sizeOf57, Try.isAgg57, Try.zeroValue57, Try.underlying59, Try.runUnderlying59, Try.sizeOf59, Try.isAgg59, Try.zeroValue59, Try.underlying31, Try.runUnderlying31, Try.sizeOf31, Try.isAgg31, Try.zeroValue31, Try.underlying21, Try.runUnderlying21, Try.sizeOf21, Try.isAgg21, Try.zeroValue21, (by kernel_rfl)⟩

theorem unlock_deferred (a : Addr) (u : FrameMode) (w : World) (hc : w.cell? a = some (.int .i32 1)) (hz : w.frozen? a = false) :
    CallsD Try.prog 15 #[.pointer (some a)] u w fun e u' w' => u' = u ∧ (e = .returned (.tuple #[]) ∧ w' = w.setCell a (.int .i32 0)) :=
  Go.MuLone.unlock_deferred muLib a u w hc hz

theorem lock_free (a : Addr) (w : World) (hc : w.cell? a = some (.int .i32 0)) (hz : w.frozen? a = false) :
    Calls Try.prog 14 #[.pointer (some a)] w fun e w' => e = .returned (.tuple #[]) ∧ w' = w.setCell a (.int .i32 1) :=
  Go.MuLone.lock_free muLib a w hc hz
end Go.Proofs.Ytbojiafnapcgnac
