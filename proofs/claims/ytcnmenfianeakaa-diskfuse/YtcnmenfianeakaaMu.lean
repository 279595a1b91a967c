/-
  sync.Mutex in the run of one goroutine, by the library's own contracts: Lock of a free lock, the deferred Unlock of a held one. Conditions: the lock's state word is 0 ahead of Lock, 1 ahead of Unlock.
-/
import Derived.Test.YtcnmenfianeakaaProg
import Derived.Test.YtcnmenfianeakaaBase
import Derived.Conc.MuLone
import Derived.WalkKit
import Derived.Defers
import Derived.Laws.LoneSync
import Derived.Laws.Pointers
import Derived.RegionTactic
import Derived.RegionCalls
import Derived.WalkLawsBesides
namespace Go.Proofs.Ytcnmenfianeakaa
open Go.RowKit

/-- The numbers under which this program holds the lock's functions and types. -/
abbrev muLink : Go.Conc.Locks.MuLink := { lock := 97, unlock := 98, ilock := 101, iunlock := 102, lockSlow := 109, unlockSlow := 112, disable := 105, enable := 107, acquire := 108, relMerge := 110, cas32 := 106, add32 := 111, tMutex := 76, tIMutex := 74, tPMutex := 167, tPIMutex := 170, tPI32 := 172, tUP := 174, tNoCopy := 69, tU32 := 42 }
theorem muLib : Go.Conc.Locks.MuLib Try.prog muLink :=
  ⟨Try.func97, Try.func98, Try.func101, Try.func102, Try.func105, Try.func107, Try.func108, Try.func110, Try.func106, Try.func111, Try.underlying74, Try.runUnderlying74, Try.sizeOf74, Try.isAgg74, Try.zeroValue74, Try.underlying76, Try.runUnderlying76, Try.sizeOf76, Try.isAgg76, Try.zeroValue76, Try.underlying167, Try.runUnderlying167, Try.sizeOf167, Try.isAgg167, Try.zeroValue167, Try.underlying170, Try.runUnderlying170, Try.sizeOf170, Try.isAgg170, Try.zeroValue170, Try.underlying172, Try.runUnderlying172, Try.sizeOf172, Try.isAgg172, Try.zeroValue172, Try.underlying174, Try.runUnderlying174, Try.sizeOf174, Try.isAgg174, Try.zeroValue174, Try.underlying69, Try.runUnderlying69, Try.sizeOf69, Try.isAgg69, Try.zeroValue69, Try.underlying21, Try.runUnderlying21, Try.sizeOf21, Try.isAgg21, Try.zeroValue21, (by kernel_rfl)⟩

theorem unlock_deferred (a : Addr) (u : FrameMode) (w : World) (hc : w.cell? a = some (.int .i32 1)) (hz : w.frozen? a = false) :
    CallsD Try.prog 98 #[.pointer (some a)] u w fun e u' w' => u' = u ∧ (e = .returned (.tuple #[]) ∧ w' = w.setCell a (.int .i32 0)) :=
  Go.MuLone.unlock_deferred muLib a u w hc hz

theorem lock_free (a : Addr) (w : World) (hc : w.cell? a = some (.int .i32 0)) (hz : w.frozen? a = false) :
    Calls Try.prog 97 #[.pointer (some a)] w fun e w' => e = .returned (.tuple #[]) ∧ w' = w.setCell a (.int .i32 1) :=
  Go.MuLone.lock_free muLib a w hc hz
end Go.Proofs.Ytcnmenfianeakaa
