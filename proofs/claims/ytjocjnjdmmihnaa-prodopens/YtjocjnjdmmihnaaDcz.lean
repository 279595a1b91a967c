/-
  penstockref07's Size and DocCheck. Conditions: none beyond those of the parameters' types.
-/
import Derived.Test.YtjocjnjdmmihnaaCkz
namespace Go.Proofs.Ytjocjnjdmmihnaa
open Go.RowKit
set_option linter.unusedVariables false

set_option maxRecDepth 100000 in
theorem rsize_any (b : Bt) (a : Option Addr) (cap : Nat) (w : World) :
    Calls Try.prog 12 #[bv b a cap] w fun e w' => IntPost w (if b.ctl = true then 1 else b.vs.length) e w' := by
  obtain ⟨base, epoch, pid, pep, seq, txn, ctl, com, vs⟩ := b
  cases ctl
  · go_enter Try.func12, Try.ntmps12
    go_wp2
    go_returns
    exact ⟨rfl, (Below.refl _ _).alloc (Nat.le_refl _) _⟩
  · go_enter Try.func12, Try.ntmps12
    go_wp2
    go_returns
    exact ⟨rfl, (Below.refl _ _).alloc (Nat.le_refl _) _⟩

end Go.Proofs.Ytjocjnjdmmihnaa
