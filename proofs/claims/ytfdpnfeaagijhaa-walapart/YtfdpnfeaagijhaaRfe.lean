/-
  penstockref03's forms: Uint, Zig, Int, Flag, Fixed, Bytes, Ints make new rows of bytes. Conditions: a row has at most 2^47 bytes.
-/
import Derived.Test.YtfdpnfeaagijhaaRd3

namespace Go.Proofs.Ytfdpnfeaagijhaa
open Go.RowKit
set_option linter.unusedVariables false

/-- A new row. -/
def Fresh (w w' : World) (v : Value) (l : List Nat) : Prop := Row w' v l ∧ New w v ∧ Below w.heap.size w w'

/-- What an append of the row's own leaves. -/
theorem fresh_app {w w1 w2 w3 : World} {v v' : Value} {l l' : List Nat} (h : Fresh w w1 v l) (hb : Below w1.heap.size w1 w2) (r : Row w3 v' l') (t : Touch (fun k => v.ownBlock = some k) w2 w3) (m : Moved w2 v v') : Fresh w w3 v' l' := by
  obtain ⟨_, h2, h3⟩ := h
  have h4 : Below w.heap.size w w2 := h3.trans (hb.mono h3.size)
  exact ⟨r, h2.moved m h4.size, below_touch h4 t h4.size (fun k hk => h2 k hk)⟩

end Go.Proofs.Ytfdpnfeaagijhaa
