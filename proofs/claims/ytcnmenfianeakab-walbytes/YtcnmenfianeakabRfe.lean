/-
  penstockref03's forms: Uint, Zig, Int, Flag, Fixed, Bytes, Ints make new rows of bytes. Conditions: a row has at most 2^47 bytes.
-/
import Derived.Test.YtcnmenfianeakabRd2
namespace Go.Proofs.Ytcnmenfianeakab
open Go.RowKit
set_option linter.unusedVariables false

/-- A new row. -/
def Fresh (w w' : World) (v : Value) (l : List Nat) : Prop := Row w' v l ∧ New w v ∧ Below w.heap.size w w'

/-- What an append of the row's own leaves. -/
theorem fresh_app {w w1 w2 w3 : World} {v v' : Value} {l l' : List Nat} (h : Fresh w w1 v l) (hb : Below w1.heap.size w1 w2) (r : Row w3 v' l') (t : Touch (fun k => v.ownBlock = some k) w2 w3) (m : Moved w2 v v') : Fresh w w3 v' l' := by
  obtain ⟨_, h2, h3⟩ := h
  have h4 : Below w.heap.size w w2 := h3.trans (hb.mono h3.size)
  exact ⟨r, h2.moved m h4.size, below_touch h4 t h4.size (fun k hk => h2 k hk)⟩

set_option maxRecDepth 100000 in
theorem efix_any (n : Nat) (w : World) (hn : n < 4294967296) :
    Calls Try.prog 52 #[.int .u32 n] w fun e w' => ∃ v, e = .returned v ∧ Fresh w w' v (fix n) := by
  have hn4 : n / 16777216 % 256 = n / 16777216 := by omega
  have hcs : #[Value.int IntKind.u8 ((n : Int) % 256), Value.int IntKind.u8 ((n : Int) / 256 % 256), Value.int IntKind.u8 ((n : Int) / 65536 % 256), Value.int IntKind.u8 ((n : Int) / 16777216)].toList = vals (fix n) := by
    simp [vals, fix, hn4]
  have F := hide (Row.lit w (fix n) (fix_bytes n) _ hcs (by simp [maxLen, fix]))
  clear hcs
  go_enter Try.func52, Try.ntmps52
  go_wp2
  go_returns
  exact ⟨_, rfl, unhide F, fun k hk => by simp [Value.ownBlock] at hk; omega, (Below.refl _ _).alloc (Nat.le_refl _) _⟩

end Go.Proofs.Ytcnmenfianeakab
