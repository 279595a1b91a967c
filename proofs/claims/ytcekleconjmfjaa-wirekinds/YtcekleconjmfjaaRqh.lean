/-
  What wire's head leaves. Conditions: none.
-/
import Derived.Test.YtcekleconjmfjaaRq0
namespace Go.Proofs.Ytcekleconjmfjaa
open Go.RowKit
set_option linter.unusedVariables false
def hdM (x1 x2 x3 x4 x5 : Int) : Mg := { mg0 with kd := x1, fr := x2, tt := x3, co := x4, er := x5 }
/-- What head leaves. -/
def HdP (w : World) (b : Nat) (a : Option Addr) (cap : Nat) (t : List Nat) (s5 : Rst) (x1 x2 x3 x4 x5 : Int) (e : Ending) (w' : World) : Prop :=
  Touch (fun q => q = b ∨ w.heap.size ≤ q) w w' ∧ (kndE x1 = 0 → e = .returned (.agg (mgL (hdM x1 x2 x3 x4 x5)).toArray) ∧ RdAt 97 w' b a cap t s5) ∧ (kndE x1 ≠ 0 → e = gone 1)
/-- A reader's number, read in any later world. -/
theorem rint_later {w W : World} {b : Nat} {a : Option Addr} {cap : Nat} {t : List Nat} {s s' : Rst} {x : Int} (h : RdAt 97 w b a cap t s) (e : rI t s = (x, s')) (hb : Below w.heap.size w W) :
    Calls Try.prog 70 #[.pointer (some ⟨b, 0, none⟩)] W fun e w' => e = .returned (.int .i64 x) ∧ RdAt 97 w' b a cap t s' ∧ Touch (· = b) W w' := by
  have := rint_any W (h.later hb)
  rw [e] at this
  exact this
end Go.Proofs.Ytcekleconjmfjaa
