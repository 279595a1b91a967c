/-
  DERIVED. GIVEN WITH THE SEED: THE CARDS: each row of YtkcoeofbobkaoabGreatDoorRows.lean that lists a variable, with what it lists TIED to the program's text (the seventh form; the later family's looks); each row that meets fmt, with fmt's text TOLD by the authors' own Lean function (tested against real Go, not proved from fmt's source: count such statements apart). THE CARD IS WHAT COUNTS. Prove the row's statement (the work); the ties are given (YtkcoeofbobkaoabGreatDoorTie.lean); close each card by the builder's one call (the guide's Derived/Test/ToyasCard.lean, 'card_holds'). Laid BY PROGRAM, IN A SANDBOX (cutbox-door.mjs). By AI agents, Wed Nov 11 2026. No macro, syntax, notation, axiom, sorry.
-/
import Derived.Test.YtkcoeofbobkaoabGreatDoorRows
import GoSem.ClaimSeven
namespace Go.Proofs.YtkcoeofbobkaoabGreatDoor
namespace Rows

/-- THE TIED CARD OF 'penstocklaw08.SegOpens'. -/
def segOpensCard : Claim7 := { stood := { row := segOpensRow, standIns := [], harness := (true, "1eb5fe8fc47e96048c270540567c39f7d0c596ad7efc2340035ce9727a3a37bf"), looks := false }, kinds := [], alts := [], laidByText := true, laidKinds := [.data, .data, .data], laidTests := true, laidLooks := .later }
def SegOpensCardSaid : Prop := Claim7.holds Tryz.pinned (.plain (OpenSpec.ofChange segOpensSpec)) segOpensCard

/-- THE TIED CARD OF 'penstocklaw08.SegNone'. -/
def segNoneCard : Claim7 := { stood := { row := segNoneRow, standIns := [], harness := (true, "1eb5fe8fc47e96048c270540567c39f7d0c596ad7efc2340035ce9727a3a37bf"), looks := false }, kinds := [], alts := [], laidByText := true, laidKinds := [.data, .data, .data], laidTests := true, laidLooks := .later }
def SegNoneCardSaid : Prop := Claim7.holds Tryz.pinned (.plain (OpenSpec.ofChange segNoneSpec)) segNoneCard

/-- THE SECOND FORM's CARD OF 'penstocklaw08.SegOpens'. -/
def segOpensUptoCard : Claim7 := { stood := { row := segOpensUptoRow, standIns := [], harness := (true, "1eb5fe8fc47e96048c270540567c39f7d0c596ad7efc2340035ce9727a3a37bf"), looks := false }, kinds := [], alts := [], laidByText := true, laidKinds := [.data, .data, .data], laidTests := true, laidLooks := .later }
def SegOpensUptoCardSaid : Prop := Claim7.holds Tryz.pinned (.plain (OpenSpec.upto segOpensSpec)) segOpensUptoCard

/-- THE SECOND FORM's CARD OF 'penstocklaw08.SegNone'. -/
def segNoneUptoCard : Claim7 := { stood := { row := segNoneUptoRow, standIns := [], harness := (true, "1eb5fe8fc47e96048c270540567c39f7d0c596ad7efc2340035ce9727a3a37bf"), looks := false }, kinds := [], alts := [], laidByText := true, laidKinds := [.data, .data, .data], laidTests := true, laidLooks := .later }
def SegNoneUptoCardSaid : Prop := Claim7.holds Tryz.pinned (.plain (OpenSpec.upto segNoneSpec)) segNoneUptoCard
end Rows
end Go.Proofs.YtkcoeofbobkaoabGreatDoor
