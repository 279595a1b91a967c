/-
  seglog's name of a file. Conditions: the offset is below 100; the log's name has at most 2^40 bytes.
-/
import Derived.Test.YtkcoeofbobkaoabGreatDoorSg1
import Derived.Test.YtkcoeofbobkaoabGreatDoorSh1

namespace Go.Proofs.YtkcoeofbobkaoabGreatDoor
open Go.RowKit Go.Shelf
set_option linter.unusedVariables false

theorem Tryz.extra105 : Builder.Extra Tryz.prog Tryz.lays105_ren where
  sizeBuilder := by kernel_rfl
  liesBuilder := by kernel_rfl
  t5 := Tryz.underlying5
  a5 := Tryz.isAgg5
  z5 := Tryz.sizeOf5
  v5 := Tryz.zeroValue5
  infoByte := by kernel_rfl
  cellsByte := by kernel_rfl
  sizeByte := by kernel_rfl
  neB5 := by decide
theorem repeat8 (c : Nat) (w : World) (hc : c ≤ 100) :
    Calls Tryz.prog 116 #[.string ⟨#[48]⟩, .int .i64 (c : Nat)] w fun e w' => e = .returned (.string ⟨(Lib.repeatL [48] c).toArray⟩) ∧ Below w.heap.size w w' :=
  Any.strings_Repeat Tryz.lays105 Tryz.extra105 ⟨#[48]⟩ c w (by omega) (by show 1 * c ≤ _; omega)
theorem itoa8 (i : Nat) (hi : i < 100) (w : World) :
    Calls Tryz.prog 115 #[.int .i64 (i : Nat)] w fun e w' => e = .returned (.string ⟨(Lib.decDigits i).toArray⟩) ∧ w' = w := Any.strconv_Itoa_small { Tryz.laysItoa with } i hi w

/-- The name of a segment's file. -/
def fileN (nm : ByteArray) (n : Nat) : ByteArray := nm ++ ⟨#[46]⟩ ++ ⟨(Lib.repeatL [48] (8 - (Lib.decDigits n).length)).toArray⟩ ++ ⟨(Lib.decDigits n).toArray⟩
theorem digits_small {i : Nat} (hi : i < 100) : 0 < (Lib.decDigits i).length ∧ (Lib.decDigits i).length ≤ 2 := by
  rw [Lib.decDigits]
  split
  · simp
  · rw [Lib.decDigits, dif_pos (by omega)]; simp

section
variable {w : World} {lb : Nat} {nm : ByteArray}
set_option maxRecDepth 100000 in
theorem file_any (hc : w.cell? ⟨lb, 1, none⟩ = some (.string nm)) (hnm : nm.size ≤ 1099511627776) (hlb : lb < w.heap.size) (i : Nat) (hi : i < 100) :
    Calls Tryz.prog 86 #[.pointer (some ⟨lb, 0, none⟩), .int .i64 (i : Nat)] w fun e w' => AnsPost w (.string (fileN nm i)) e w' := by
  have IT := hide (itoa8 i hi w)
  obtain ⟨hd1, hd2⟩ := digits_small hi
  have EF : Hid (fileN nm i = nm ++ ⟨#[46]⟩ ++ ⟨(Lib.repeatL [48] (8 - (Lib.decDigits i).length)).toArray⟩ ++ ⟨(Lib.decDigits i).toArray⟩) := rfl
  generalize fileN nm i = F at *
  have RE := hide (repeat8 (8 - (Lib.decDigits i).length) w (by omega))
  have hsz : (⟨(Lib.decDigits i).toArray⟩ : ByteArray).size = (Lib.decDigits i).length := rfl
  have hsr : (⟨(Lib.repeatL [48] (8 - (Lib.decDigits i).length)).toArray⟩ : ByteArray).size ≤ 8 := by
    show (Lib.repeatL [48] (8 - (Lib.decDigits i).length)).toArray.size ≤ 8
    rw [List.size_toArray, Lib.repeatL_length]; simp
  generalize (⟨(Lib.decDigits i).toArray⟩ : ByteArray) = D at *
  generalize (⟨(Lib.repeatL [48] (8 - (Lib.decDigits i).length)).toArray⟩ : ByteArray) = R at *
  generalize (Lib.decDigits i).length = L at *
  have hL : ((8 : Int) - (L : Int)) = ((8 - L : Nat) : Int) := by omega
  go_enter Tryz.func86, Tryz.ntmps86
  go_wp2_with fail
  refine (unhide IT).mono ?_
  rintro e w1 ⟨rfl, rfl⟩
  go_wp2_with fail
  refine (unhide RE).mono ?_
  rintro e w2 ⟨rfl, b2⟩
  have hc2 : w2.cell? ⟨lb, 1, none⟩ = some (.string nm) := (b2.cell (p := ⟨lb, 1, none⟩) hlb).trans hc
  have B2 := hide b2
  clear b2 RE IT
  go_wp2
  go_returns
  exact AnsPost.mk (by rw [unhide EF]; rfl) (unhide B2)
end
end Go.Proofs.YtkcoeofbobkaoabGreatDoor
