/-
  penstockref04.DocDecode, and 'awake' of layer 4. Conditions: the bytes are at most 2^47.
-/
import Derived.Test.YtcnmenfianeakacWFr2
import Derived.Lib.SlBytesConst
namespace Go.Proofs.Ytcnmenfianeakac
variable {Xo : Outer}
open Go.RowKit
set_option linter.unusedVariables false

theorem unfix_fix {n : Nat} (h : n < 4294967296) (u : List Nat) : unfix (fix n ++ u) 0 = n := by
  simp only [unfix, fix, List.cons_append, List.getD_cons_zero, List.getD_cons_succ, Nat.zero_add]
  omega
theorem unfix_fix4 {n : Nat} (m : Nat) (h : n < 4294967296) (u : List Nat) : unfix (fix m ++ (fix n ++ u)) 4 = n := by
  simp only [unfix, fix, List.cons_append, List.nil_append, List.getD_cons_zero, List.getD_cons_succ]
  omega
/-- A frame is read as what it is of, whatever stands behind it. -/
theorem dec_fenc {p : List Nat} (h : p.length ≤ 4096) (u : List Nat) : dec (fenc p ++ u) = (p, 8 + p.length, 0) := by
  have e : fenc p ++ u = fix p.length ++ (fix (sm p) ++ (p ++ u)) := by simp [fenc]
  have e0 : unfix (fenc p ++ u) 0 = p.length := by rw [e]; exact unfix_fix (by omega) _
  have e4 : unfix (fenc p ++ u) 4 = sm p := by rw [e]; exact unfix_fix4 _ (sm_lt p) _
  have ed : (fenc p ++ u).drop 8 = p ++ u := by rw [e]; rfl
  have el : (fenc p ++ u).length = 8 + p.length + u.length := by rw [List.length_append, fenc_len]
  have ep : (p ++ u).take p.length = p := List.take_left
  unfold dec
  rw [e0, e4, ed, ep, if_neg (by omega), if_neg (by omega), if_neg (by omega), if_pos rfl]

/-- Where the document's frame ends. -/
def docTo (at_ : Nat) (d : List Nat × Nat × Nat) : Nat := if d.2.2 = 0 then at_ + d.2.1 else 0

section
variable {w : World} {a : Option Addr} {cap : Nat} {t : List Nat}

end

theorem two_ab : unfix (fenc [97, 98]) 0 = 2 := by simpa [fenc] using unfix_fix (n := 2) (by omega) (fix (sm [97, 98]) ++ [97, 98])
theorem dec_ab : dec (fenc [97, 98]) = ([97, 98], 10, 0) := by
  have := dec_fenc (p := [97, 98]) (by simp) []
  rw [List.append_nil] at this
  exact this

end Go.Proofs.Ytcnmenfianeakac
