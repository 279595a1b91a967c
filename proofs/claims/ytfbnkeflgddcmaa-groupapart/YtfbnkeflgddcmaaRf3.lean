/-
  penstockref03.Reader's Bytes and Ints. Conditions: the bytes are at most 2^47.
-/
import Derived.Test.YtfbnkeflgddcmaaRf2
import Derived.Deep.RegionLaw
namespace Go.Proofs.Ytfbnkeflgddcmaa
open Go.RowKit
set_option linter.unusedVariables false

/-- append(row, bytes...) as one step of a region that draws. -/
theorem step_row {ops : Array Oper} {o : Oper} {a : Act} {w : World} {K : Act → World → Prop} {Q : Exit → Act → World → Prop} {E : Prop}
    (hg : o.guard = none) (s x : Operand) (hop : o.op = Op.call { callee := Callee.builtin Builtin.append, args := #[s, x], argTypes := #[41, 41] })
    (v : Value) (l : List Nat) (hs : a.eval s = v) (hr : Row w v l) (ao : Option Addr) (c : Nat) (l2 : List Nat) (hx : a.eval x = .slice ao l2.length c) (hb : LAt w ao l2) (hnone : ao = none → c = 0) (hlen : l.length + l2.length ≤ 140737488355328)
    (hK : ∀ v' w', Row w' v' (l ++ l2) → Touch (fun k => v.ownBlock = some k) w w' → Moved w v v' → K (a.put o.dst v') w') :
    if Region.wanted o (yielded ops a.tmps) = true then Oper.wp Try.prog o a w K Q else E := by
  have hw : Region.wanted o (yielded ops a.tmps) = true := by simp [Region.wanted, hg]
  rw [if_pos hw]
  obtain ⟨i, hi, hz, hsz, hby⟩ := u8_info
  obtain ⟨v', w', hrun, r1, r2, r3⟩ := run_app (P := Try.prog) w 41 o.type 5 i (.int .u8 0) 1 Try.underlying41 hi hz hsz hby rfl v (vals l) hr.own ao l2.length c (vals l2) (vals_len l2) (src_vals hb) (one_vals l2) hnone (by rw [vals_len]; unfold maxLen; omega) (by rw [vals_len]; omega)
  unfold Oper.wp
  simp [execOp, hop, resolve, invoke, builtin, hs, hx, hrun, Result.andThen]
  exact hK v' w' ⟨by rw [← vals_app]; exact r1, fun y hy => by rcases List.mem_append.1 hy with h | h; exact hr.bytes y h; exact hb.bytes y h⟩ r2 r3

theorem take_one {t : List Nat} {p k : Nat} (h : p + k < t.length) : (t.drop p).take (k + 1) = (t.drop p).take k ++ [t.getD (p + k) 0] := by
  rw [List.take_add_one]
  simp [List.getD, h]

section
variable {a : Option Addr} {cap b : Nat} {t : List Nat} {s : Rst}

end
end Go.Proofs.Ytfbnkeflgddcmaa
