/-
  penstockref03.Reader's Bytes and Ints. Conditions: the bytes are at most 2^47.
-/
import Derived.Test.YtblmondkdcpkaaaZ05
import Derived.Test.YtblmondkdcpkaaaZ06
import Derived.Test.YtblmondkdcpkaaaZ04
import Derived.Test.YtblmondkdcpkaaaZ07
import Derived.Deep.RegionLaw

/-
  Commands, as they lie; isCmd. Conditions: as each says.
-/
namespace Go.Proofs.Ytblmondkdcpkaaa
open Go.RowKit
set_option linter.unusedVariables false

theorem take_snoc {l : List Int} {k : Nat} (h : k < l.length) : l.take (k + 1) = l.take k ++ [l.getD k 0] := by
  rw [List.take_add_one, List.getElem?_eq_getElem h]
  simp [List.getD, h]
/-- A command, and where its list lies. -/
structure Cm where
  kd : Int
  nd : Int
  pt : Int
  ep : Int
  ve : Int
  a : Option Addr
  k : Nat
  l : List Int
def cmA (c : Cm) : Array Value := #[.int .i64 c.kd, .int .i64 c.nd, .int .i64 c.pt, .int .i64 c.ep, .int .i64 c.ve, .slice c.a c.l.length c.k]
structure CIn (w : World) (c : Cm) : Prop where
  li : IAt w c.a c.l
  len : c.l.length ≤ maxLen
theorem CIn.later {w w' : World} {c : Cm} (h : CIn w c) (hb : Below w.heap.size w w') : CIn w' c := ⟨h.li.later hb, h.len⟩
theorem CIn.keep {w w' : World} {c : Cm} {S : Nat → Prop} (h : CIn w c) (t : Touch S w w') (hs : 0 < c.l.length → ∀ x, c.a = some x → ¬ S x.block) : CIn w' c := ⟨h.li.keep t hs, h.len⟩
def isC (c : Cm) : Bool := decide (1 ≤ c.kd) && decide (c.kd ≤ 5) && decide (c.l.length ≤ 5)
theorem box6 (w : World) (c0 c1 c2 c3 c4 : Int) (v : Value) (t : TypeId) : (w.alloc (.cells #[.int .i64 c0, .int .i64 c1, .int .i64 c2, .int .i64 c3, .int .i64 c4, v] t)).heap[w.heap.size]? = some (.cells #[.int .i64 c0, .int .i64 c1, .int .i64 c2, .int .i64 c3, .int .i64 c4, v] t) := heap_new _ _
theorem isCmd_any (w : World) (c : Cm) (hl : c.l.length ≤ maxLen) : Calls Try.prog 86 #[.agg (cmA c)] w fun e w' => e = .returned (.bool (isC c)) ∧ Below w.heap.size w w' := by
  obtain ⟨kd, nd, pt, ep, ve, a, k, l⟩ := c
  unfold isC cmA
  simp only at hl ⊢
  have hb : l.length ≤ 9223372036854775807 := by unfold maxLen at hl; omega
  clear hl
  generalize l.length = n at *
  have B := (Below.refl w.heap.size w).alloc (Nat.le_refl _) (.cells #[.int .i64 kd, .int .i64 nd, .int .i64 pt, .int .i64 ep, .int .i64 ve, .slice a n k] 34)
  by_cases h1 : 1 ≤ kd
  · by_cases h2 : kd ≤ 5
    · by_cases h3 : (n : Int) ≤ 5
      all_goals
        go_enter Try.func86, Try.ntmps86
        go_wp2
        go_returns
        exact ⟨by simp [h1, h2]; omega, B⟩
    · go_enter Try.func86, Try.ntmps86
      go_wp2
      go_returns
      exact ⟨by simp; intros; omega, B⟩
  · go_enter Try.func86, Try.ntmps86
    go_wp2
    go_returns
    exact ⟨by simp; intros; omega, B⟩
end Go.Proofs.Ytblmondkdcpkaaa


/-
  penstockref03.Reader's calls are the same plain functions on lists. Conditions: the bytes are at most 2^47.
-/
namespace Go.Proofs.Ytblmondkdcpkaaa
open Go.RowKit
set_option linter.unusedVariables false

section
variable {a : Option Addr} {cap b : Nat} {t : List Nat} {s : Rst}

theorem add_step {acc x k : Nat} (hk : k ≤ 9) (hacc : acc < 128 ^ k) (h9 : k = 9 → x ≤ 1) : IntKind.u64.wrap ((acc : Int) + IntKind.u64.wrap ((x : Int) % 128 * 2 ^ (7 * k))) = ((acc + x % 128 * 128 ^ k : Nat) : Int) := by
  have h := sum_fits (x := x) hk hacc h9
  rw [sh_wrap hk h9, IntKind.wrap_u64]
  omega

end
end Go.Proofs.Ytblmondkdcpkaaa


/-
  penstockref03.Reader's other calls. Conditions: the bytes are at most 2^47.
-/
namespace Go.Proofs.Ytblmondkdcpkaaa
open Go.RowKit
set_option linter.unusedVariables false


/-- The upper bytes of four. -/
def upf (t : List Nat) (p : Nat) : Nat → Nat
  | 0 => 0
  | j + 1 => 256 * upf t p j + t.getD (p + (3 - j)) 0
theorem upf_lt {t : List Nat} (h : ∀ x ∈ t, x < 256) {p : Nat} (hp : p + 4 ≤ t.length) (j : Nat) (hj : j ≤ 4) : upf t p j < 256 ^ j := by
  induction j with
  | zero => simp [upf]
  | succ j ih =>
    have h1 := ih (by omega)
    have h2 : t.getD (p + (3 - j)) 0 < 256 := h _ (getD_mem (by omega))
    rw [upf, Nat.pow_succ]
    omega
theorem upf_four (t : List Nat) (p : Nat) : upf t p 4 = unfix t p := by
  simp only [upf, unfix, Nat.sub_self, Nat.add_zero, show 3 - 1 = 2 from rfl, show 3 - 2 = 1 from rfl, show 3 - 0 = 3 from rfl]
  omega

section
variable {a : Option Addr} {cap b : Nat} {t : List Nat} {s : Rst}


end
end Go.Proofs.Ytblmondkdcpkaaa


namespace Go.Proofs.Ytblmondkdcpkaaa
open Go.RowKit
set_option linter.unusedVariables false

/-- append(row, bytes...) as one step of a region that draws. -/
theorem step_row {ops : Array Oper} {o : Oper} {a : Act} {w : World} {K : Act → World → Prop} {Q : Exit → Act → World → Prop} {E : Prop}
    (hg : o.guard = none) (s x : Operand) (hop : o.op = Op.call { callee := Callee.builtin Builtin.append, args := #[s, x], argTypes := #[24, 24] })
    (v : Value) (l : List Nat) (hs : a.eval s = v) (hr : Row w v l) (ao : Option Addr) (c : Nat) (l2 : List Nat) (hx : a.eval x = .slice ao l2.length c) (hb : LAt w ao l2) (hnone : ao = none → c = 0) (hlen : l.length + l2.length ≤ 140737488355328)
    (hK : ∀ v' w', Row w' v' (l ++ l2) → Touch (fun k => v.ownBlock = some k) w w' → Moved w v v' → K (a.put o.dst v') w') :
    if Region.wanted o (yielded ops a.tmps) = true then Oper.wp Try.prog o a w K Q else E := by
  have hw : Region.wanted o (yielded ops a.tmps) = true := by simp [Region.wanted, hg]
  rw [if_pos hw]
  obtain ⟨i, hi, hz, hsz, hby⟩ := u8_info
  obtain ⟨v', w', hrun, r1, r2, r3⟩ := run_app (P := Try.prog) w 24 o.type 5 i (.int .u8 0) 1 Try.underlying24 hi hz hsz hby rfl v (vals l) hr.own ao l2.length c (vals l2) (vals_len l2) (src_vals hb) (one_vals l2) hnone (by rw [vals_len]; unfold maxLen; omega) (by rw [vals_len]; omega)
  unfold Oper.wp
  simp [execOp, hop, resolve, invoke, builtin, hs, hx, hrun, Result.andThen]
  exact hK v' w' ⟨by rw [← vals_app]; exact r1, fun y hy => by rcases List.mem_append.1 hy with h | h; exact hr.bytes y h; exact hb.bytes y h⟩ r2 r3

theorem take_one {t : List Nat} {p k : Nat} (h : p + k < t.length) : (t.drop p).take (k + 1) = (t.drop p).take k ++ [t.getD (p + k) 0] := by
  rw [List.take_add_one]
  simp [List.getD, h]

section
variable {a : Option Addr} {cap b : Nat} {t : List Nat} {s : Rst}

end
end Go.Proofs.Ytblmondkdcpkaaa
