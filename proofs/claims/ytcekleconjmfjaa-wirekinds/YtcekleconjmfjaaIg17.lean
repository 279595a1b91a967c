/-
  Commands, as they lie; isCmd. Conditions: as each says.
-/
import Derived.Test.YtcekleconjmfjaaWc
import Derived.Test.YtcekleconjmfjaaBt0
namespace Go.Proofs.Ytcekleconjmfjaa
open Go.RowKit
set_option linter.unusedVariables false

theorem take_snoc {l : List Int} {k : Nat} (h : k < l.length) : l.take (k + 1) = l.take k ++ [l.getD k 0] := by
  rw [List.take_add_one, List.getElem?_eq_getElem h]
  simp [List.getD, h]
/-- A command, and where its list lies. -/
structure Cm where
  kd : Int
  nd : Int
  pt : Int
  ep : Int
  ve : Int
  a : Option Addr
  k : Nat
  l : List Int
def cmA (c : Cm) : Array Value := #[.int .i64 c.kd, .int .i64 c.nd, .int .i64 c.pt, .int .i64 c.ep, .int .i64 c.ve, .slice c.a c.l.length c.k]
structure CIn (w : World) (c : Cm) : Prop where
  li : IAt w c.a c.l
  len : c.l.length ≤ maxLen
theorem CIn.later {w w' : World} {c : Cm} (h : CIn w c) (hb : Below w.heap.size w w') : CIn w' c := ⟨h.li.later hb, h.len⟩
theorem CIn.keep {w w' : World} {c : Cm} {S : Nat → Prop} (h : CIn w c) (t : Touch S w w') (hs : 0 < c.l.length → ∀ x, c.a = some x → ¬ S x.block) : CIn w' c := ⟨h.li.keep t hs, h.len⟩
def isC (c : Cm) : Bool := decide (1 ≤ c.kd) && decide (c.kd ≤ 5) && decide (c.l.length ≤ 5)
theorem box6 (w : World) (c0 c1 c2 c3 c4 : Int) (v : Value) (t : TypeId) : (w.alloc (.cells #[.int .i64 c0, .int .i64 c1, .int .i64 c2, .int .i64 c3, .int .i64 c4, v] t)).heap[w.heap.size]? = some (.cells #[.int .i64 c0, .int .i64 c1, .int .i64 c2, .int .i64 c3, .int .i64 c4, v] t) := heap_new _ _
theorem isCmd_any (w : World) (c : Cm) (hl : c.l.length ≤ maxLen) : Calls Try.prog 86 #[.agg (cmA c)] w fun e w' => e = .returned (.bool (isC c)) ∧ Below w.heap.size w w' := by
  obtain ⟨kd, nd, pt, ep, ve, a, k, l⟩ := c
  unfold isC cmA
  simp only at hl ⊢
  have hb : l.length ≤ 9223372036854775807 := by unfold maxLen at hl; omega
  clear hl
  generalize l.length = n at *
  have B := (Below.refl w.heap.size w).alloc (Nat.le_refl _) (.cells #[.int .i64 kd, .int .i64 nd, .int .i64 pt, .int .i64 ep, .int .i64 ve, .slice a n k] 34)
  by_cases h1 : 1 ≤ kd
  · by_cases h2 : kd ≤ 5
    · by_cases h3 : (n : Int) ≤ 5
      all_goals
        go_enter Try.func86, Try.ntmps86
        go_wp2
        go_returns
        exact ⟨by simp [h1, h2]; omega, B⟩
    · go_enter Try.func86, Try.ntmps86
      go_wp2
      go_returns
      exact ⟨by simp; intros; omega, B⟩
  · go_enter Try.func86, Try.ntmps86
    go_wp2
    go_returns
    exact ⟨by simp; intros; omega, B⟩
end Go.Proofs.Ytcekleconjmfjaa
