/-
  raft's Take. Conditions: the log is one, of at most 2^42 - 128 entries.
-/
import Derived.Test.YtibjfekfkllnjaaRtc
namespace Go.Proofs.Ytibjfekfkllnjaa
open Go.RowKit Go.Maps
set_option linter.unusedVariables false

/-- The cells that Take reads. -/
structure RCs (cs : Array Value) (h : Hd) (co to : Int) (sv rs : Bool) (ma : Option Addr) (mn mc : Nat) : Prop where
  c2 : cs[2]? = some (.int .i64 h.T)
  c3 : cs[3]? = some (.int .i64 h.vo)
  c4 : cs[4]? = some (.int .i64 h.base)
  c5 : cs[5]? = some (.int .i64 h.bt)
  c6 : cs[6]? = some (hdS h)
  c7 : cs[7]? = some (hdL h)
  c23 : cs[23]? = some (.int .i64 co)
  c24 : cs[24]? = some (.int .i64 to)
  c25 : cs[25]? = some (.bool sv)
  c26 : cs[26]? = some (.bool rs)
  c27 : cs[27]? = some (.slice ma mn mc)
/-- A raft behind Take. -/
abbrev tkC (cs : Array Value) (to : Int) (n : Nat) : Array Value := (((cs.setIfInBounds 24 (.int .i64 (to + (n : Int)))).setIfInBounds 25 (.bool false)).setIfInBounds 26 (.bool false)).setIfInBounds 27 (.slice none 0 0)
abbrev rdV (sv : Bool) (g : Hd) (m : Value) (rs : Bool) (sn cm : Value) : Value := .agg #[.bool sv, .int .i64 g.T, .int .i64 g.vo, .int .i64 g.base, .int .i64 g.bt, hdS g, hdL g, m, .bool rs, sn, cm]
/-- What Take answers and leaves. -/
structure TkS (w w' : World) (rb : Nat) (cs : Array Value) (h g : Hd) (sv rs : Bool) (sn : Value) (to : Int) (qs : List En) (v : Value) (ks : List En) : Prop where
  hard : sv = true → HSame g h
  zero : sv = false → g = ⟨0, 0, 0, 0, none, 0, [], none, 0, []⟩
  own : HRow w w' g
  snap : rs = true → Row w' sn h.l ∧ New w sn
  none : rs = false → sn = .slice none 0 0
  list : EL 48 w' v ks
  abs : ks.map En.abs = cmE to qs
  new : ∀ j, ELB v ks j → w.heap.size ≤ j
  apart : ∀ j, ELB v ks j → ¬ ELB (hdL g) g.ps j
  box : w'.heap[rb]? = some (.cells (tkC cs to qs.length) 77)
  touch : Touch (· = rb) w w'
def TkPost (w : World) (rb : Nat) (cs : Array Value) (h : Hd) (sv rs : Bool) (ma : Option Addr) (mn mc : Nat) (to : Int) (qs : List En) (e : Ending) (w' : World) : Prop := ∃ g sn v ks, e = .returned (rdV sv g (.slice ma mn mc) rs sn v) ∧ TkS w w' rb cs h g sv rs sn to qs v ks

theorem cell_get {w : World} {b i : Nat} {cs : Array Value} {t : TypeId} {u : Value} (h : w.heap[b]? = some (.cells cs t)) (hi : cs[i]? = some u) : w.cell? ⟨b, i, none⟩ = some u := by rw [cell_of h]; exact hi
theorem HRow.zero (w0 w : World) : HRow w0 w ⟨0, 0, 0, 0, none, 0, [], none, 0, []⟩ := ⟨Row.nil w, New.nil w0, by simp, EL.nil _ _, fun k hk => (ELB_nil hk).elim, fun k hk => by simp [Value.ownBlock] at hk⟩

theorem set11 {w : World} {b : Nat} {x0 x1 x2 x3 x4 x5 x6 x7 x8 x9 x10 : Value} {t : TypeId} (h : w.heap[b]? = some (.cells #[x0, x1, x2, x3, x4, x5, x6, x7, x8, x9, x10] t)) (y0 y1 y2 y3 y4 y5 y6 y7 y8 y9 y10 : Value) : (((((((((((w.setCell ⟨b, 0, none⟩ y0).setCell ⟨b, 1, none⟩ y1).setCell ⟨b, 2, none⟩ y2).setCell ⟨b, 3, none⟩ y3).setCell ⟨b, 4, none⟩ y4).setCell ⟨b, 5, none⟩ y5).setCell ⟨b, 6, none⟩ y6).setCell ⟨b, 7, none⟩ y7).setCell ⟨b, 8, none⟩ y8).setCell ⟨b, 9, none⟩ y9).setCell ⟨b, 10, none⟩ y10).heap[b]? = some (.cells #[y0, y1, y2, y3, y4, y5, y6, y7, y8, y9, y10] t) := by
  have h1 : (w.setCell ⟨b, 0, none⟩ y0).heap[b]? = some (.cells #[y0, x1, x2, x3, x4, x5, x6, x7, x8, x9, x10] t) := heap_set h 0 y0
  have h2 : ((w.setCell ⟨b, 0, none⟩ y0).setCell ⟨b, 1, none⟩ y1).heap[b]? = some (.cells #[y0, y1, x2, x3, x4, x5, x6, x7, x8, x9, x10] t) := heap_set h1 1 y1
  have h3 : (((w.setCell ⟨b, 0, none⟩ y0).setCell ⟨b, 1, none⟩ y1).setCell ⟨b, 2, none⟩ y2).heap[b]? = some (.cells #[y0, y1, y2, x3, x4, x5, x6, x7, x8, x9, x10] t) := heap_set h2 2 y2
  have h4 : ((((w.setCell ⟨b, 0, none⟩ y0).setCell ⟨b, 1, none⟩ y1).setCell ⟨b, 2, none⟩ y2).setCell ⟨b, 3, none⟩ y3).heap[b]? = some (.cells #[y0, y1, y2, y3, x4, x5, x6, x7, x8, x9, x10] t) := heap_set h3 3 y3
  have h5 : (((((w.setCell ⟨b, 0, none⟩ y0).setCell ⟨b, 1, none⟩ y1).setCell ⟨b, 2, none⟩ y2).setCell ⟨b, 3, none⟩ y3).setCell ⟨b, 4, none⟩ y4).heap[b]? = some (.cells #[y0, y1, y2, y3, y4, x5, x6, x7, x8, x9, x10] t) := heap_set h4 4 y4
  have h6 : ((((((w.setCell ⟨b, 0, none⟩ y0).setCell ⟨b, 1, none⟩ y1).setCell ⟨b, 2, none⟩ y2).setCell ⟨b, 3, none⟩ y3).setCell ⟨b, 4, none⟩ y4).setCell ⟨b, 5, none⟩ y5).heap[b]? = some (.cells #[y0, y1, y2, y3, y4, y5, x6, x7, x8, x9, x10] t) := heap_set h5 5 y5
  have h7 : (((((((w.setCell ⟨b, 0, none⟩ y0).setCell ⟨b, 1, none⟩ y1).setCell ⟨b, 2, none⟩ y2).setCell ⟨b, 3, none⟩ y3).setCell ⟨b, 4, none⟩ y4).setCell ⟨b, 5, none⟩ y5).setCell ⟨b, 6, none⟩ y6).heap[b]? = some (.cells #[y0, y1, y2, y3, y4, y5, y6, x7, x8, x9, x10] t) := heap_set h6 6 y6
  have h8 : ((((((((w.setCell ⟨b, 0, none⟩ y0).setCell ⟨b, 1, none⟩ y1).setCell ⟨b, 2, none⟩ y2).setCell ⟨b, 3, none⟩ y3).setCell ⟨b, 4, none⟩ y4).setCell ⟨b, 5, none⟩ y5).setCell ⟨b, 6, none⟩ y6).setCell ⟨b, 7, none⟩ y7).heap[b]? = some (.cells #[y0, y1, y2, y3, y4, y5, y6, y7, x8, x9, x10] t) := heap_set h7 7 y7
  have h9 : (((((((((w.setCell ⟨b, 0, none⟩ y0).setCell ⟨b, 1, none⟩ y1).setCell ⟨b, 2, none⟩ y2).setCell ⟨b, 3, none⟩ y3).setCell ⟨b, 4, none⟩ y4).setCell ⟨b, 5, none⟩ y5).setCell ⟨b, 6, none⟩ y6).setCell ⟨b, 7, none⟩ y7).setCell ⟨b, 8, none⟩ y8).heap[b]? = some (.cells #[y0, y1, y2, y3, y4, y5, y6, y7, y8, x9, x10] t) := heap_set h8 8 y8
  have h10 : ((((((((((w.setCell ⟨b, 0, none⟩ y0).setCell ⟨b, 1, none⟩ y1).setCell ⟨b, 2, none⟩ y2).setCell ⟨b, 3, none⟩ y3).setCell ⟨b, 4, none⟩ y4).setCell ⟨b, 5, none⟩ y5).setCell ⟨b, 6, none⟩ y6).setCell ⟨b, 7, none⟩ y7).setCell ⟨b, 8, none⟩ y8).setCell ⟨b, 9, none⟩ y9).heap[b]? = some (.cells #[y0, y1, y2, y3, y4, y5, y6, y7, y8, y9, x10] t) := heap_set h9 9 y9
  have h11 : (((((((((((w.setCell ⟨b, 0, none⟩ y0).setCell ⟨b, 1, none⟩ y1).setCell ⟨b, 2, none⟩ y2).setCell ⟨b, 3, none⟩ y3).setCell ⟨b, 4, none⟩ y4).setCell ⟨b, 5, none⟩ y5).setCell ⟨b, 6, none⟩ y6).setCell ⟨b, 7, none⟩ y7).setCell ⟨b, 8, none⟩ y8).setCell ⟨b, 9, none⟩ y9).setCell ⟨b, 10, none⟩ y10).heap[b]? = some (.cells #[y0, y1, y2, y3, y4, y5, y6, y7, y8, y9, y10] t) := heap_set h10 10 y10
  exact h11
theorem set7 {w : World} {b : Nat} {x0 x1 x2 x3 x4 x5 x6 x7 x8 x9 x10 : Value} {t : TypeId} (h : w.heap[b]? = some (.cells #[x0, x1, x2, x3, x4, x5, x6, x7, x8, x9, x10] t)) (y0 y1 y2 y3 y4 y5 y6 : Value) : (((((((w.setCell ⟨b, 0, none⟩ y0).setCell ⟨b, 1, none⟩ y1).setCell ⟨b, 2, none⟩ y2).setCell ⟨b, 3, none⟩ y3).setCell ⟨b, 4, none⟩ y4).setCell ⟨b, 5, none⟩ y5).setCell ⟨b, 6, none⟩ y6).heap[b]? = some (.cells #[y0, y1, y2, y3, y4, y5, y6, x7, x8, x9, x10] t) := by
  have h1 : (w.setCell ⟨b, 0, none⟩ y0).heap[b]? = some (.cells #[y0, x1, x2, x3, x4, x5, x6, x7, x8, x9, x10] t) := heap_set h 0 y0
  have h2 : ((w.setCell ⟨b, 0, none⟩ y0).setCell ⟨b, 1, none⟩ y1).heap[b]? = some (.cells #[y0, y1, x2, x3, x4, x5, x6, x7, x8, x9, x10] t) := heap_set h1 1 y1
  have h3 : (((w.setCell ⟨b, 0, none⟩ y0).setCell ⟨b, 1, none⟩ y1).setCell ⟨b, 2, none⟩ y2).heap[b]? = some (.cells #[y0, y1, y2, x3, x4, x5, x6, x7, x8, x9, x10] t) := heap_set h2 2 y2
  have h4 : ((((w.setCell ⟨b, 0, none⟩ y0).setCell ⟨b, 1, none⟩ y1).setCell ⟨b, 2, none⟩ y2).setCell ⟨b, 3, none⟩ y3).heap[b]? = some (.cells #[y0, y1, y2, y3, x4, x5, x6, x7, x8, x9, x10] t) := heap_set h3 3 y3
  have h5 : (((((w.setCell ⟨b, 0, none⟩ y0).setCell ⟨b, 1, none⟩ y1).setCell ⟨b, 2, none⟩ y2).setCell ⟨b, 3, none⟩ y3).setCell ⟨b, 4, none⟩ y4).heap[b]? = some (.cells #[y0, y1, y2, y3, y4, x5, x6, x7, x8, x9, x10] t) := heap_set h4 4 y4
  have h6 : ((((((w.setCell ⟨b, 0, none⟩ y0).setCell ⟨b, 1, none⟩ y1).setCell ⟨b, 2, none⟩ y2).setCell ⟨b, 3, none⟩ y3).setCell ⟨b, 4, none⟩ y4).setCell ⟨b, 5, none⟩ y5).heap[b]? = some (.cells #[y0, y1, y2, y3, y4, y5, x6, x7, x8, x9, x10] t) := heap_set h5 5 y5
  have h7 : (((((((w.setCell ⟨b, 0, none⟩ y0).setCell ⟨b, 1, none⟩ y1).setCell ⟨b, 2, none⟩ y2).setCell ⟨b, 3, none⟩ y3).setCell ⟨b, 4, none⟩ y4).setCell ⟨b, 5, none⟩ y5).setCell ⟨b, 6, none⟩ y6).heap[b]? = some (.cells #[y0, y1, y2, y3, y4, y5, y6, x7, x8, x9, x10] t) := heap_set h6 6 y6
  exact h7
end Go.Proofs.Ytibjfekfkllnjaa
