/-
  Slices of bytes, and an Op of layer 5, as they are read. No conditions beyond the reading.
-/
import Derived.Test.YtcnmenfianeakabRows
import Derived.Test.YtcnmenfianeakabLst
import Derived.Deep.Slices
import Derived.ChangeArms
import Derived.ChangeSlices
namespace Go.Proofs.Ytcnmenfianeakab
open Go.RowKit Go.Deep Go.ChangeShapes
set_option linter.unusedVariables false

set_option maxRecDepth 100000 in
theorem cells5_u8 : Try.prog.cellsOf 5 = 1 := by kernel_rfl
set_option maxRecDepth 100000 in
theorem cells5_sl : Try.prog.cellsOf 22 = 1 := by kernel_rfl
set_option maxRecDepth 100000 in
theorem cells5_int : Try.prog.cellsOf 3 = 1 := by kernel_rfl
set_option maxRecDepth 100000 in
theorem cells5_str : Try.prog.cellsOf 9 = 1 := by kernel_rfl
set_option maxRecDepth 100000 in
theorem cells5_op : Try.prog.cellsOf 42 = 5 := by kernel_rfl

section
variable {H : Type} {enc_ : TypeId × Value → H} {w : World} {base : Nat} {held : Bool}
/-- A slice of bytes. -/
theorem bytes5_read {fuel : Nat} {c : Value} {x : DataW H × List MemPlace} (h : DataW.trod enc_ Try.prog w base (fun _ => true) held fuel 22 [c] = some x) :
    ∃ (l : List Nat) (a : Option Addr) (cap : Nat), c = .slice a l.length cap ∧ LAt w a l ∧ (a = none → cap = 0) ∧ l.length ≤ cap := by
  rcases open_ints Try.underlying22 Try.underlying5 cells5_u8 h with ⟨hcs, hx⟩ | ⟨a, l, cap, zs, hcs, _, hl, hm, hz, hx, hcell, hwz⟩
  · cases hcs
    exact ⟨[], none, 0, rfl, (fun i hi => by cases hi), fun _ => rfl, Nat.le_refl _⟩
  · cases hcs
    have hz' : zs.length = cap := by simpa using hz
    have hR := RowOf.of (k := .u8) (cap := cap) (len := l) (zs := zs) (.inr ⟨_, rfl, hl, hm, hz', hcell, hwz⟩)
    obtain ⟨bs, e1, e2⟩ := hR.1.bytes.list
    subst e1
    exact ⟨bs, some a, cap, rfl, e2, (fun h => by cases h), hl⟩

/-- An Op's cells. -/
structure Op5 where
  kind : Int
  nm : ByteArray
  to : ByteArray
  a : Option Addr
  l : List Nat
  cap : Nat
  n : Int
def Op5.cells (o : Op5) : List Value := [.int .i64 o.kind, .string o.nm, .string o.to, .slice o.a o.l.length o.cap, .int .i64 o.n]
structure Op5.In (w : World) (o : Op5) : Prop where
  at_ : LAt w o.a o.l
  nil : o.a = none → o.cap = 0
  hcap : o.l.length ≤ o.cap
  nm : o.nm.size ≤ maxLen
  to : o.to.size ≤ maxLen
  lo : -9223372036854775808 ≤ o.n
  hi : o.n ≤ 9223372036854775807
set_option maxRecDepth 100000 in
theorem op5_open {fuel : Nat} {cs : List Value} {x : DataW H × List MemPlace} (h : DataW.trod enc_ Try.prog w base (fun _ => true) held fuel 42 cs = some x) :
    ∃ o : Op5, cs = o.cells ∧ o.In w := by
  obtain ⟨xs, n, _, rfl, hlen, hxl, hf⟩ := DataW.trod_struct Try.underlying42 h
  rw [cells5_op] at hlen
  match xs, hxl, cs, hlen with
  | [y0, y1, y2, y3, y4], _, [c0, c1, c2, c3, c4], _ =>
    have g0 := hf 0 _ rfl
    have g1 := hf 1 _ rfl
    have g2 := hf 2 _ rfl
    have g3 := hf 3 _ rfl
    have g4 := hf 4 _ rfl
    simp [cells5_int, cells5_str, cells5_sl] at g0 g1 g2 g3 g4
    obtain ⟨v0, e0, _, b0⟩ := DataW.trod_int Try.underlying3 g0
    obtain ⟨v1, e1, _, b1⟩ := DataW.trod_string Try.underlying9 g1
    obtain ⟨v2, e2, _, b2⟩ := DataW.trod_string Try.underlying9 g2
    obtain ⟨bs, aB, cB, e3, l3, n3, hc3⟩ := bytes5_read g3
    obtain ⟨v4, e4, _, b4⟩ := DataW.trod_int Try.underlying3 g4
    cases e0
    cases e1
    cases e2
    subst e3
    cases e4
    have B4 := bounds_i64 b4
    exact ⟨⟨v0, v1, v2, aB, bs, cB, v4⟩, rfl, l3, n3, hc3, b1, b2, B4.1, by show v4 ≤ _; omega⟩
theorem op5_value {fuel : Nat} {v : Value} {x : DataW H × List MemPlace} (h : DataW.trod enc_ Try.prog w base (fun _ => true) held fuel 42 v.cells.toList = some x) :
    ∃ o : Op5, v = .agg o.cells.toArray ∧ o.In w := by
  obtain ⟨o, e, hi⟩ := op5_open h
  refine ⟨o, ?_, hi⟩
  cases v with
  | agg cs =>
    have e' : cs.toList = o.cells := e
    rw [← e']
  | _ => have := congrArg List.length e; simp [Value.cells, Op5.cells] at this
end
end Go.Proofs.Ytcnmenfianeakab
