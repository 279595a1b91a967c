/-
  An Op, what is kept, and rows of bytes as they are read. No conditions beyond the reading and the sizes that the reach allows.
-/
import Derived.Test.YtibjfekfkllnjabRows
import Derived.Test.YtibjfekfkllnjabRaftNoneWalk
import Derived.Deep.Slices
import Derived.ChangeArms
import Derived.ChangeSlices
import Derived.SizedLaws
namespace Go.Proofs.Ytibjfekfkllnjab
open Go.RowKit Go.Deep Go.ChangeShapes
set_option linter.unusedVariables false

set_option maxRecDepth 100000 in
theorem cells12_sl : Try.prog.cellsOf 23 = 1 := by kernel_rfl
set_option maxRecDepth 100000 in
theorem cells12_es : Try.prog.cellsOf 24 = 1 := by kernel_rfl
set_option maxRecDepth 100000 in
theorem cells12_int : Try.prog.cellsOf 3 = 1 := by kernel_rfl
set_option maxRecDepth 100000 in
theorem cells12_u64 : Try.prog.cellsOf 22 = 1 := by kernel_rfl
set_option maxRecDepth 100000 in
theorem cells12_bool : Try.prog.cellsOf 4 = 1 := by kernel_rfl
set_option maxRecDepth 100000 in
theorem cells12_mg : Try.prog.cellsOf 26 = 10 := by kernel_rfl
set_option maxRecDepth 100000 in
theorem cells12_op : Try.prog.cellsOf 28 = 14 := by kernel_rfl

section
variable {H : Type} {enc_ : TypeId × Value → H} {w : World} {base : Nat} {held : Bool}
theorem slice12_read {fuel : Nat} {e t : TypeId} (hU : Try.prog.underlying t = some (.slice e)) {c : Value} {x : DataW H × List MemPlace} (h : DataW.trod enc_ Try.prog w base (fun _ => true) held fuel t [c] = some x) :
    ∃ (a : Option Addr) (l cap : Nat), c = .slice a l cap := by
  rcases open_slice hU h with ⟨hcs, hx⟩ | ⟨a', len, cap, m, n, D, Pl, hcs, _⟩
  · cases hcs; exact ⟨_, _, _, rfl⟩
  · cases hcs; exact ⟨_, _, _, rfl⟩
set_option maxRecDepth 100000 in
theorem mg_open {fuel : Nat} {cs : List Value} {x : DataW H × List MemPlace} (h : DataW.trod enc_ Try.prog w base (fun _ => true) held fuel 26 cs = some x) : ∃ m : Mg, cs = mgL m := by
  obtain ⟨xs, n, _, rfl, hlen, hxl, hf⟩ := DataW.trod_struct Try.underlying26 h
  rw [cells12_mg] at hlen
  match xs, hxl, cs, hlen with
  | [y0, y1, y2, y3, y4, y5, y6, y7, y8, y9], _, [c0, c1, c2, c3, c4, c5, c6, c7, c8, c9], _ =>
    have g0 := hf 0 _ rfl
    have g1 := hf 1 _ rfl
    have g2 := hf 2 _ rfl
    have g3 := hf 3 _ rfl
    have g4 := hf 4 _ rfl
    have g5 := hf 5 _ rfl
    have g6 := hf 6 _ rfl
    have g7 := hf 7 _ rfl
    have g8 := hf 8 _ rfl
    have g9 := hf 9 _ rfl
    simp [cells12_int, cells12_sl, cells12_es, cells12_bool] at g0 g1 g2 g3 g4 g5 g6 g7 g8 g9
    obtain ⟨v0, e0, _⟩ := DataW.trod_int Try.underlying3 g0
    obtain ⟨v1, e1, _⟩ := DataW.trod_int Try.underlying3 g1
    obtain ⟨v2, e2, _⟩ := DataW.trod_int Try.underlying3 g2
    obtain ⟨v3, e3, _⟩ := DataW.trod_int Try.underlying3 g3
    obtain ⟨v4, e4, _⟩ := DataW.trod_int Try.underlying3 g4
    obtain ⟨v5, e5, _⟩ := DataW.trod_int Try.underlying3 g5
    obtain ⟨v6, e6, _⟩ := DataW.trod_int Try.underlying3 g6
    obtain ⟨v7, e7, _⟩ := DataW.trod_bool Try.underlying4 g7
    obtain ⟨a8, l8, k8, e8⟩ := slice12_read Try.underlying24 g8
    obtain ⟨a9, l9, k9, e9⟩ := slice12_read Try.underlying23 g9
    cases e0
    cases e1
    cases e2
    cases e3
    cases e4
    cases e5
    cases e6
    cases e7
    subst e8 e9
    exact ⟨⟨v0, v1, v2, v3, v4, v5, v6, v7, a8, l8, k8, a9, l9, k9⟩, rfl⟩
set_option maxRecDepth 100000 in
theorem op12_open {fuel : Nat} {cs : List Value} {x : DataW H × List MemPlace} (h : DataW.trod enc_ Try.prog w base (fun _ => true) held fuel 28 cs = some x) : ∃ o : Op12, cs = o.cells := by
  obtain ⟨xs, n, _, rfl, hlen, hxl, hf⟩ := DataW.trod_struct Try.underlying28 h
  rw [cells12_op] at hlen
  match xs, hxl, cs, hlen with
  | [y0, y1, y2, y3, y4], _, [c0, c1, c2, c3, c4, c5, c6, c7, c8, c9, c10, c11, c12, c13], _ =>
    have g0 := hf 0 _ rfl
    have g1 := hf 1 _ rfl
    have g2 := hf 2 _ rfl
    have g3 := hf 3 _ rfl
    have g4 := hf 4 _ rfl
    simp [cells12_int, cells12_sl, cells12_u64, cells12_mg] at g0 g1 g2 g3 g4
    obtain ⟨v0, e0, _⟩ := DataW.trod_int Try.underlying3 g0
    obtain ⟨v1, e1, _⟩ := DataW.trod_int Try.underlying22 g1
    obtain ⟨v2, e2, _⟩ := DataW.trod_int Try.underlying3 g2
    obtain ⟨a3, l3, k3, e3⟩ := slice12_read Try.underlying23 g3
    obtain ⟨m, e4⟩ := mg_open g4
    cases e0
    cases e1
    cases e2
    subst e3
    refine ⟨⟨v0, v1, v2, a3, l3, k3, m⟩, ?_⟩
    show _ :: _ :: _ :: _ :: _ = _ :: _ :: _ :: _ :: mgL m
    rw [← e4]
theorem op12_value {fuel : Nat} {v : Value} {x : DataW H × List MemPlace} (h : DataW.trod enc_ Try.prog w base (fun _ => true) held fuel 28 v.cells.toList = some x) : ∃ o : Op12, v = .agg o.cells.toArray := by
  obtain ⟨o, e⟩ := op12_open h
  refine ⟨o, ?_⟩
  cases v with
  | agg cs =>
    have e' : cs.toList = o.cells := e
    rw [← e']
  | _ => have := congrArg List.length e; simp [Value.cells, Op12.cells] at this
end
end Go.Proofs.Ytibjfekfkllnjab
