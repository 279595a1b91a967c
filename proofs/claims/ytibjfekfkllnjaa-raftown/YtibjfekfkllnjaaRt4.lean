/-
  raft's lookAtCommits and lay, of a node that is alone. Conditions: the log is one, of at most 2^42 - 128 entries of the node's own term.
-/
import Derived.Test.YtibjfekfkllnjaaRt3
namespace Go.Proofs.Ytibjfekfkllnjaa
open Go.RowKit Go.Maps
set_option linter.unusedVariables false

/-- A node that is alone. -/
abbrev r1C (sn : Value) (T vo : Int) (lg : Value) (ro le tk li : Int) (mo : Option Nat) (nx mt co to : Int) (sv : Bool) : Array Value :=
  #[.int .i64 0, .int .i64 1, .int .i64 T, .int .i64 vo, .int .i64 0, .int .i64 0, sn, lg, .int .i64 ro, .int .i64 le, .int .i64 tk, .int .i64 li, .map mo, .int .i64 nx, .int .i64 0, .int .i64 0, .int .i64 0, .int .i64 0, .int .i64 mt, .int .i64 0, .int .i64 0, .int .i64 0, .int .i64 0, .int .i64 co, .int .i64 to, .bool sv, .bool false, .slice none 0 0]
abbrev R1 (sn : Value) (w : World) (rb : Nat) (T vo : Int) (lg : Value) (ro le tk li : Int) (mo : Option Nat) (nx mt co to : Int) (sv : Bool) : Prop := w.heap[rb]? = some (.cells (r1C sn T vo lg ro le tk li mo nx mt co to sv) 77)
variable {sn : Value}
def LkPost (w : World) (rb : Nat) (cs : Array Value) (e : Ending) (w' : World) : Prop := e = .returned (.tuple #[]) ∧ w'.heap[rb]? = some (.cells cs 77) ∧ Touch (· = rb) w w'
set_option maxRecDepth 100000 in
set_option maxHeartbeats 2000000 in
theorem look1 {w : World} {rb g K k cap n c : Nat} {T vo ro le tk li nx co to : Int} {mo : Option Nat} {sv : Bool} {a : Option Addr} (hK : K = k + 1) (h : R1 sn w rb T vo (.slice (some ⟨g, 0, none⟩) K cap) ro le tk li mo nx (K : Int) co to sv) (hc : K ≤ cap) (hx : cap ≤ maxLen)
    (y0 : w.cell? ⟨g, k * 2, none⟩ = some (.int .i64 T)) (y1 : w.cell? ⟨g, k * 2 + 1, none⟩ = some (.slice a n c)) (hco : co < K) :
    Calls Try.prog 41 #[.pointer (some ⟨rb, 0, none⟩)] w fun e w' => LkPost w rb (r1C sn T vo (.slice (some ⟨g, 0, none⟩) K cap) ro le tk li mo nx (K : Int) (K : Int) to sv) e w' := by
  have hrb := lt_of_heap h
  have hA : Below w.heap.size w (w.alloc (.cells #[.int .i64 (K : Int), .int .i64 0, .int .i64 0, .int .i64 0, .int .i64 0] 75)) := (Below.refl _ _).alloc (Nat.le_refl _) _
  have HA := hide hA
  have G := hide (below_keep hA h)
  have AO : Hid (Calls Try.prog 59 #[.pointer (some ⟨rb, 0, none⟩), .int .i64 (K : Int)] (w.alloc (.cells #[.int .i64 (K : Int), .int .i64 0, .int .i64 0, .int .i64 0, .int .i64 0] 75)) fun e w' => e = .returned (.bool true) ∧ Below (w.alloc (.cells #[.int .i64 (K : Int), .int .i64 0, .int .i64 0, .int .i64 0, .int .i64 0] 75)).heap.size (w.alloc (.cells #[.int .i64 (K : Int), .int .i64 0, .int .i64 0, .int .i64 0, .int .i64 0] 75)) w') :=
    allOwn1 hK (cell_of (unhide G) 2) (cell_of (unhide G) 4) (cell_of (unhide G) 7) hc hx ((hA.cell (p := ⟨g, k * 2, none⟩) (lt_of_cell y0)).trans y0) ((hA.cell (p := ⟨g, k * 2 + 1, none⟩) (lt_of_cell y1)).trans y1)
  have SO := hide (sortI_any 1 (.inr rfl) (some ⟨w.heap.size, 0, none⟩) 5 (w.alloc (.cells #[.int .i64 (K : Int), .int .i64 0, .int .i64 0, .int .i64 0, .int .i64 0] 75)))
  have z18 : w.cell? ⟨rb, 18, none⟩ = some (.int .i64 (K : Int)) := cell_of h 18
  have z19 : w.cell? ⟨rb, 19, none⟩ = some (.int .i64 0) := cell_of h 19
  have z20 : w.cell? ⟨rb, 20, none⟩ = some (.int .i64 0) := cell_of h 20
  have z21 : w.cell? ⟨rb, 21, none⟩ = some (.int .i64 0) := cell_of h 21
  have z22 : w.cell? ⟨rb, 22, none⟩ = some (.int .i64 0) := cell_of h 22
  have x1 : (w.alloc (.cells #[.int .i64 (K : Int), .int .i64 0, .int .i64 0, .int .i64 0, .int .i64 0] 75)).cell? ⟨rb, 1, none⟩ = some (.int .i64 1) := cell_of (unhide G) 1
  have x23 : (w.alloc (.cells #[.int .i64 (K : Int), .int .i64 0, .int .i64 0, .int .i64 0, .int .i64 0] 75)).cell? ⟨rb, 23, none⟩ = some (.int .i64 co) := cell_of (unhide G) 23
  have v0 : (w.alloc (.cells #[.int .i64 (K : Int), .int .i64 0, .int .i64 0, .int .i64 0, .int .i64 0] 75)).cell? ⟨w.heap.size, 0, none⟩ = some (.int .i64 (K : Int)) := cell_of (heap_new _ _) 0
  clear hA h y0 y1 hK hc hx
  go_enter Try.func41, Try.ntmps41
  go_wp2_with fail
  generalize w.alloc (.cells #[.int .i64 (K : Int), .int .i64 0, .int .i64 0, .int .i64 0, .int .i64 0] 75) = W at *
  refine (unhide SO).mono ?_
  rintro e w1 ⟨rfl, rfl⟩
  clear SO
  go_wp2_with fail
  refine (unhide AO).mono ?_
  rintro e w2 ⟨rfl, b2⟩
  have g2 := below_keep b2 (unhide G)
  have x2 : w2.cell? ⟨rb, 23, none⟩ = some (.int .i64 co) := cell_of g2 23
  have f2 : w2.frozen? ⟨rb, 23, none⟩ = false := frozen_of g2 23
  have F : Hid (LkPost w rb (r1C sn T vo (.slice (some ⟨g, 0, none⟩) K cap) ro le tk li mo nx (K : Int) (K : Int) to sv) (.returned (.tuple #[])) (w2.setCell ⟨rb, 23, none⟩ (.int .i64 (K : Int)))) := ⟨rfl, heap_set g2 23 _, ((Touch.of_below (unhide HA)).trans ((Touch.of_below b2).mono (fun _ h => h))).trans (touch_set w2 rb 23 _)⟩
  clear AO G HA b2 g2 x1 x23 v0 z18 z19 z20 z21 z22
  go_wp2
  go_returns
  exact unhide F
end Go.Proofs.Ytibjfekfkllnjaa
