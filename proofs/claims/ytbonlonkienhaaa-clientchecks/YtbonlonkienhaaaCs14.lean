/-
  New of any number and settings. Conditions: lengths as memory allows them.
-/
import Derived.Test.YtbonlonkienhaaaCs13
import Derived.Test.YtbonlonkienhaaaCs12
namespace Go.Proofs.Ytbonlonkienhaaa
open Go.RowKit
set_option linter.unusedVariables false

/-- A client is refused. -/
def NoP (w : World) (e : Ending) (w' : World) : Prop := e = .returned (.tuple #[.pointer none, .int .i64 1]) ∧ Touch (fun _ => False) w w'
set_option maxRecDepth 100000 in
set_option maxHeartbeats 4000000 in
theorem new_not {w : World} {c : Cf} {m : Int} (h : CfIn w c) (hs : stB c = false) : Calls Try.prog 7 #[.int .i64 m, .agg (cellsCf c).toArray] w fun e w' => NoP w e w' := by
  have bt := (Touch.refl (fun _ => False) w).alloc (.cells (cellsCf c).toArray 24)
  have hy := heap_new w (.cells (cellsCf c).toArray 24)
  have HY := hide hy
  have HT := hide bt
  have K := hide (scheck_any (h.keep bt))
  rw [if_neg (by rw [hs]; exact Bool.false_ne_true)] at K
  clear bt hy h hs
  unfold cellsCf at *
  go_enter Try.func7, Try.ntmps7
  go_upto_region 1 with fail
  change Code.wp _ _ _ _ (w.alloc (.cells [Value.int .i64 c.nd, .int .i64 c.pt, .int .i64 c.cp, .slice c.a c.ps.length c.c].toArray 24))
  generalize w.alloc (.cells [Value.int .i64 c.nd, .int .i64 c.pt, .int .i64 c.cp, .slice c.a c.ps.length c.c].toArray 24) = W1 at *
  have y0 : W1.cell? ⟨w.heap.size, 0, none⟩ = some (.int .i64 c.nd) := cell_of (unhide HY) 0
  have y1 : W1.cell? ⟨w.heap.size, 1, none⟩ = some (.int .i64 c.pt) := cell_of (unhide HY) 1
  have y2 : W1.cell? ⟨w.heap.size, 2, none⟩ = some (.int .i64 c.cp) := cell_of (unhide HY) 2
  have y3 : W1.cell? ⟨w.heap.size, 3, none⟩ = some (.slice c.a c.ps.length c.c) := cell_of (unhide HY) 3
  go_wp2_with fail
  refine (unhide K).mono ?_
  rintro e w2 ⟨rfl, t2⟩
  have HT2 := hide ((unhide HT).trans t2)
  have HY2 := hide (t2.keep (unhide HY) (fun h => h))
  clear t2 HY HT K y0 y1 y2 y3
  have FF : Hid (NoP w (.returned (.tuple #[.pointer none, .int .i64 1])) w2) := hide ⟨rfl, unhide HT2⟩
  clear HT2 HY2
  go_wp2
  go_returns
  exact unhide FF
set_option maxRecDepth 100000 in
set_option maxHeartbeats 4000000 in
theorem new_out {w : World} {c : Cf} {m : Int} (h : CfIn w c) (hs : stB c = true) (hm : m < 0 ∨ (c.ps.length : Int) ≤ m) : Calls Try.prog 7 #[.int .i64 m, .agg (cellsCf c).toArray] w fun e w' => NoP w e w' := by
  have bt := (Touch.refl (fun _ => False) w).alloc (.cells (cellsCf c).toArray 24)
  have hy := heap_new w (.cells (cellsCf c).toArray 24)
  have HY := hide hy
  have HT := hide bt
  have K := hide (scheck_any (h.keep bt))
  rw [if_pos hs] at K
  have HL := hide h.l
  clear bt hy h hs
  unfold cellsCf at *
  go_enter Try.func7, Try.ntmps7
  go_upto_region 1 with fail
  change Code.wp _ _ _ _ (w.alloc (.cells [Value.int .i64 c.nd, .int .i64 c.pt, .int .i64 c.cp, .slice c.a c.ps.length c.c].toArray 24))
  generalize w.alloc (.cells [Value.int .i64 c.nd, .int .i64 c.pt, .int .i64 c.cp, .slice c.a c.ps.length c.c].toArray 24) = W1 at *
  have y0 : W1.cell? ⟨w.heap.size, 0, none⟩ = some (.int .i64 c.nd) := cell_of (unhide HY) 0
  have y1 : W1.cell? ⟨w.heap.size, 1, none⟩ = some (.int .i64 c.pt) := cell_of (unhide HY) 1
  have y2 : W1.cell? ⟨w.heap.size, 2, none⟩ = some (.int .i64 c.cp) := cell_of (unhide HY) 2
  have y3 : W1.cell? ⟨w.heap.size, 3, none⟩ = some (.slice c.a c.ps.length c.c) := cell_of (unhide HY) 3
  go_wp2_with fail
  refine (unhide K).mono ?_
  rintro e w2 ⟨rfl, t2⟩
  have HT2 := hide ((unhide HT).trans t2)
  have HY2 := hide (t2.keep (unhide HY) (fun h => h))
  clear t2 HY HT K y0 y1 y2 y3
  have FF : Hid (NoP w (.returned (.tuple #[.pointer none, .int .i64 1])) w2) := hide ⟨rfl, unhide HT2⟩
  have y3 : w2.cell? ⟨w.heap.size, 3, none⟩ = some (.slice c.a c.ps.length c.c) := cell_of (unhide HY2) 3
  have hl : c.ps.length ≤ 9223372036854775807 := by have := unhide HL; unfold maxLen at this; omega
  clear HT2 HY2 HL
  generalize c.ps.length = n at *
  by_cases hn : m < 0
  · clear hm
    go_wp2
    go_returns
    exact unhide FF
  · have hm2 : (n : Int) ≤ m := hm.elim (fun h => absurd h hn) id
    clear hm
    go_wp2
    go_returns
    exact unhide FF
theorem st_each {c : Cf} (h : stB c = true) : ∀ p ∈ c.ps, p.os.length ≤ 64 := fun p hp => by
  have e : c.ps.any (fun p => !(prB c.pt p)) = false := by
    simp only [stB, Bool.and_eq_true, Bool.not_eq_true'] at h
    exact h.2.2.2.2.2.2.2
  have e2 := List.any_eq_false.1 e p hp
  simp only [prB, Bool.not_eq_true, Bool.not_eq_false', Bool.and_eq_true, decide_eq_true_eq] at e2
  omega
end Go.Proofs.Ytbonlonkienhaaa
