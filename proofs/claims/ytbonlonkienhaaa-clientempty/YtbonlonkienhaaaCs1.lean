/-
  A cluster's settings as they lie: is that an operation, is that a program, Check. Conditions: lengths as memory allows them.
-/
import Derived.Test.YtbonlonkienhaaaCs0
import Derived.Deep.LoopGhost
import Derived.BigQuiet
import Derived.Deep.CutBlock
import Derived.Deep.RegionHeld3
import Derived.Deep.MidRow
import Derived.Shelf.Abstract
namespace Go.Proofs.Ytbonlonkienhaaa
open Go.RowKit
set_option linter.unusedVariables false

set_option maxRecDepth 100000 in
set_option maxHeartbeats 8000000 in
theorem isOp_any (w : World) (o : Po) (n : Int) : Calls Try.prog 37 #[.agg (cellsPo o).toArray, .int .i64 n] w fun e w' => e = .returned (.bool (opB o n)) ∧ Touch (fun _ => False) w w' := by
  have hb : Hid (Touch (fun _ => False) w (w.alloc (.cells (cellsPo o).toArray 36))) := hide ((Touch.refl _ w).alloc _)
  obtain ⟨q, hq⟩ : ∃ q, q = opB o n := ⟨_, rfl⟩
  rw [← hq]
  unfold opB at hq
  have HQ := hide hq
  clear hq
  unfold cellsPo at *
  by_cases h0 : 1 ≤ o.kd
  · skip
    by_cases h1 : o.kd ≤ 5
    · skip
      by_cases h2 : 0 ≤ o.pt
      · skip
        by_cases h3 : o.pt < n
        · skip
          by_cases h4 : 0 ≤ o.tt
          · skip
            by_cases h5 : o.tt < n
            · skip
              by_cases h6 : 0 ≤ o.ct
              · skip
                by_cases h7 : o.ct ≤ 16
                · skip
                  by_cases h8 : (o.s.size : Int) ≤ 64
                  · skip
                    obtain rfl : q = true := by rw [unhide HQ]; simp [*]
                    clear HQ
                    go_enter Try.func37, Try.ntmps37
                    go_wp2
                    go_ret
                    exact ⟨by first | rfl | (simp; done), unhide hb⟩
                  · skip
                    obtain rfl : q = false := by rw [unhide HQ]; simp [*]
                    clear HQ
                    go_enter Try.func37, Try.ntmps37
                    go_wp2
                    go_ret
                    exact ⟨by first | rfl | (simp; done), unhide hb⟩
                · skip
                  obtain rfl : q = false := by rw [unhide HQ]; simp [*]
                  clear HQ
                  go_enter Try.func37, Try.ntmps37
                  go_wp2
                  go_ret
                  exact ⟨by first | rfl | (simp; done), unhide hb⟩
              · skip
                obtain rfl : q = false := by rw [unhide HQ]; simp [*]
                clear HQ
                go_enter Try.func37, Try.ntmps37
                go_wp2
                go_ret
                exact ⟨by first | rfl | (simp; done), unhide hb⟩
            · skip
              obtain rfl : q = false := by rw [unhide HQ]; simp [*]
              clear HQ
              go_enter Try.func37, Try.ntmps37
              go_wp2
              go_ret
              exact ⟨by first | rfl | (simp; done), unhide hb⟩
          · skip
            obtain rfl : q = false := by rw [unhide HQ]; simp [*]
            clear HQ
            go_enter Try.func37, Try.ntmps37
            go_wp2
            go_ret
            exact ⟨by first | rfl | (simp; done), unhide hb⟩
        · skip
          obtain rfl : q = false := by rw [unhide HQ]; simp [*]
          clear HQ
          go_enter Try.func37, Try.ntmps37
          go_wp2
          go_ret
          exact ⟨by first | rfl | (simp; done), unhide hb⟩
      · skip
        obtain rfl : q = false := by rw [unhide HQ]; simp [*]
        clear HQ
        go_enter Try.func37, Try.ntmps37
        go_wp2
        go_ret
        exact ⟨by first | rfl | (simp; done), unhide hb⟩
    · skip
      obtain rfl : q = false := by rw [unhide HQ]; simp [*]
      clear HQ
      go_enter Try.func37, Try.ntmps37
      go_wp2
      go_ret
      exact ⟨by first | rfl | (simp; done), unhide hb⟩
  · skip
    obtain rfl : q = false := by rw [unhide HQ]; simp [*]
    clear HQ
    go_enter Try.func37, Try.ntmps37
    go_wp2
    go_ret
    exact ⟨by first | rfl | (simp; done), unhide hb⟩
theorem isProg1_any {W : World} {b : Nat} {n : Int} (o : Po) (hb : W.cell? ⟨b, 0, none⟩ = some (.int .i64 n)) : Calls Try.prog 36 #[.agg (cellsPo o).toArray, .pointer (some ⟨b, 0, none⟩)] W fun e w' => e = .returned (.bool (!(opB o n))) ∧ Touch (fun _ => False) W w' := by
  have bt := (Touch.refl (fun _ => False) W).alloc (.cells (cellsPo o).toArray 36)
  have HT := hide bt
  have hb' : (W.alloc (.cells (cellsPo o).toArray 36)).cell? ⟨b, 0, none⟩ = some (.int .i64 n) := by
    rw [← hb]
    exact World.cell?_of_block (bt.block b (lt_of_cell (a := ⟨b, 0, none⟩) hb) (fun h => h))
  have K := hide (isOp_any (W.alloc (.cells (cellsPo o).toArray 36)) o n)
  clear hb bt
  generalize opB o n = q at *
  unfold cellsPo at *
  go_enter Try.func36, Try.ntmps36
  go_wp2_with (go_at_call 37; refine (unhide K).mono ?_; rintro e w' ⟨rfl, t2⟩; have T2 := hide t2; clear t2)
  go_ret
  exact ⟨rfl, (unhide HT).trans (unhide T2)⟩
def PgIn (w : World) (p : Pg) : Prop := RowsP cellsPo 5 w p.a p.os ∧ p.os.length ≤ maxLen
set_option maxRecDepth 100000 in
set_option maxHeartbeats 8000000 in
theorem isProgram_any {w : World} {p : Pg} (h : PgIn w p) (n : Int) : Calls Try.prog 27 #[.agg (cellsPg p).toArray, .int .i64 n] w fun e w' => e = .returned (.bool (prB n p)) ∧ Touch (fun _ => False) w w' := by
  have bt := ((Touch.refl (fun _ => False) w).alloc (.cells (cellsPg p).toArray 69)).alloc (.cells #[.int .i64 n] 3)
  have hz1 : (w.alloc (.cells (cellsPg p).toArray 69)).heap.size = w.heap.size + 1 := by simp
  have hx := heap_new (w.alloc (.cells (cellsPg p).toArray 69)) (.cells #[.int .i64 n] 3)
  have hy := heap_old (.cells #[.int .i64 n] 3) (heap_new w (.cells (cellsPg p).toArray 69))
  rw [hz1] at hx
  have HX := hide hx
  have HY := hide hy
  have HT := hide bt
  have HR := hide (h.1.keep bt)
  have HL := hide h.2
  have K : Hid (∀ W, Touch (fun _ => False) ((w.alloc (.cells (cellsPg p).toArray 69)).alloc (.cells #[.int .i64 n] 3)) W → ∀ o ∈ p.os, ∀ W2, Touch (fun _ => False) W W2 → Calls Try.prog 36 (#[] ++ #[.agg (cellsPo o).toArray] ++ #[.pointer (some ⟨w.heap.size + 1, 0, none⟩)]) W2 fun e w' => e = .returned (.bool (!(opB o n))) ∧ Touch (fun _ => False) W2 w') := hide (fun W t o ho W2 t2 => isProg1_any o (cell_of ((t.trans t2).keep hx (fun h => h)) 0))
  have hmf : ∀ (fn : Fn) (first cap : Array Value) (w : World), (Instr.makeFunc fn first cap).run Try.prog w = .ok (.func fn first cap) w := fun _ _ _ _ => rfl
  obtain ⟨q, hq⟩ : ∃ q, q = prB n p := ⟨_, rfl⟩
  rw [← hq]
  unfold prB at hq
  have HQ := hide hq
  clear bt hz1 hx hy h hq
  unfold cellsPg at *
  go_enter Try.func27, Try.ntmps27
  go_upto_region 1 with fail
  change Code.wp _ _ _ _ ((w.alloc (.cells [Value.int .i64 p.g, .slice p.a p.os.length p.c].toArray 69)).alloc (.cells #[.int .i64 n] 3))
  generalize (w.alloc (.cells [Value.int .i64 p.g, .slice p.a p.os.length p.c].toArray 69)).alloc (.cells #[.int .i64 n] 3) = W1 at *
  have y0 : W1.cell? ⟨w.heap.size, 0, none⟩ = some (.int .i64 p.g) := cell_of (unhide HY) 0
  have y1 : W1.cell? ⟨w.heap.size, 1, none⟩ = some (.slice p.a p.os.length p.c) := cell_of (unhide HY) 1
  have KC : Hid (Calls Try.prog 38 #[.slice p.a p.os.length p.c, .func (.func 36) #[] #[.pointer (some ⟨w.heap.size + 1, 0, none⟩)]] W1 fun e w' => e = .returned (.bool (p.os.any fun o => !(opB o n))) ∧ Touch (fun _ => False) W1 w') := hide (po_contains (fun _ _ => rfl) (unhide HR) (unhide HL) (unhide K W1 (Touch.refl _ _)))
  clear HX HY HR HL K
  generalize p.os.any (fun o => !(opB o n)) = z at *
  by_cases h0 : 0 ≤ p.g
  · by_cases h1 : p.g ≤ 7
    · by_cases h2 : (p.os.length : Int) ≤ 64
      · obtain rfl : q = !z := by rw [unhide HQ]; simp [*]
        clear HQ
        go_wp2_with (go_at_call 38; refine (unhide KC).mono ?_; rintro e w' ⟨rfl, t2⟩; have T2 := hide t2; clear t2)
        go_ret
        exact ⟨by first | rfl | (simp; done), (unhide HT).trans (unhide T2)⟩
      · obtain rfl : q = false := by rw [unhide HQ]; simp [*]
        clear HQ
        go_wp2
        go_ret
        exact ⟨by first | rfl | (simp; done), unhide HT⟩
    · obtain rfl : q = false := by rw [unhide HQ]; simp [*]
      clear HQ
      go_wp2
      go_ret
      exact ⟨by first | rfl | (simp; done), unhide HT⟩
  · obtain rfl : q = false := by rw [unhide HQ]; simp [*]
    clear HQ
    go_wp2
    go_ret
    exact ⟨by first | rfl | (simp; done), unhide HT⟩
end Go.Proofs.Ytbonlonkienhaaa
