/-
  Check of any settings, as they lie. Conditions: lengths as memory allows them.
-/
import Derived.Test.YtbonlonkienhaaaCs1
namespace Go.Proofs.Ytbonlonkienhaaa
open Go.RowKit
set_option linter.unusedVariables false

/-- Settings. -/
structure Cf where
  nd : Int
  pt : Int
  cp : Int
  a : Option Addr
  c : Nat
  ps : List Pg
def cellsCf (c : Cf) : List Value := [.int .i64 c.nd, .int .i64 c.pt, .int .i64 c.cp, .slice c.a c.ps.length c.c]
structure CfIn (w : World) (c : Cf) : Prop where
  r : RowsP cellsPg 2 w c.a c.ps
  l : c.ps.length ≤ maxLen
  p : ∀ p ∈ c.ps, PgIn w p
def stB (c : Cf) : Bool := decide (1 ≤ c.nd) && (decide (c.nd ≤ 5) && (decide (1 ≤ c.pt) && (decide (c.pt ≤ 4) && (decide (1 ≤ c.cp) && (decide (c.cp ≤ c.nd) && (decide ((c.ps.length : Int) ≤ 4) && !(c.ps.any (fun p => !(prB c.pt p)))))))))
theorem PgIn.keep {w w' : World} {p : Pg} (h : PgIn w p) (t : Touch (fun _ => False) w w') : PgIn w' p := ⟨h.1.keep t, h.2⟩
theorem CfIn.keep {w w' : World} {c : Cf} (h : CfIn w c) (t : Touch (fun _ => False) w w') : CfIn w' c := ⟨h.r.keep t, h.l, fun p hp => (h.p p hp).keep t⟩
theorem check1_any {W : World} {b : Nat} {n : Int} {p : Pg} (h : PgIn W p) (hb : W.cell? ⟨b, 1, none⟩ = some (.int .i64 n)) : Calls Try.prog 26 #[.agg (cellsPg p).toArray, .pointer (some ⟨b, 0, none⟩)] W fun e w' => e = .returned (.bool (!(prB n p))) ∧ Touch (fun _ => False) W w' := by
  have bt := (Touch.refl (fun _ => False) W).alloc (.cells (cellsPg p).toArray 69)
  have HT := hide bt
  have hb' : (W.alloc (.cells (cellsPg p).toArray 69)).cell? ⟨b, 1, none⟩ = some (.int .i64 n) := by
    rw [← hb]
    exact World.cell?_of_block (bt.block b (lt_of_cell (a := ⟨b, 1, none⟩) hb) (fun h => h))
  have K := hide (isProgram_any (h.keep bt) n)
  clear hb bt h
  generalize prB n p = q at *
  unfold cellsPg at *
  go_enter Try.func26, Try.ntmps26
  go_wp2_with (go_at_call 27; refine (unhide K).mono ?_; rintro e w' ⟨rfl, t2⟩; have T2 := hide t2; clear t2)
  go_ret
  exact ⟨rfl, (unhide HT).trans (unhide T2)⟩
set_option maxRecDepth 100000 in
set_option maxHeartbeats 8000000 in
theorem scheck_any {w : World} {c : Cf} (h : CfIn w c) : Calls Try.prog 16 #[.agg (cellsCf c).toArray] w fun e w' => e = .returned (.int .i64 (if stB c = true then 0 else 1)) ∧ Touch (fun _ => False) w w' := by
  have bt := (Touch.refl (fun _ => False) w).alloc (.cells (cellsCf c).toArray 24)
  have hy := heap_new w (.cells (cellsCf c).toArray 24)
  have HY := hide hy
  have HT := hide bt
  have HR := hide (h.r.keep bt)
  have HL := hide h.l
  have K : Hid (∀ o ∈ c.ps, ∀ W2, Touch (fun _ => False) (w.alloc (.cells (cellsCf c).toArray 24)) W2 → Calls Try.prog 26 (#[] ++ #[.agg (cellsPg o).toArray] ++ #[.pointer (some ⟨w.heap.size, 0, none⟩)]) W2 fun e w' => e = .returned (.bool (!(prB c.pt o))) ∧ Touch (fun _ => False) W2 w') := hide (fun o ho W2 t2 => check1_any ((h.p o ho).keep (bt.trans t2)) (cell_of (t2.keep hy (fun h => h)) 1))
  have hmf : ∀ (fn : Fn) (first cap : Array Value) (w : World), (Instr.makeFunc fn first cap).run Try.prog w = .ok (.func fn first cap) w := fun _ _ _ _ => rfl
  obtain ⟨q, hq⟩ : ∃ q, q = stB c := ⟨_, rfl⟩
  rw [← hq]
  unfold stB at hq
  have HQ := hide hq
  clear bt hy h hq
  unfold cellsCf at *
  go_enter Try.func16, Try.ntmps16
  go_upto_region 1 with fail
  change Code.wp _ _ _ _ (w.alloc (.cells [Value.int .i64 c.nd, .int .i64 c.pt, .int .i64 c.cp, .slice c.a c.ps.length c.c].toArray 24))
  generalize w.alloc (.cells [Value.int .i64 c.nd, .int .i64 c.pt, .int .i64 c.cp, .slice c.a c.ps.length c.c].toArray 24) = W1 at *
  have y0 : W1.cell? ⟨w.heap.size, 0, none⟩ = some (.int .i64 c.nd) := cell_of (unhide HY) 0
  have y1 : W1.cell? ⟨w.heap.size, 1, none⟩ = some (.int .i64 c.pt) := cell_of (unhide HY) 1
  have y2 : W1.cell? ⟨w.heap.size, 2, none⟩ = some (.int .i64 c.cp) := cell_of (unhide HY) 2
  have y3 : W1.cell? ⟨w.heap.size, 3, none⟩ = some (.slice c.a c.ps.length c.c) := cell_of (unhide HY) 3
  have KC : Hid (Calls Try.prog 28 #[.slice c.a c.ps.length c.c, .func (.func 26) #[] #[.pointer (some ⟨w.heap.size, 0, none⟩)]] W1 fun e w' => e = .returned (.bool (c.ps.any fun o => !(prB c.pt o))) ∧ Touch (fun _ => False) W1 w') := hide (pg_contains (fun _ _ => rfl) (unhide HR) (unhide HL) (unhide K))
  clear HY HR HL K
  generalize c.ps.any (fun o => !(prB c.pt o)) = z at *
  by_cases h0 : 1 ≤ c.nd
  · skip
    by_cases h1 : c.nd ≤ 5
    · skip
      by_cases h2 : 1 ≤ c.pt
      · skip
        by_cases h3 : c.pt ≤ 4
        · skip
          by_cases h4 : 1 ≤ c.cp
          · skip
            by_cases h5 : c.cp ≤ c.nd
            · skip
              by_cases h6 : (c.ps.length : Int) ≤ 4
              · skip
                cases z
                · obtain rfl : q = true := by rw [unhide HQ]; simp [*]
                  clear HQ
                  go_wp2_with (go_at_call 28; refine (unhide KC).mono ?_; rintro e w' ⟨rfl, t2⟩; have T2 := hide t2; clear t2)
                  go_ret
                  exact ⟨by first | rfl | (simp; done), (unhide HT).trans (unhide T2)⟩
                · obtain rfl : q = false := by rw [unhide HQ]; simp [*]
                  clear HQ
                  go_wp2_with (go_at_call 28; refine (unhide KC).mono ?_; rintro e w' ⟨rfl, t2⟩; have T2 := hide t2; clear t2)
                  go_ret
                  exact ⟨by first | rfl | (simp; done), (unhide HT).trans (unhide T2)⟩
              · skip
                obtain rfl : q = false := by rw [unhide HQ]; simp [*]
                clear HQ
                go_wp2
                go_ret
                exact ⟨by first | rfl | (simp; done), unhide HT⟩
            · skip
              obtain rfl : q = false := by rw [unhide HQ]; simp [*]
              clear HQ
              go_wp2
              go_ret
              exact ⟨by first | rfl | (simp; done), unhide HT⟩
          · skip
            obtain rfl : q = false := by rw [unhide HQ]; simp [*]
            clear HQ
            go_wp2
            go_ret
            exact ⟨by first | rfl | (simp; done), unhide HT⟩
        · skip
          obtain rfl : q = false := by rw [unhide HQ]; simp [*]
          clear HQ
          go_wp2
          go_ret
          exact ⟨by first | rfl | (simp; done), unhide HT⟩
      · skip
        obtain rfl : q = false := by rw [unhide HQ]; simp [*]
        clear HQ
        go_wp2
        go_ret
        exact ⟨by first | rfl | (simp; done), unhide HT⟩
    · skip
      obtain rfl : q = false := by rw [unhide HQ]; simp [*]
      clear HQ
      go_wp2
      go_ret
      exact ⟨by first | rfl | (simp; done), unhide HT⟩
  · skip
    obtain rfl : q = false := by rw [unhide HQ]; simp [*]
    clear HQ
    go_wp2
    go_ret
    exact ⟨by first | rfl | (simp; done), unhide HT⟩
theorem ccheck_any {w : World} {c : Cf} (h : CfIn w c) : Calls Try.prog 6 #[.agg (cellsCf c).toArray] w fun e w' => e = .returned (.int .i64 (if stB c = true then 0 else 1)) ∧ Touch (fun _ => False) w w' := by
  have bt := (Touch.refl (fun _ => False) w).alloc (.cells (cellsCf c).toArray 24)
  have HT := hide bt
  have K := hide (scheck_any (h.keep bt))
  clear h bt
  generalize (if stB c = true then (0 : Int) else 1) = q at *
  unfold cellsCf at *
  go_enter Try.func6, Try.ntmps6
  go_wp2_with (go_at_call 16; refine (unhide K).mono ?_; rintro e w' ⟨rfl, t2⟩; have T2 := hide t2; clear t2)
  go_ret
  exact ⟨rfl, (unhide HT).trans (unhide T2)⟩
end Go.Proofs.Ytbonlonkienhaaa
