/-
  batch.head: what stands ahead of the values is taken. Conditions: the bytes are at most 2^47.
-/
import Derived.Test.YtkcoeofbobkaoabGreatDoorCk7
import Derived.Test.YtkcoeofbobkaoabGreatDoorSet9
import Derived.Test.YtkcoeofbobkaoabGreatDoorCp7

namespace Go.Proofs.YtkcoeofbobkaoabGreatDoor
open Go.RowKit
set_option linter.unusedVariables false

/-- What stands ahead of the values. -/
def hdB (t : List Nat) : Bt := ⟨(h1 t).1, (h2 t).1, (h3 t).1, (h4 t).1, (h5 t).1, (h6 t).1, (h7 t).1, (h8 t).1, []⟩
theorem hd_split (t : List Nat) : ∃ (x1 : Int) (s1 : Rst) (x2 : Int) (s2 : Rst) (x3 : Nat) (s3 : Rst) (x4 : Int) (s4 : Rst) (x5 : Int) (s5 : Rst) (x6 : Bool) (s6 : Rst) (x7 : Bool) (s7 : Rst) (x8 : Bool) (s8 : Rst), rI t ⟨0, 0⟩ = (x1, s1) ∧ rI t s1 = (x2, s2) ∧ rU t s2 = (x3, s3) ∧ rI t s3 = (x4, s4) ∧ rI t s4 = (x5, s5) ∧ rF t s5 = (x6, s6) ∧ rF t s6 = (x7, s7) ∧ rF t s7 = (x8, s8) ∧ hdB t = ⟨x1, x2, x3, x4, x5, x6, x7, x8, []⟩ ∧ (h8 t).2 = s8 := by
  refine ⟨(h1 t).1, (h1 t).2, (h2 t).1, (h2 t).2, (h3 t).1, (h3 t).2, (h4 t).1, (h4 t).2, (h5 t).1, (h5 t).2, (h6 t).1, (h6 t).2, (h7 t).1, (h7 t).2, (h8 t).1, (h8 t).2, ?_, ?_, ?_, ?_, ?_, ?_, ?_, ?_, rfl, rfl⟩
  · rw [← h1_eq]
  · rw [← h2_eq]
  · rw [← h3_eq]
  · rw [← h4_eq]
  · rw [← h5_eq]
  · rw [← h6_eq]
  · rw [← h7_eq]
  · rw [← h8_eq]
/-- A block of a batch's cells. -/
def Blk (w : World) (g : Nat) (cs : Array Value) : Prop := w.heap[g]? = some (.cells cs 29)
theorem Blk.keep {w w' : World} {g : Nat} {cs : Array Value} {S : Nat → Prop} (h : Blk w g cs) (t : Touch S w w') (hs : ¬ S g) : Blk w' g cs := t.keep h hs
theorem Blk.fz {w : World} {g : Nat} {cs : Array Value} (h : Blk w g cs) (i : Nat) : w.frozen? ⟨g, i, none⟩ = false := frozen_of h i
theorem Blk.cell {w : World} {g : Nat} {cs : Array Value} (h : Blk w g cs) (i : Nat) : w.cell? ⟨g, i, none⟩ = cs[i]? := cell_of h i
theorem Blk.set {w : World} {g : Nat} {cs cs' : Array Value} (h : Blk w g cs) (i : Nat) (v : Value) (e : cs.setIfInBounds i v = cs') : Blk (w.setCell ⟨g, i, none⟩ v) g cs' := set1 h i v e
theorem Blk.lt {w : World} {g : Nat} {cs : Array Value} (h : Blk w g cs) : g < w.heap.size := lt_of_heap h
def zero9 : Array Value := #[.int .i64 0, .int .i64 0, .int .u64 0, .int .i64 0, .int .i64 0, .bool false, .bool false, .bool false, .slice none 0 0]
theorem touch_old {w w' : World} {S : Nat → Prop} (h : Touch (fun k => S k ∨ w.heap.size ≤ k) w w') : Touch S w w' :=
  ⟨h.os, h.tape, h.output, h.size, fun k hk hs => h.block k hk (fun e => e.elim hs (fun e => by omega))⟩

set_option maxRecDepth 100000 in
set_option maxHeartbeats 8000000 in
theorem head_any {a : Option Addr} {cap b : Nat} {t : List Nat} (w : World) (h : RdAt 212 w b a cap t ⟨0, 0⟩) :
    Calls Tryz.prog 150 #[.pointer (some ⟨b, 0, none⟩)] w fun e w' => e = .returned (bv (hdB t) none 0) ∧ RdAt 212 w' b a cap t (h8 t).2 ∧ Touch (· = b) w w' := by
  obtain ⟨x1, s1, x2, s2, x3, s3, x4, s4, x5, s5, x6, s6, x7, s7, x8, s8, E1, E2, E3, E4, E5, E6, E7, E8, EH, ES⟩ := hd_split t
  rw [EH, ES]
  have hb := h.lt
  have hA : Hid (∀ x, a = some x → 0 < t.length → x.block < w.heap.size) := fun x hx h0 => lat_lt h.text h0 hx
  have hw0 : Below w.heap.size w ((w.alloc (.cells #[.int .i64 0, .int .i64 0, .int .u64 0, .int .i64 0, .int .i64 0, .bool false, .bool false, .bool false, .slice none 0 0] 29)).alloc (.cells #[.int .i64 0, .int .i64 0, .int .u64 0, .int .i64 0, .int .i64 0, .bool false, .bool false, .bool false, .slice none 0 0] 29)) := ((Below.refl _ _).alloc (Nat.le_refl _) _).alloc (by simp) _
  have H0 := hide (h.later hw0)
  have T0 : Hid (Touch (fun k => k = b ∨ w.heap.size ≤ k) w ((w.alloc (.cells #[.int .i64 0, .int .i64 0, .int .u64 0, .int .i64 0, .int .i64 0, .bool false, .bool false, .bool false, .slice none 0 0] 29)).alloc (.cells #[.int .i64 0, .int .i64 0, .int .u64 0, .int .i64 0, .int .i64 0, .bool false, .bool false, .bool false, .slice none 0 0] 29))) := Touch.of_below hw0
  have R0 : Hid (Blk ((w.alloc (.cells #[.int .i64 0, .int .i64 0, .int .u64 0, .int .i64 0, .int .i64 0, .bool false, .bool false, .bool false, .slice none 0 0] 29)).alloc (.cells #[.int .i64 0, .int .i64 0, .int .u64 0, .int .i64 0, .int .i64 0, .bool false, .bool false, .bool false, .slice none 0 0] 29)) w.heap.size #[.int .i64 0, .int .i64 0, .int .u64 0, .int .i64 0, .int .i64 0, .bool false, .bool false, .bool false, .slice none 0 0]) := heap_old _ (heap_new w _)
  have X0 : Hid (Blk ((w.alloc (.cells #[.int .i64 0, .int .i64 0, .int .u64 0, .int .i64 0, .int .i64 0, .bool false, .bool false, .bool false, .slice none 0 0] 29)).alloc (.cells #[.int .i64 0, .int .i64 0, .int .u64 0, .int .i64 0, .int .i64 0, .bool false, .bool false, .bool false, .slice none 0 0] 29)) (w.heap.size + 1) #[.int .i64 0, .int .i64 0, .int .u64 0, .int .i64 0, .int .i64 0, .bool false, .bool false, .bool false, .slice none 0 0]) := by
    have := heap_new (w.alloc (.cells #[.int .i64 0, .int .i64 0, .int .u64 0, .int .i64 0, .int .i64 0, .bool false, .bool false, .bool false, .slice none 0 0] 29)) (.cells #[.int .i64 0, .int .i64 0, .int .u64 0, .int .i64 0, .int .i64 0, .bool false, .bool false, .bool false, .slice none 0 0] 29)
    simp only [World.size_alloc] at this
    exact this
  clear h hw0 EH ES
  go_enter Tryz.func150, Tryz.ntmps150
  go_wp2_with fail
  generalize (w.alloc (.cells #[.int .i64 0, .int .i64 0, .int .u64 0, .int .i64 0, .int .i64 0, .bool false, .bool false, .bool false, .slice none 0 0] 29)).alloc (.cells #[.int .i64 0, .int .i64 0, .int .u64 0, .int .i64 0, .int .i64 0, .bool false, .bool false, .bool false, .slice none 0 0] 29) = U0 at *
  have K0 := rint_any _ (unhide H0)
  rw [E1] at K0
  simp only at K0
  have KH0 := hide K0
  clear K0
  refine (unhide KH0).mono ?_
  rintro e w1 ⟨rfl, r1, t1⟩
  have xx0 := (unhide X0).keep t1 (by omega)
  have z1 := xx0.fz 0
  have y1 : w1.cell? ⟨w.heap.size + 1, 0, none⟩ = some _ := xx0.cell 0
  have H1 : Hid (RdAt 212 (w1.setCell ⟨w.heap.size + 1, 0, none⟩ (.int .i64 x1)) b a cap t s1) := r1.keep (touch_set w1 (w.heap.size + 1) 0 (.int .i64 x1)) (fun e => by omega) (fun h0 x hx e => by have := unhide hA x hx h0; omega)
  have T1 : Hid (Touch (fun k => k = b ∨ w.heap.size ≤ k) w (w1.setCell ⟨w.heap.size + 1, 0, none⟩ (.int .i64 x1))) := ((unhide T0).trans (t1.mono (fun k hk => .inl hk))).trans ((touch_set w1 (w.heap.size + 1) 0 (.int .i64 x1)).mono (fun k hk => .inr (by omega)))
  have R1 : Hid (Blk (w1.setCell ⟨w.heap.size + 1, 0, none⟩ (.int .i64 x1)) w.heap.size #[.int .i64 0, .int .i64 0, .int .u64 0, .int .i64 0, .int .i64 0, .bool false, .bool false, .bool false, .slice none 0 0]) := ((unhide R0).keep t1 (by omega)).keep (touch_set w1 (w.heap.size + 1) 0 (.int .i64 x1)) (by omega)
  have X1 : Hid (Blk (w1.setCell ⟨w.heap.size + 1, 0, none⟩ (.int .i64 x1)) (w.heap.size + 1) #[.int .i64 x1, .int .i64 0, .int .u64 0, .int .i64 0, .int .i64 0, .bool false, .bool false, .bool false, .slice none 0 0]) := xx0.set 0 (.int .i64 x1) rfl
  clear r1 t1 xx0 KH0 H0 T0 R0 X0
  go_wp2_with fail
  generalize w1.setCell ⟨w.heap.size + 1, 0, none⟩ (.int .i64 x1) = U1 at *
  clear z1 y1
  have K1 := rint_any _ (unhide H1)
  rw [E2] at K1
  simp only at K1
  have KH1 := hide K1
  clear K1
  refine (unhide KH1).mono ?_
  rintro e w2 ⟨rfl, r2, t2⟩
  have xx1 := (unhide X1).keep t2 (by omega)
  have z2 := xx1.fz 1
  have y2 : w2.cell? ⟨w.heap.size + 1, 1, none⟩ = some _ := xx1.cell 1
  have H2 : Hid (RdAt 212 (w2.setCell ⟨w.heap.size + 1, 1, none⟩ (.int .i64 x2)) b a cap t s2) := r2.keep (touch_set w2 (w.heap.size + 1) 1 (.int .i64 x2)) (fun e => by omega) (fun h0 x hx e => by have := unhide hA x hx h0; omega)
  have T2 : Hid (Touch (fun k => k = b ∨ w.heap.size ≤ k) w (w2.setCell ⟨w.heap.size + 1, 1, none⟩ (.int .i64 x2))) := ((unhide T1).trans (t2.mono (fun k hk => .inl hk))).trans ((touch_set w2 (w.heap.size + 1) 1 (.int .i64 x2)).mono (fun k hk => .inr (by omega)))
  have R2 : Hid (Blk (w2.setCell ⟨w.heap.size + 1, 1, none⟩ (.int .i64 x2)) w.heap.size #[.int .i64 0, .int .i64 0, .int .u64 0, .int .i64 0, .int .i64 0, .bool false, .bool false, .bool false, .slice none 0 0]) := ((unhide R1).keep t2 (by omega)).keep (touch_set w2 (w.heap.size + 1) 1 (.int .i64 x2)) (by omega)
  have X2 : Hid (Blk (w2.setCell ⟨w.heap.size + 1, 1, none⟩ (.int .i64 x2)) (w.heap.size + 1) #[.int .i64 x1, .int .i64 x2, .int .u64 0, .int .i64 0, .int .i64 0, .bool false, .bool false, .bool false, .slice none 0 0]) := xx1.set 1 (.int .i64 x2) rfl
  clear r2 t2 xx1 KH1 H1 T1 R1 X1
  go_wp2_with fail
  generalize w2.setCell ⟨w.heap.size + 1, 1, none⟩ (.int .i64 x2) = U2 at *
  clear z2 y2
  have K2 := ruint_any _ (unhide H2)
  rw [E3] at K2
  simp only at K2
  have KH2 := hide K2
  clear K2
  refine (unhide KH2).mono ?_
  rintro e w3 ⟨rfl, r3, t3⟩
  have xx2 := (unhide X2).keep t3 (by omega)
  have z3 := xx2.fz 2
  have y3 : w3.cell? ⟨w.heap.size + 1, 2, none⟩ = some _ := xx2.cell 2
  have H3 : Hid (RdAt 212 (w3.setCell ⟨w.heap.size + 1, 2, none⟩ (.int .u64 (x3 : Nat))) b a cap t s3) := r3.keep (touch_set w3 (w.heap.size + 1) 2 (.int .u64 (x3 : Nat))) (fun e => by omega) (fun h0 x hx e => by have := unhide hA x hx h0; omega)
  have T3 : Hid (Touch (fun k => k = b ∨ w.heap.size ≤ k) w (w3.setCell ⟨w.heap.size + 1, 2, none⟩ (.int .u64 (x3 : Nat)))) := ((unhide T2).trans (t3.mono (fun k hk => .inl hk))).trans ((touch_set w3 (w.heap.size + 1) 2 (.int .u64 (x3 : Nat))).mono (fun k hk => .inr (by omega)))
  have R3 : Hid (Blk (w3.setCell ⟨w.heap.size + 1, 2, none⟩ (.int .u64 (x3 : Nat))) w.heap.size #[.int .i64 0, .int .i64 0, .int .u64 0, .int .i64 0, .int .i64 0, .bool false, .bool false, .bool false, .slice none 0 0]) := ((unhide R2).keep t3 (by omega)).keep (touch_set w3 (w.heap.size + 1) 2 (.int .u64 (x3 : Nat))) (by omega)
  have X3 : Hid (Blk (w3.setCell ⟨w.heap.size + 1, 2, none⟩ (.int .u64 (x3 : Nat))) (w.heap.size + 1) #[.int .i64 x1, .int .i64 x2, .int .u64 (x3 : Nat), .int .i64 0, .int .i64 0, .bool false, .bool false, .bool false, .slice none 0 0]) := xx2.set 2 (.int .u64 (x3 : Nat)) rfl
  clear r3 t3 xx2 KH2 H2 T2 R2 X2
  go_wp2_with fail
  generalize w3.setCell ⟨w.heap.size + 1, 2, none⟩ (.int .u64 (x3 : Nat)) = U3 at *
  clear z3 y3
  have K3 := rint_any _ (unhide H3)
  rw [E4] at K3
  simp only at K3
  have KH3 := hide K3
  clear K3
  refine (unhide KH3).mono ?_
  rintro e w4 ⟨rfl, r4, t4⟩
  have xx3 := (unhide X3).keep t4 (by omega)
  have z4 := xx3.fz 3
  have y4 : w4.cell? ⟨w.heap.size + 1, 3, none⟩ = some _ := xx3.cell 3
  have H4 : Hid (RdAt 212 (w4.setCell ⟨w.heap.size + 1, 3, none⟩ (.int .i64 x4)) b a cap t s4) := r4.keep (touch_set w4 (w.heap.size + 1) 3 (.int .i64 x4)) (fun e => by omega) (fun h0 x hx e => by have := unhide hA x hx h0; omega)
  have T4 : Hid (Touch (fun k => k = b ∨ w.heap.size ≤ k) w (w4.setCell ⟨w.heap.size + 1, 3, none⟩ (.int .i64 x4))) := ((unhide T3).trans (t4.mono (fun k hk => .inl hk))).trans ((touch_set w4 (w.heap.size + 1) 3 (.int .i64 x4)).mono (fun k hk => .inr (by omega)))
  have R4 : Hid (Blk (w4.setCell ⟨w.heap.size + 1, 3, none⟩ (.int .i64 x4)) w.heap.size #[.int .i64 0, .int .i64 0, .int .u64 0, .int .i64 0, .int .i64 0, .bool false, .bool false, .bool false, .slice none 0 0]) := ((unhide R3).keep t4 (by omega)).keep (touch_set w4 (w.heap.size + 1) 3 (.int .i64 x4)) (by omega)
  have X4 : Hid (Blk (w4.setCell ⟨w.heap.size + 1, 3, none⟩ (.int .i64 x4)) (w.heap.size + 1) #[.int .i64 x1, .int .i64 x2, .int .u64 (x3 : Nat), .int .i64 x4, .int .i64 0, .bool false, .bool false, .bool false, .slice none 0 0]) := xx3.set 3 (.int .i64 x4) rfl
  clear r4 t4 xx3 KH3 H3 T3 R3 X3
  go_wp2_with fail
  generalize w4.setCell ⟨w.heap.size + 1, 3, none⟩ (.int .i64 x4) = U4 at *
  clear z4 y4
  have K4 := rint_any _ (unhide H4)
  rw [E5] at K4
  simp only at K4
  have KH4 := hide K4
  clear K4
  refine (unhide KH4).mono ?_
  rintro e w5 ⟨rfl, r5, t5⟩
  have xx4 := (unhide X4).keep t5 (by omega)
  have z5 := xx4.fz 4
  have y5 : w5.cell? ⟨w.heap.size + 1, 4, none⟩ = some _ := xx4.cell 4
  have H5 : Hid (RdAt 212 (w5.setCell ⟨w.heap.size + 1, 4, none⟩ (.int .i64 x5)) b a cap t s5) := r5.keep (touch_set w5 (w.heap.size + 1) 4 (.int .i64 x5)) (fun e => by omega) (fun h0 x hx e => by have := unhide hA x hx h0; omega)
  have T5 : Hid (Touch (fun k => k = b ∨ w.heap.size ≤ k) w (w5.setCell ⟨w.heap.size + 1, 4, none⟩ (.int .i64 x5))) := ((unhide T4).trans (t5.mono (fun k hk => .inl hk))).trans ((touch_set w5 (w.heap.size + 1) 4 (.int .i64 x5)).mono (fun k hk => .inr (by omega)))
  have R5 : Hid (Blk (w5.setCell ⟨w.heap.size + 1, 4, none⟩ (.int .i64 x5)) w.heap.size #[.int .i64 0, .int .i64 0, .int .u64 0, .int .i64 0, .int .i64 0, .bool false, .bool false, .bool false, .slice none 0 0]) := ((unhide R4).keep t5 (by omega)).keep (touch_set w5 (w.heap.size + 1) 4 (.int .i64 x5)) (by omega)
  have X5 : Hid (Blk (w5.setCell ⟨w.heap.size + 1, 4, none⟩ (.int .i64 x5)) (w.heap.size + 1) #[.int .i64 x1, .int .i64 x2, .int .u64 (x3 : Nat), .int .i64 x4, .int .i64 x5, .bool false, .bool false, .bool false, .slice none 0 0]) := xx4.set 4 (.int .i64 x5) rfl
  clear r5 t5 xx4 KH4 H4 T4 R4 X4
  go_wp2_with fail
  generalize w5.setCell ⟨w.heap.size + 1, 4, none⟩ (.int .i64 x5) = U5 at *
  clear z5 y5
  have K5 := rflag_any _ (unhide H5)
  rw [E6] at K5
  simp only at K5
  have KH5 := hide K5
  clear K5
  refine (unhide KH5).mono ?_
  rintro e w6 ⟨rfl, r6, t6⟩
  have xx5 := (unhide X5).keep t6 (by omega)
  have z6 := xx5.fz 5
  have y6 : w6.cell? ⟨w.heap.size + 1, 5, none⟩ = some _ := xx5.cell 5
  have H6 : Hid (RdAt 212 (w6.setCell ⟨w.heap.size + 1, 5, none⟩ (.bool x6)) b a cap t s6) := r6.keep (touch_set w6 (w.heap.size + 1) 5 (.bool x6)) (fun e => by omega) (fun h0 x hx e => by have := unhide hA x hx h0; omega)
  have T6 : Hid (Touch (fun k => k = b ∨ w.heap.size ≤ k) w (w6.setCell ⟨w.heap.size + 1, 5, none⟩ (.bool x6))) := ((unhide T5).trans (t6.mono (fun k hk => .inl hk))).trans ((touch_set w6 (w.heap.size + 1) 5 (.bool x6)).mono (fun k hk => .inr (by omega)))
  have R6 : Hid (Blk (w6.setCell ⟨w.heap.size + 1, 5, none⟩ (.bool x6)) w.heap.size #[.int .i64 0, .int .i64 0, .int .u64 0, .int .i64 0, .int .i64 0, .bool false, .bool false, .bool false, .slice none 0 0]) := ((unhide R5).keep t6 (by omega)).keep (touch_set w6 (w.heap.size + 1) 5 (.bool x6)) (by omega)
  have X6 : Hid (Blk (w6.setCell ⟨w.heap.size + 1, 5, none⟩ (.bool x6)) (w.heap.size + 1) #[.int .i64 x1, .int .i64 x2, .int .u64 (x3 : Nat), .int .i64 x4, .int .i64 x5, .bool x6, .bool false, .bool false, .slice none 0 0]) := xx5.set 5 (.bool x6) rfl
  clear r6 t6 xx5 KH5 H5 T5 R5 X5
  go_wp2_with fail
  generalize w6.setCell ⟨w.heap.size + 1, 5, none⟩ (.bool x6) = U6 at *
  clear z6 y6
  have K6 := rflag_any _ (unhide H6)
  rw [E7] at K6
  simp only at K6
  have KH6 := hide K6
  clear K6
  refine (unhide KH6).mono ?_
  rintro e w7 ⟨rfl, r7, t7⟩
  have xx6 := (unhide X6).keep t7 (by omega)
  have z7 := xx6.fz 6
  have y7 : w7.cell? ⟨w.heap.size + 1, 6, none⟩ = some _ := xx6.cell 6
  have H7 : Hid (RdAt 212 (w7.setCell ⟨w.heap.size + 1, 6, none⟩ (.bool x7)) b a cap t s7) := r7.keep (touch_set w7 (w.heap.size + 1) 6 (.bool x7)) (fun e => by omega) (fun h0 x hx e => by have := unhide hA x hx h0; omega)
  have T7 : Hid (Touch (fun k => k = b ∨ w.heap.size ≤ k) w (w7.setCell ⟨w.heap.size + 1, 6, none⟩ (.bool x7))) := ((unhide T6).trans (t7.mono (fun k hk => .inl hk))).trans ((touch_set w7 (w.heap.size + 1) 6 (.bool x7)).mono (fun k hk => .inr (by omega)))
  have R7 : Hid (Blk (w7.setCell ⟨w.heap.size + 1, 6, none⟩ (.bool x7)) w.heap.size #[.int .i64 0, .int .i64 0, .int .u64 0, .int .i64 0, .int .i64 0, .bool false, .bool false, .bool false, .slice none 0 0]) := ((unhide R6).keep t7 (by omega)).keep (touch_set w7 (w.heap.size + 1) 6 (.bool x7)) (by omega)
  have X7 : Hid (Blk (w7.setCell ⟨w.heap.size + 1, 6, none⟩ (.bool x7)) (w.heap.size + 1) #[.int .i64 x1, .int .i64 x2, .int .u64 (x3 : Nat), .int .i64 x4, .int .i64 x5, .bool x6, .bool x7, .bool false, .slice none 0 0]) := xx6.set 6 (.bool x7) rfl
  clear r7 t7 xx6 KH6 H6 T6 R6 X6
  go_wp2_with fail
  generalize w7.setCell ⟨w.heap.size + 1, 6, none⟩ (.bool x7) = U7 at *
  clear z7 y7
  have K7 := rflag_any _ (unhide H7)
  rw [E8] at K7
  simp only at K7
  have KH7 := hide K7
  clear K7
  refine (unhide KH7).mono ?_
  rintro e w8 ⟨rfl, r8, t8⟩
  have xx7 := (unhide X7).keep t8 (by omega)
  have z8 := xx7.fz 7
  have y8 : w8.cell? ⟨w.heap.size + 1, 7, none⟩ = some _ := xx7.cell 7
  have H8 : Hid (RdAt 212 (w8.setCell ⟨w.heap.size + 1, 7, none⟩ (.bool x8)) b a cap t s8) := r8.keep (touch_set w8 (w.heap.size + 1) 7 (.bool x8)) (fun e => by omega) (fun h0 x hx e => by have := unhide hA x hx h0; omega)
  have T8 : Hid (Touch (fun k => k = b ∨ w.heap.size ≤ k) w (w8.setCell ⟨w.heap.size + 1, 7, none⟩ (.bool x8))) := ((unhide T7).trans (t8.mono (fun k hk => .inl hk))).trans ((touch_set w8 (w.heap.size + 1) 7 (.bool x8)).mono (fun k hk => .inr (by omega)))
  have R8 : Hid (Blk (w8.setCell ⟨w.heap.size + 1, 7, none⟩ (.bool x8)) w.heap.size #[.int .i64 0, .int .i64 0, .int .u64 0, .int .i64 0, .int .i64 0, .bool false, .bool false, .bool false, .slice none 0 0]) := ((unhide R7).keep t8 (by omega)).keep (touch_set w8 (w.heap.size + 1) 7 (.bool x8)) (by omega)
  have X8 : Hid (Blk (w8.setCell ⟨w.heap.size + 1, 7, none⟩ (.bool x8)) (w.heap.size + 1) #[.int .i64 x1, .int .i64 x2, .int .u64 (x3 : Nat), .int .i64 x4, .int .i64 x5, .bool x6, .bool x7, .bool x8, .slice none 0 0]) := xx7.set 7 (.bool x8) rfl
  clear r8 t8 xx7 KH7 H7 T7 R7 X7
  have bx : Box (w8.setCell ⟨w.heap.size + 1, 7, none⟩ (.bool x8)) (w.heap.size + 1) ⟨x1, x2, x3, x4, x5, x6, x7, x8, []⟩ none 0 := unhide X8
  have bz : Box (w8.setCell ⟨w.heap.size + 1, 7, none⟩ (.bool x8)) w.heap.size zeroB none 0 := unhide R8
  obtain ⟨k0, k1, k2, k3, k4, k5, k6, k7, k8⟩ := bx.cells
  obtain ⟨q0, q1, q2, q3, q4, q5, q6, q7, q8⟩ := bz.cells
  have z : ∀ i, (w8.setCell ⟨w.heap.size + 1, 7, none⟩ (.bool x8)).frozen? ⟨w.heap.size, i, none⟩ = false := (unhide R8).fz
  simp only [List.length_nil] at k0 k1 k2 k3 k4 k5 k6 k7 k8
  simp only [zeroB, List.length_nil] at q0 q1 q2 q3 q4 q5 q6 q7 q8
  have T9 := hide (set9 (unhide R8) rfl (.int .i64 x1) (.int .i64 x2) (.int .u64 (x3 : Nat)) (.int .i64 x4) (.int .i64 x5) (.bool x6) (.bool x7) (.bool x8) (.slice none 0 0))
  clear bx bz
  go_wp2
  clear q0 q1 q2 q3 q4 q5 q6 q7 q8 z k0 k1 k2 k3 k4 k5 k6 k7 k8
  generalize ((((((((((w8.setCell ⟨w.heap.size + 1, 7, none⟩ (.bool x8)).setCell ⟨w.heap.size, 0, none⟩ (.int .i64 x1)).setCell ⟨w.heap.size, 1, none⟩ (.int .i64 x2)).setCell ⟨w.heap.size, 2, none⟩ (.int .u64 (x3 : Nat))).setCell ⟨w.heap.size, 3, none⟩ (.int .i64 x4)).setCell ⟨w.heap.size, 4, none⟩ (.int .i64 x5)).setCell ⟨w.heap.size, 5, none⟩ (.bool x6)).setCell ⟨w.heap.size, 6, none⟩ (.bool x7)).setCell ⟨w.heap.size, 7, none⟩ (.bool x8)).setCell ⟨w.heap.size, 8, none⟩ (.slice none 0 0)) = V at *
  have bu : Box V w.heap.size ⟨x1, x2, x3, x4, x5, x6, x7, x8, []⟩ none 0 := (unhide T9).1
  obtain ⟨k0, k1, k2, k3, k4, k5, k6, k7, k8⟩ := bu.cells
  simp only [List.length_nil] at k0 k1 k2 k3 k4 k5 k6 k7 k8
  refine bodyPost_ret (by simp [results, Tryz.results150, go_sem, k0, k1, k2, k3, k4, k5, k6, k7, k8]; try rfl) rfl ?_
  refine ⟨rfl, (unhide H8).keep (unhide T9).2 (fun e => by omega) (fun h0 x hx e => by have := unhide hA x hx h0; omega), touch_old ((unhide T8).trans ((unhide T9).2.mono (fun k hk => .inr (by omega))))⟩
end Go.Proofs.YtkcoeofbobkaoabGreatDoor
