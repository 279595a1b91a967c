/-
  batch.Decode: the batch, or the first error. Conditions: the bytes are at most 2^47.
-/
import Derived.Test.YtblmondkdcpkaaaZ07
import Derived.Test.YtblmondkdcpkaaaZ15
import Derived.Test.YtblmondkdcpkaaaZ10
import Derived.Deep.RegionLaw

/-
  penstockref07's Copy: a batch with values of its own. penstockref03's Same and penstockref07's Same at any two. Conditions: the values and each of them are as great as memory can be.
-/
namespace Go.Proofs.Ytblmondkdcpkaaa
open Go.RowKit
set_option linter.unusedVariables false

theorem take_succ_l {ls : List (List Nat)} {k : Nat} (h : k < ls.length) : ls.take (k + 1) = ls.take k ++ [ls.getD k []] := by
  rw [List.take_add_one]
  simp [List.getD, h]
theorem getD_mem_l {ls : List (List Nat)} {k : Nat} (h : k < ls.length) : ls.getD k [] ∈ ls := by simp [List.getD, h]
/-- What the loop has. -/
def Copied (w wr : World) (v : Value) (ls : List (List Nat)) : Prop := Paid w wr v ls ∧ New w v ∧ Below w.heap.size w wr
def CoPost (w : World) (b : Bt) (e : Ending) (w' : World) : Prop := ∃ a cap, e = .returned (bv b a cap) ∧ Copied w w' (.slice a b.vs.length cap) b.vs
theorem fresh_nil {w w3 : World} {v : Value} {p : List Nat} (r3 : Row w3 v p) (t3 : Touch (fun k => (Value.slice none 0 0).ownBlock = some k) w w3) (m3 : Moved w (.slice none 0 0) v) : Fresh w w3 v p :=
  ⟨r3, (New.nil w).moved m3 (Nat.le_refl _), below_touch (Below.refl _ _) t3 (Nat.le_refl _) (fun k hk => by simp [Value.ownBlock] at hk)⟩

end Go.Proofs.Ytblmondkdcpkaaa


/-
  batch.head: what stands ahead of the values is taken. Conditions: the bytes are at most 2^47.
-/
namespace Go.Proofs.Ytblmondkdcpkaaa
open Go.RowKit
set_option linter.unusedVariables false

/-- What stands ahead of the values. -/
def hdB (t : List Nat) : Bt := ⟨(h1 t).1, (h2 t).1, (h3 t).1, (h4 t).1, (h5 t).1, (h6 t).1, (h7 t).1, (h8 t).1, []⟩
theorem hd_split (t : List Nat) : ∃ (x1 : Int) (s1 : Rst) (x2 : Int) (s2 : Rst) (x3 : Nat) (s3 : Rst) (x4 : Int) (s4 : Rst) (x5 : Int) (s5 : Rst) (x6 : Bool) (s6 : Rst) (x7 : Bool) (s7 : Rst) (x8 : Bool) (s8 : Rst), rI t ⟨0, 0⟩ = (x1, s1) ∧ rI t s1 = (x2, s2) ∧ rU t s2 = (x3, s3) ∧ rI t s3 = (x4, s4) ∧ rI t s4 = (x5, s5) ∧ rF t s5 = (x6, s6) ∧ rF t s6 = (x7, s7) ∧ rF t s7 = (x8, s8) ∧ hdB t = ⟨x1, x2, x3, x4, x5, x6, x7, x8, []⟩ ∧ (h8 t).2 = s8 := by
  refine ⟨(h1 t).1, (h1 t).2, (h2 t).1, (h2 t).2, (h3 t).1, (h3 t).2, (h4 t).1, (h4 t).2, (h5 t).1, (h5 t).2, (h6 t).1, (h6 t).2, (h7 t).1, (h7 t).2, (h8 t).1, (h8 t).2, ?_, ?_, ?_, ?_, ?_, ?_, ?_, ?_, rfl, rfl⟩
  · rw [← h1_eq]
  · rw [← h2_eq]
  · rw [← h3_eq]
  · rw [← h4_eq]
  · rw [← h5_eq]
  · rw [← h6_eq]
  · rw [← h7_eq]
  · rw [← h8_eq]
/-- A block of a batch's cells. -/
def Blk (w : World) (g : Nat) (cs : Array Value) : Prop := w.heap[g]? = some (.cells cs 38)
theorem Blk.keep {w w' : World} {g : Nat} {cs : Array Value} {S : Nat → Prop} (h : Blk w g cs) (t : Touch S w w') (hs : ¬ S g) : Blk w' g cs := t.keep h hs
theorem Blk.fz {w : World} {g : Nat} {cs : Array Value} (h : Blk w g cs) (i : Nat) : w.frozen? ⟨g, i, none⟩ = false := frozen_of h i
theorem Blk.cell {w : World} {g : Nat} {cs : Array Value} (h : Blk w g cs) (i : Nat) : w.cell? ⟨g, i, none⟩ = cs[i]? := cell_of h i
theorem Blk.set {w : World} {g : Nat} {cs cs' : Array Value} (h : Blk w g cs) (i : Nat) (v : Value) (e : cs.setIfInBounds i v = cs') : Blk (w.setCell ⟨g, i, none⟩ v) g cs' := set1 h i v e
theorem Blk.lt {w : World} {g : Nat} {cs : Array Value} (h : Blk w g cs) : g < w.heap.size := lt_of_heap h
def zero9 : Array Value := #[.int .i64 0, .int .i64 0, .int .u64 0, .int .i64 0, .int .i64 0, .bool false, .bool false, .bool false, .slice none 0 0]
theorem touch_old {w w' : World} {S : Nat → Prop} (h : Touch (fun k => S k ∨ w.heap.size ≤ k) w w') : Touch S w w' :=
  ⟨h.os, h.tape, h.output, h.size, fun k hk hs => h.block k hk (fun e => e.elim hs (fun e => by omega))⟩

set_option maxRecDepth 100000 in
set_option maxHeartbeats 8000000 in
theorem head_any {a : Option Addr} {cap b : Nat} {t : List Nat} (w : World) (h : RdAt 97 w b a cap t ⟨0, 0⟩) :
    Calls Try.prog 93 #[.pointer (some ⟨b, 0, none⟩)] w fun e w' => e = .returned (bv (hdB t) none 0) ∧ RdAt 97 w' b a cap t (h8 t).2 ∧ Touch (· = b) w w' := by
  obtain ⟨x1, s1, x2, s2, x3, s3, x4, s4, x5, s5, x6, s6, x7, s7, x8, s8, E1, E2, E3, E4, E5, E6, E7, E8, EH, ES⟩ := hd_split t
  rw [EH, ES]
  have hb := h.lt
  have hA : Hid (∀ x, a = some x → 0 < t.length → x.block < w.heap.size) := fun x hx h0 => lat_lt h.text h0 hx
  have hw0 : Below w.heap.size w ((w.alloc (.cells #[.int .i64 0, .int .i64 0, .int .u64 0, .int .i64 0, .int .i64 0, .bool false, .bool false, .bool false, .slice none 0 0] 38)).alloc (.cells #[.int .i64 0, .int .i64 0, .int .u64 0, .int .i64 0, .int .i64 0, .bool false, .bool false, .bool false, .slice none 0 0] 38)) := ((Below.refl _ _).alloc (Nat.le_refl _) _).alloc (by simp) _
  have H0 := hide (h.later hw0)
  have T0 : Hid (Touch (fun k => k = b ∨ w.heap.size ≤ k) w ((w.alloc (.cells #[.int .i64 0, .int .i64 0, .int .u64 0, .int .i64 0, .int .i64 0, .bool false, .bool false, .bool false, .slice none 0 0] 38)).alloc (.cells #[.int .i64 0, .int .i64 0, .int .u64 0, .int .i64 0, .int .i64 0, .bool false, .bool false, .bool false, .slice none 0 0] 38))) := Touch.of_below hw0
  have R0 : Hid (Blk ((w.alloc (.cells #[.int .i64 0, .int .i64 0, .int .u64 0, .int .i64 0, .int .i64 0, .bool false, .bool false, .bool false, .slice none 0 0] 38)).alloc (.cells #[.int .i64 0, .int .i64 0, .int .u64 0, .int .i64 0, .int .i64 0, .bool false, .bool false, .bool false, .slice none 0 0] 38)) w.heap.size #[.int .i64 0, .int .i64 0, .int .u64 0, .int .i64 0, .int .i64 0, .bool false, .bool false, .bool false, .slice none 0 0]) := heap_old _ (heap_new w _)
  have X0 : Hid (Blk ((w.alloc (.cells #[.int .i64 0, .int .i64 0, .int .u64 0, .int .i64 0, .int .i64 0, .bool false, .bool false, .bool false, .slice none 0 0] 38)).alloc (.cells #[.int .i64 0, .int .i64 0, .int .u64 0, .int .i64 0, .int .i64 0, .bool false, .bool false, .bool false, .slice none 0 0] 38)) (w.heap.size + 1) #[.int .i64 0, .int .i64 0, .int .u64 0, .int .i64 0, .int .i64 0, .bool false, .bool false, .bool false, .slice none 0 0]) := by
    have := heap_new (w.alloc (.cells #[.int .i64 0, .int .i64 0, .int .u64 0, .int .i64 0, .int .i64 0, .bool false, .bool false, .bool false, .slice none 0 0] 38)) (.cells #[.int .i64 0, .int .i64 0, .int .u64 0, .int .i64 0, .int .i64 0, .bool false, .bool false, .bool false, .slice none 0 0] 38)
    simp only [World.size_alloc] at this
    exact this
  clear h hw0 EH ES
  go_enter Try.func93, Try.ntmps93
  go_wp2_with fail
  generalize (w.alloc (.cells #[.int .i64 0, .int .i64 0, .int .u64 0, .int .i64 0, .int .i64 0, .bool false, .bool false, .bool false, .slice none 0 0] 38)).alloc (.cells #[.int .i64 0, .int .i64 0, .int .u64 0, .int .i64 0, .int .i64 0, .bool false, .bool false, .bool false, .slice none 0 0] 38) = U0 at *
  have K0 := rint_any _ (unhide H0)
  rw [E1] at K0
  simp only at K0
  have KH0 := hide K0
  clear K0
  refine (unhide KH0).mono ?_
  rintro e w1 ⟨rfl, r1, t1⟩
  have xx0 := (unhide X0).keep t1 (by omega)
  have z1 := xx0.fz 0
  have y1 : w1.cell? ⟨w.heap.size + 1, 0, none⟩ = some _ := xx0.cell 0
  have H1 : Hid (RdAt 97 (w1.setCell ⟨w.heap.size + 1, 0, none⟩ (.int .i64 x1)) b a cap t s1) := r1.keep (touch_set w1 (w.heap.size + 1) 0 (.int .i64 x1)) (fun e => by omega) (fun h0 x hx e => by have := unhide hA x hx h0; omega)
  have T1 : Hid (Touch (fun k => k = b ∨ w.heap.size ≤ k) w (w1.setCell ⟨w.heap.size + 1, 0, none⟩ (.int .i64 x1))) := ((unhide T0).trans (t1.mono (fun k hk => .inl hk))).trans ((touch_set w1 (w.heap.size + 1) 0 (.int .i64 x1)).mono (fun k hk => .inr (by omega)))
  have R1 : Hid (Blk (w1.setCell ⟨w.heap.size + 1, 0, none⟩ (.int .i64 x1)) w.heap.size #[.int .i64 0, .int .i64 0, .int .u64 0, .int .i64 0, .int .i64 0, .bool false, .bool false, .bool false, .slice none 0 0]) := ((unhide R0).keep t1 (by omega)).keep (touch_set w1 (w.heap.size + 1) 0 (.int .i64 x1)) (by omega)
  have X1 : Hid (Blk (w1.setCell ⟨w.heap.size + 1, 0, none⟩ (.int .i64 x1)) (w.heap.size + 1) #[.int .i64 x1, .int .i64 0, .int .u64 0, .int .i64 0, .int .i64 0, .bool false, .bool false, .bool false, .slice none 0 0]) := xx0.set 0 (.int .i64 x1) rfl
  clear r1 t1 xx0 KH0 H0 T0 R0 X0
  go_wp2_with fail
  generalize w1.setCell ⟨w.heap.size + 1, 0, none⟩ (.int .i64 x1) = U1 at *
  clear z1 y1
  have K1 := rint_any _ (unhide H1)
  rw [E2] at K1
  simp only at K1
  have KH1 := hide K1
  clear K1
  refine (unhide KH1).mono ?_
  rintro e w2 ⟨rfl, r2, t2⟩
  have xx1 := (unhide X1).keep t2 (by omega)
  have z2 := xx1.fz 1
  have y2 : w2.cell? ⟨w.heap.size + 1, 1, none⟩ = some _ := xx1.cell 1
  have H2 : Hid (RdAt 97 (w2.setCell ⟨w.heap.size + 1, 1, none⟩ (.int .i64 x2)) b a cap t s2) := r2.keep (touch_set w2 (w.heap.size + 1) 1 (.int .i64 x2)) (fun e => by omega) (fun h0 x hx e => by have := unhide hA x hx h0; omega)
  have T2 : Hid (Touch (fun k => k = b ∨ w.heap.size ≤ k) w (w2.setCell ⟨w.heap.size + 1, 1, none⟩ (.int .i64 x2))) := ((unhide T1).trans (t2.mono (fun k hk => .inl hk))).trans ((touch_set w2 (w.heap.size + 1) 1 (.int .i64 x2)).mono (fun k hk => .inr (by omega)))
  have R2 : Hid (Blk (w2.setCell ⟨w.heap.size + 1, 1, none⟩ (.int .i64 x2)) w.heap.size #[.int .i64 0, .int .i64 0, .int .u64 0, .int .i64 0, .int .i64 0, .bool false, .bool false, .bool false, .slice none 0 0]) := ((unhide R1).keep t2 (by omega)).keep (touch_set w2 (w.heap.size + 1) 1 (.int .i64 x2)) (by omega)
  have X2 : Hid (Blk (w2.setCell ⟨w.heap.size + 1, 1, none⟩ (.int .i64 x2)) (w.heap.size + 1) #[.int .i64 x1, .int .i64 x2, .int .u64 0, .int .i64 0, .int .i64 0, .bool false, .bool false, .bool false, .slice none 0 0]) := xx1.set 1 (.int .i64 x2) rfl
  clear r2 t2 xx1 KH1 H1 T1 R1 X1
  go_wp2_with fail
  generalize w2.setCell ⟨w.heap.size + 1, 1, none⟩ (.int .i64 x2) = U2 at *
  clear z2 y2
  have K2 := ruint_any _ (unhide H2)
  rw [E3] at K2
  simp only at K2
  have KH2 := hide K2
  clear K2
  refine (unhide KH2).mono ?_
  rintro e w3 ⟨rfl, r3, t3⟩
  have xx2 := (unhide X2).keep t3 (by omega)
  have z3 := xx2.fz 2
  have y3 : w3.cell? ⟨w.heap.size + 1, 2, none⟩ = some _ := xx2.cell 2
  have H3 : Hid (RdAt 97 (w3.setCell ⟨w.heap.size + 1, 2, none⟩ (.int .u64 (x3 : Nat))) b a cap t s3) := r3.keep (touch_set w3 (w.heap.size + 1) 2 (.int .u64 (x3 : Nat))) (fun e => by omega) (fun h0 x hx e => by have := unhide hA x hx h0; omega)
  have T3 : Hid (Touch (fun k => k = b ∨ w.heap.size ≤ k) w (w3.setCell ⟨w.heap.size + 1, 2, none⟩ (.int .u64 (x3 : Nat)))) := ((unhide T2).trans (t3.mono (fun k hk => .inl hk))).trans ((touch_set w3 (w.heap.size + 1) 2 (.int .u64 (x3 : Nat))).mono (fun k hk => .inr (by omega)))
  have R3 : Hid (Blk (w3.setCell ⟨w.heap.size + 1, 2, none⟩ (.int .u64 (x3 : Nat))) w.heap.size #[.int .i64 0, .int .i64 0, .int .u64 0, .int .i64 0, .int .i64 0, .bool false, .bool false, .bool false, .slice none 0 0]) := ((unhide R2).keep t3 (by omega)).keep (touch_set w3 (w.heap.size + 1) 2 (.int .u64 (x3 : Nat))) (by omega)
  have X3 : Hid (Blk (w3.setCell ⟨w.heap.size + 1, 2, none⟩ (.int .u64 (x3 : Nat))) (w.heap.size + 1) #[.int .i64 x1, .int .i64 x2, .int .u64 (x3 : Nat), .int .i64 0, .int .i64 0, .bool false, .bool false, .bool false, .slice none 0 0]) := xx2.set 2 (.int .u64 (x3 : Nat)) rfl
  clear r3 t3 xx2 KH2 H2 T2 R2 X2
  go_wp2_with fail
  generalize w3.setCell ⟨w.heap.size + 1, 2, none⟩ (.int .u64 (x3 : Nat)) = U3 at *
  clear z3 y3
  have K3 := rint_any _ (unhide H3)
  rw [E4] at K3
  simp only at K3
  have KH3 := hide K3
  clear K3
  refine (unhide KH3).mono ?_
  rintro e w4 ⟨rfl, r4, t4⟩
  have xx3 := (unhide X3).keep t4 (by omega)
  have z4 := xx3.fz 3
  have y4 : w4.cell? ⟨w.heap.size + 1, 3, none⟩ = some _ := xx3.cell 3
  have H4 : Hid (RdAt 97 (w4.setCell ⟨w.heap.size + 1, 3, none⟩ (.int .i64 x4)) b a cap t s4) := r4.keep (touch_set w4 (w.heap.size + 1) 3 (.int .i64 x4)) (fun e => by omega) (fun h0 x hx e => by have := unhide hA x hx h0; omega)
  have T4 : Hid (Touch (fun k => k = b ∨ w.heap.size ≤ k) w (w4.setCell ⟨w.heap.size + 1, 3, none⟩ (.int .i64 x4))) := ((unhide T3).trans (t4.mono (fun k hk => .inl hk))).trans ((touch_set w4 (w.heap.size + 1) 3 (.int .i64 x4)).mono (fun k hk => .inr (by omega)))
  have R4 : Hid (Blk (w4.setCell ⟨w.heap.size + 1, 3, none⟩ (.int .i64 x4)) w.heap.size #[.int .i64 0, .int .i64 0, .int .u64 0, .int .i64 0, .int .i64 0, .bool false, .bool false, .bool false, .slice none 0 0]) := ((unhide R3).keep t4 (by omega)).keep (touch_set w4 (w.heap.size + 1) 3 (.int .i64 x4)) (by omega)
  have X4 : Hid (Blk (w4.setCell ⟨w.heap.size + 1, 3, none⟩ (.int .i64 x4)) (w.heap.size + 1) #[.int .i64 x1, .int .i64 x2, .int .u64 (x3 : Nat), .int .i64 x4, .int .i64 0, .bool false, .bool false, .bool false, .slice none 0 0]) := xx3.set 3 (.int .i64 x4) rfl
  clear r4 t4 xx3 KH3 H3 T3 R3 X3
  go_wp2_with fail
  generalize w4.setCell ⟨w.heap.size + 1, 3, none⟩ (.int .i64 x4) = U4 at *
  clear z4 y4
  have K4 := rint_any _ (unhide H4)
  rw [E5] at K4
  simp only at K4
  have KH4 := hide K4
  clear K4
  refine (unhide KH4).mono ?_
  rintro e w5 ⟨rfl, r5, t5⟩
  have xx4 := (unhide X4).keep t5 (by omega)
  have z5 := xx4.fz 4
  have y5 : w5.cell? ⟨w.heap.size + 1, 4, none⟩ = some _ := xx4.cell 4
  have H5 : Hid (RdAt 97 (w5.setCell ⟨w.heap.size + 1, 4, none⟩ (.int .i64 x5)) b a cap t s5) := r5.keep (touch_set w5 (w.heap.size + 1) 4 (.int .i64 x5)) (fun e => by omega) (fun h0 x hx e => by have := unhide hA x hx h0; omega)
  have T5 : Hid (Touch (fun k => k = b ∨ w.heap.size ≤ k) w (w5.setCell ⟨w.heap.size + 1, 4, none⟩ (.int .i64 x5))) := ((unhide T4).trans (t5.mono (fun k hk => .inl hk))).trans ((touch_set w5 (w.heap.size + 1) 4 (.int .i64 x5)).mono (fun k hk => .inr (by omega)))
  have R5 : Hid (Blk (w5.setCell ⟨w.heap.size + 1, 4, none⟩ (.int .i64 x5)) w.heap.size #[.int .i64 0, .int .i64 0, .int .u64 0, .int .i64 0, .int .i64 0, .bool false, .bool false, .bool false, .slice none 0 0]) := ((unhide R4).keep t5 (by omega)).keep (touch_set w5 (w.heap.size + 1) 4 (.int .i64 x5)) (by omega)
  have X5 : Hid (Blk (w5.setCell ⟨w.heap.size + 1, 4, none⟩ (.int .i64 x5)) (w.heap.size + 1) #[.int .i64 x1, .int .i64 x2, .int .u64 (x3 : Nat), .int .i64 x4, .int .i64 x5, .bool false, .bool false, .bool false, .slice none 0 0]) := xx4.set 4 (.int .i64 x5) rfl
  clear r5 t5 xx4 KH4 H4 T4 R4 X4
  go_wp2_with fail
  generalize w5.setCell ⟨w.heap.size + 1, 4, none⟩ (.int .i64 x5) = U5 at *
  clear z5 y5
  have K5 := rflag_any _ (unhide H5)
  rw [E6] at K5
  simp only at K5
  have KH5 := hide K5
  clear K5
  refine (unhide KH5).mono ?_
  rintro e w6 ⟨rfl, r6, t6⟩
  have xx5 := (unhide X5).keep t6 (by omega)
  have z6 := xx5.fz 5
  have y6 : w6.cell? ⟨w.heap.size + 1, 5, none⟩ = some _ := xx5.cell 5
  have H6 : Hid (RdAt 97 (w6.setCell ⟨w.heap.size + 1, 5, none⟩ (.bool x6)) b a cap t s6) := r6.keep (touch_set w6 (w.heap.size + 1) 5 (.bool x6)) (fun e => by omega) (fun h0 x hx e => by have := unhide hA x hx h0; omega)
  have T6 : Hid (Touch (fun k => k = b ∨ w.heap.size ≤ k) w (w6.setCell ⟨w.heap.size + 1, 5, none⟩ (.bool x6))) := ((unhide T5).trans (t6.mono (fun k hk => .inl hk))).trans ((touch_set w6 (w.heap.size + 1) 5 (.bool x6)).mono (fun k hk => .inr (by omega)))
  have R6 : Hid (Blk (w6.setCell ⟨w.heap.size + 1, 5, none⟩ (.bool x6)) w.heap.size #[.int .i64 0, .int .i64 0, .int .u64 0, .int .i64 0, .int .i64 0, .bool false, .bool false, .bool false, .slice none 0 0]) := ((unhide R5).keep t6 (by omega)).keep (touch_set w6 (w.heap.size + 1) 5 (.bool x6)) (by omega)
  have X6 : Hid (Blk (w6.setCell ⟨w.heap.size + 1, 5, none⟩ (.bool x6)) (w.heap.size + 1) #[.int .i64 x1, .int .i64 x2, .int .u64 (x3 : Nat), .int .i64 x4, .int .i64 x5, .bool x6, .bool false, .bool false, .slice none 0 0]) := xx5.set 5 (.bool x6) rfl
  clear r6 t6 xx5 KH5 H5 T5 R5 X5
  go_wp2_with fail
  generalize w6.setCell ⟨w.heap.size + 1, 5, none⟩ (.bool x6) = U6 at *
  clear z6 y6
  have K6 := rflag_any _ (unhide H6)
  rw [E7] at K6
  simp only at K6
  have KH6 := hide K6
  clear K6
  refine (unhide KH6).mono ?_
  rintro e w7 ⟨rfl, r7, t7⟩
  have xx6 := (unhide X6).keep t7 (by omega)
  have z7 := xx6.fz 6
  have y7 : w7.cell? ⟨w.heap.size + 1, 6, none⟩ = some _ := xx6.cell 6
  have H7 : Hid (RdAt 97 (w7.setCell ⟨w.heap.size + 1, 6, none⟩ (.bool x7)) b a cap t s7) := r7.keep (touch_set w7 (w.heap.size + 1) 6 (.bool x7)) (fun e => by omega) (fun h0 x hx e => by have := unhide hA x hx h0; omega)
  have T7 : Hid (Touch (fun k => k = b ∨ w.heap.size ≤ k) w (w7.setCell ⟨w.heap.size + 1, 6, none⟩ (.bool x7))) := ((unhide T6).trans (t7.mono (fun k hk => .inl hk))).trans ((touch_set w7 (w.heap.size + 1) 6 (.bool x7)).mono (fun k hk => .inr (by omega)))
  have R7 : Hid (Blk (w7.setCell ⟨w.heap.size + 1, 6, none⟩ (.bool x7)) w.heap.size #[.int .i64 0, .int .i64 0, .int .u64 0, .int .i64 0, .int .i64 0, .bool false, .bool false, .bool false, .slice none 0 0]) := ((unhide R6).keep t7 (by omega)).keep (touch_set w7 (w.heap.size + 1) 6 (.bool x7)) (by omega)
  have X7 : Hid (Blk (w7.setCell ⟨w.heap.size + 1, 6, none⟩ (.bool x7)) (w.heap.size + 1) #[.int .i64 x1, .int .i64 x2, .int .u64 (x3 : Nat), .int .i64 x4, .int .i64 x5, .bool x6, .bool x7, .bool false, .slice none 0 0]) := xx6.set 6 (.bool x7) rfl
  clear r7 t7 xx6 KH6 H6 T6 R6 X6
  go_wp2_with fail
  generalize w7.setCell ⟨w.heap.size + 1, 6, none⟩ (.bool x7) = U7 at *
  clear z7 y7
  have K7 := rflag_any _ (unhide H7)
  rw [E8] at K7
  simp only at K7
  have KH7 := hide K7
  clear K7
  refine (unhide KH7).mono ?_
  rintro e w8 ⟨rfl, r8, t8⟩
  have xx7 := (unhide X7).keep t8 (by omega)
  have z8 := xx7.fz 7
  have y8 : w8.cell? ⟨w.heap.size + 1, 7, none⟩ = some _ := xx7.cell 7
  have H8 : Hid (RdAt 97 (w8.setCell ⟨w.heap.size + 1, 7, none⟩ (.bool x8)) b a cap t s8) := r8.keep (touch_set w8 (w.heap.size + 1) 7 (.bool x8)) (fun e => by omega) (fun h0 x hx e => by have := unhide hA x hx h0; omega)
  have T8 : Hid (Touch (fun k => k = b ∨ w.heap.size ≤ k) w (w8.setCell ⟨w.heap.size + 1, 7, none⟩ (.bool x8))) := ((unhide T7).trans (t8.mono (fun k hk => .inl hk))).trans ((touch_set w8 (w.heap.size + 1) 7 (.bool x8)).mono (fun k hk => .inr (by omega)))
  have R8 : Hid (Blk (w8.setCell ⟨w.heap.size + 1, 7, none⟩ (.bool x8)) w.heap.size #[.int .i64 0, .int .i64 0, .int .u64 0, .int .i64 0, .int .i64 0, .bool false, .bool false, .bool false, .slice none 0 0]) := ((unhide R7).keep t8 (by omega)).keep (touch_set w8 (w.heap.size + 1) 7 (.bool x8)) (by omega)
  have X8 : Hid (Blk (w8.setCell ⟨w.heap.size + 1, 7, none⟩ (.bool x8)) (w.heap.size + 1) #[.int .i64 x1, .int .i64 x2, .int .u64 (x3 : Nat), .int .i64 x4, .int .i64 x5, .bool x6, .bool x7, .bool x8, .slice none 0 0]) := xx7.set 7 (.bool x8) rfl
  clear r8 t8 xx7 KH7 H7 T7 R7 X7
  have bx : Box (w8.setCell ⟨w.heap.size + 1, 7, none⟩ (.bool x8)) (w.heap.size + 1) ⟨x1, x2, x3, x4, x5, x6, x7, x8, []⟩ none 0 := unhide X8
  have bz : Box (w8.setCell ⟨w.heap.size + 1, 7, none⟩ (.bool x8)) w.heap.size zeroB none 0 := unhide R8
  obtain ⟨k0, k1, k2, k3, k4, k5, k6, k7, k8⟩ := bx.cells
  obtain ⟨q0, q1, q2, q3, q4, q5, q6, q7, q8⟩ := bz.cells
  have z : ∀ i, (w8.setCell ⟨w.heap.size + 1, 7, none⟩ (.bool x8)).frozen? ⟨w.heap.size, i, none⟩ = false := (unhide R8).fz
  simp only [List.length_nil] at k0 k1 k2 k3 k4 k5 k6 k7 k8
  simp only [zeroB, List.length_nil] at q0 q1 q2 q3 q4 q5 q6 q7 q8
  have T9 := hide (set9 (unhide R8) rfl (.int .i64 x1) (.int .i64 x2) (.int .u64 (x3 : Nat)) (.int .i64 x4) (.int .i64 x5) (.bool x6) (.bool x7) (.bool x8) (.slice none 0 0))
  clear bx bz
  go_wp2
  clear q0 q1 q2 q3 q4 q5 q6 q7 q8 z k0 k1 k2 k3 k4 k5 k6 k7 k8
  generalize ((((((((((w8.setCell ⟨w.heap.size + 1, 7, none⟩ (.bool x8)).setCell ⟨w.heap.size, 0, none⟩ (.int .i64 x1)).setCell ⟨w.heap.size, 1, none⟩ (.int .i64 x2)).setCell ⟨w.heap.size, 2, none⟩ (.int .u64 (x3 : Nat))).setCell ⟨w.heap.size, 3, none⟩ (.int .i64 x4)).setCell ⟨w.heap.size, 4, none⟩ (.int .i64 x5)).setCell ⟨w.heap.size, 5, none⟩ (.bool x6)).setCell ⟨w.heap.size, 6, none⟩ (.bool x7)).setCell ⟨w.heap.size, 7, none⟩ (.bool x8)).setCell ⟨w.heap.size, 8, none⟩ (.slice none 0 0)) = V at *
  have bu : Box V w.heap.size ⟨x1, x2, x3, x4, x5, x6, x7, x8, []⟩ none 0 := (unhide T9).1
  obtain ⟨k0, k1, k2, k3, k4, k5, k6, k7, k8⟩ := bu.cells
  simp only [List.length_nil] at k0 k1 k2 k3 k4 k5 k6 k7 k8
  refine bodyPost_ret (by simp [results, Try.results93, go_sem, k0, k1, k2, k3, k4, k5, k6, k7, k8]; try rfl) rfl ?_
  refine ⟨rfl, (unhide H8).keep (unhide T9).2 (fun e => by omega) (fun h0 x hx e => by have := unhide hA x hx h0; omega), touch_old ((unhide T8).trans ((unhide T9).2.mono (fun k hk => .inr (by omega))))⟩
end Go.Proofs.Ytblmondkdcpkaaa


namespace Go.Proofs.Ytblmondkdcpkaaa
open Go.RowKit
set_option linter.unusedVariables false

/-- What is read, in letters. -/
structure DecF (t : List Nat) (x1 x2 : Int) (x3 : Nat) (x4 x5 : Int) (x6 x7 x8 : Bool) (s8 : Rst) (n : Nat) (s9 : Rst) : Prop where
  hd : hdB t = ⟨x1, x2, x3, x4, x5, x6, x7, x8, []⟩
  st : (h8 t).2 = s8
  ct : rU t s8 = (n, s9)
  many : 16 < n → decE t = 2 ∧ decB t = zeroB
  ended : ¬ 16 < n → rE t (rVs t s9 n).2 ≠ 0 → decE t = rE t (rVs t s9 n).2 ∧ decB t = zeroB
  bad : ¬ 16 < n → rE t (rVs t s9 n).2 = 0 → chk ⟨x1, x2, x3, x4, x5, x6, x7, x8, (rVs t s9 n).1⟩ ≠ 0 → decE t = chk ⟨x1, x2, x3, x4, x5, x6, x7, x8, (rVs t s9 n).1⟩ ∧ decB t = zeroB
  ok : ¬ 16 < n → rE t (rVs t s9 n).2 = 0 → chk ⟨x1, x2, x3, x4, x5, x6, x7, x8, (rVs t s9 n).1⟩ = 0 → decE t = 0 ∧ decB t = ⟨x1, x2, x3, x4, x5, x6, x7, x8, (rVs t s9 n).1⟩
theorem decF (t : List Nat) : ∃ x1 x2 x3 x4 x5 x6 x7 x8 s8 n s9, DecF t x1 x2 x3 x4 x5 x6 x7 x8 s8 n s9 := by
  refine ⟨(h1 t).1, (h2 t).1, (h3 t).1, (h4 t).1, (h5 t).1, (h6 t).1, (h7 t).1, (h8 t).1, (h8 t).2, (h9 t).1, (h9 t).2, rfl, rfl, by rw [← h9_eq], ?_, ?_, ?_, ?_⟩
  · intro h
    have e := decE_many h
    exact ⟨e, decB_no (by rw [e]; omega)⟩
  · intro h k
    have e := decE_end h k
    exact ⟨e, decB_no (by rw [e]; exact k)⟩
  · intro h k c
    have e := decE_chk h k
    exact ⟨e, decB_no (by rw [e]; exact c)⟩
  · intro h k c
    have e := decE_chk h k
    have e2 : decE t = 0 := by rw [e]; exact c
    exact ⟨e2, decB_ok e2⟩
def DePost (w : World) (t : List Nat) (e : Ending) (w' : World) : Prop := ∃ a cap, e = .returned (.tuple #[bv (decB t) a cap, .int .i64 (decE t : Nat)]) ∧ Copied w w' (.slice a (decB t).vs.length cap) (decB t).vs
theorem DePost.no {w w' : World} {t : List Nat} {c : Nat} (hc : decE t = c) (hb : decB t = zeroB) (hw : Below w.heap.size w w') : DePost w t (.returned (.tuple #[.agg #[.int .i64 0, .int .i64 0, .int .u64 0, .int .i64 0, .int .i64 0, .bool false, .bool false, .bool false, .slice none 0 0], .int .i64 (c : Nat)])) w' := by
  refine ⟨none, 0, ?_, ?_⟩
  · rw [hc, hb]; rfl
  · rw [hb]; exact ⟨⟨[], Spine.nil _ _⟩, New.nil _, hw⟩

/-- What the loop has: the reader, the box, the values so far. -/
structure Dl (R : TypeId) (W wr : World) (g b : Nat) (a : Option Addr) (cap : Nat) (t : List Nat) (s : Rst) (ls : List (List Nat)) (hd : Array Value) (v : Value) (vs : List Value) : Prop where
  sp : Spine (Mine4 W wr) wr v vs ls
  nw : New W v
  rd : RdAt R wr b a cap t s
  bx : Blk wr g (hd.push v)
  tc : Touch (fun k => k = b ∨ k = g) W wr

theorem Blk.drewN {w : World} {g : Nat} {cs : Array Value} (h : Blk w g cs) (n : Nat) : Blk (w.drewN n) g cs := h
section
variable {R : TypeId} {W wr : World} {g b : Nat} {a : Option Addr} {cap : Nat} {t : List Nat} {s : Rst} {ls : List (List Nat)} {hd : Array Value} {v : Value} {vs : List Value}
theorem Dl.drewN (h : Dl R W wr g b a cap t s ls hd v vs) (n : Nat) : Dl R W (wr.drewN n) g b a cap t s ls hd v vs :=
  ⟨(h.sp.drewN n).imp (fun u l e => ⟨e.1.keep (touch_drewN (S := fun _ => False) wr n) (fun _ _ h => h), e.2⟩), h.nw, h.rd.drewN n, h.bx, h.tc.trans (touch_drewN wr n)⟩
theorem Dl.later {w' : World} (h : Dl R W wr g b a cap t s ls hd v vs) (hb : Below wr.heap.size wr w') : Dl R W w' g b a cap t s ls hd v vs :=
  ⟨(h.sp.later hb).imp (fun u l e => ⟨e.1.later hb, e.2⟩), h.nw, h.rd.later hb, h.bx.keep (Touch.of_below (S := fun _ => False) hb) (fun h => h), h.tc.trans (Touch.of_below hb)⟩
end
theorem check7 (b : Bt) (a : Option Addr) (cap : Nat) (w : World) (hp : RAt w a b.vs) (m : Nat) (hm : b.vs.length = m) :
    Calls Try.prog 92 #[.agg #[.int .i64 b.base, .int .i64 b.epoch, .int .u64 (b.pid : Int), .int .i64 b.pep, .int .i64 b.seq, .bool b.txn, .bool b.ctl, .bool b.com, .slice a m cap]] w fun e w' => IntPost w (chk b) e w' := by
  subst hm; exact check_any b a cap w hp

theorem own_shape {w : World} {e : TypeId} {v : Value} {xs : List Value} (h : Own w e v xs) : ∃ a n c, v = .slice a n c := by
  obtain ⟨a, cap, e, _⟩ := h.parts; exact ⟨a, _, cap, e⟩
/-- What a call of Bytes leaves. -/
structure AftB (R : TypeId) (W wr w' : World) (g b : Nat) (a : Option Addr) (cap : Nat) (t : List Nat) (s : Rst) (l : List Nat) (old v : Value) : Prop where
  row : Row w' v l
  nw : New W v
  rd : RdAt R w' b a cap t s
  tc : Touch (· = b) wr w'
  cell : w'.cell? ⟨g, 8, none⟩ = some old
theorem aft_touch {R : TypeId} {W wr w' w'' : World} {g b : Nat} {a : Option Addr} {cap : Nat} {t : List Nat} {s : Rst} {l : List Nat} {old v : Value} (h : AftB R W wr w' g b a cap t s l old v) (k : Touch (fun _ => False) w' w'') : Touch (· = b) wr w'' := h.tc.trans (k.mono (fun _ h => h.elim))

theorem push_set {hd : Array Value} (h : hd.size = 8) (v1 v3 : Value) : (hd.push v1).setIfInBounds 8 v3 = hd.push v3 := by
  match hd, h with
  | ⟨[c0, c1, c2, c3, c4, c5, c6, c7]⟩, _ => rfl
theorem dl_step {R : TypeId} {W wr w2 w3 : World} {g b : Nat} {a : Option Addr} {cap : Nat} {t : List Nat} {s s' : Rst} {ls : List (List Nat)} {l : List Nat} {hd : Array Value} {v1 v2 v3 : Value} {vs : List Value}
    (h : Dl R W wr g b a cap t s ls hd v1 vs) (hd8 : hd.size = 8) (f : AftB R W wr w2 g b a cap t s' l v1 v2) (o3 : Own w3 24 v3 (vs ++ [v2])) (t3 : Touch (fun k => v1.ownBlock = some k) (w2.alloc (.cells #[v2] 24)) w3) (m3 : Moved (w2.alloc (.cells #[v2] 24)) v1 v3)
    (hbW : b < W.heap.size) (hgW : g < W.heap.size) (hbg : b < g) (ha : ∀ x, a = some x → 0 < t.length → x.block < g) :
    Dl R W (w3.setCell ⟨g, 8, none⟩ v3) g b a cap t s' (ls ++ [l]) hd v3 (vs ++ [v2]) := by
  have hA : Touch (fun _ => False) w2 (w2.alloc (.cells #[v2] 24)) := (Touch.refl _ _).alloc _
  have tS := touch_set w3 g 8 v3
  have z1 := h.tc.size
  have z2 := f.tc.size
  have z3 := hA.size
  have O2 : Own (w2.alloc (.cells #[v2] 24)) 24 v1 vs := (h.sp.own.keep f.tc (fun k hk e => by have := h.nw k hk; omega)).keep hA (fun _ _ h => h)
  have hn3 : New W v3 := h.nw.moved m3 (by omega)
  have hrA : ∀ (x : Value) (l : List Nat), Row w2 x l → New W x → Row (w3.setCell ⟨g, 8, none⟩ v3) x l := fun x l hx hn => ((hx.keep hA (fun _ _ h => h)).keep t3 (fun k hk e => Spine.apart O2 (hx.keep hA (fun _ _ h => h)) k hk e)).keep tS (fun k hk e => by have := hn k hk; omega)
  have hold : ∀ (x : Value) (l : List Nat), Mine4 W wr x l → Mine4 W (w3.setCell ⟨g, 8, none⟩ v3) x l := fun x l hx => ⟨hrA x l (hx.1.keep f.tc (fun k hk e => by have := hx.2 k hk; omega)) hx.2, hx.2⟩
  refine ⟨(h.sp.imp hold).push (o3.keep tS (fun k hk e => by have := hn3 k hk; omega)) ⟨hrA v2 l f.row f.nw, f.nw⟩, hn3, ?_, ?_, ?_⟩
  · refine ((f.rd.keep hA (fun h => h) (fun _ _ _ h => h)).keep t3 (fun e => by have := h.nw b e; omega) (fun h0 x hx e => ?_)).keep tS (fun e => by omega) (fun h0 x hx e => by have := ha x hx h0; omega)
    have := h.nw _ e
    have := ha x hx h0
    omega
  · have b1 := ((h.bx.keep f.tc (fun e => by omega)).keep hA (fun h => h)).keep t3 (fun e => by have := h.nw g e; omega)
    exact b1.set 8 v3 (push_set hd8 v1 v3)
  · refine touch_old ?_
    exact (((h.tc.mono (fun k hk => Or.inl hk)).trans (f.tc.mono (fun k hk => Or.inl (Or.inl hk)))).trans (hA.mono (fun _ h => h.elim))).trans ((t3.mono (fun k hk => Or.inr (h.nw k hk))).trans (tS.mono (fun k hk => Or.inl (Or.inr hk))))

/-- append(list, one slice) as one step of a region that draws. -/
theorem step_elem {ops : Array Oper} {o : Oper} {a : Act} {w : World} {K : Act → World → Prop} {Q : Exit → Act → World → Prop} {E : Prop}
    (hg : o.guard = none) (s x : Operand) (hop : o.op = Op.call { callee := Callee.builtin Builtin.append, args := #[s, x], argTypes := #[36, 36] })
    (v : Value) (vs : List Value) (hs : a.eval s = v) (hr : Own w 24 v vs) (g : Nat) (u : Value) (hx : a.eval x = .slice (some ⟨g, 0, none⟩) 1 1) (hu : w.cell? ⟨g, 0, none⟩ = some u) (h1 : u.oneCell' = true) (hlen : (vs.length + 1) * 24 ≤ 140737488355328)
    (hK : ∀ v' w', Own w' 24 v' (vs ++ [u]) → Touch (fun k => v.ownBlock = some k) w w' → Moved w v v' → K (a.put o.dst v') w') :
    if Region.wanted o (yielded ops a.tmps) = true then Oper.wp Try.prog o a w K Q else E := by
  have hw : Region.wanted o (yielded ops a.tmps) = true := by simp [Region.wanted, hg]
  rw [if_pos hw]
  obtain ⟨i, hi, hz, hsz, hby⟩ := sl_info
  obtain ⟨v', w', hrun, r1, r2, r3⟩ := run_app (P := Try.prog) w 36 o.type 24 i (.slice none 0 0) 24 Try.underlying36 hi hz hsz hby rfl v vs hr (some ⟨g, 0, none⟩) 1 1 [u] rfl (by
    intro j y hj
    match j, hj with
    | 0, hj => cases hj; exact ⟨g, 0, rfl, hu⟩) (by intro y hy; rw [List.mem_singleton] at hy; subst hy; exact h1) (fun h => by cases h) (by unfold maxLen; omega) hlen
  unfold Oper.wp
  simp [execOp, hop, resolve, invoke, builtin, hs, hx, hrun, Result.andThen]
  exact hK v' w' r1 r2 r3

set_option maxRecDepth 100000 in
set_option maxHeartbeats 8000000 in
theorem decode_any {a : Option Addr} {cap : Nat} {t : List Nat} (w : World) (h : LAt w a t) (hn : a = none → cap = 0) (hl : t.length ≤ 140737488355328) :
    Calls Try.prog 89 #[.slice a t.length cap] w fun e w' => DePost w t e w' := by
  obtain ⟨x1, x2, x3, x4, x5, x6, x7, x8, s8, n, s9, df⟩ := decF t
  have DF := hide df
  have hB0 : Below w.heap.size w (w.alloc (.cells #[.int .i64 0, .int .i64 0, .int .u64 0, .int .i64 0, .int .i64 0, .bool false, .bool false, .bool false, .slice none 0 0] 38)) := (Below.refl _ _).alloc (Nat.le_refl _) _
  have KN := hide (newreader_any (w.alloc (.cells #[.int .i64 0, .int .i64 0, .int .u64 0, .int .i64 0, .int .i64 0, .bool false, .bool false, .bool false, .slice none 0 0] 38)) a cap t (h.later hB0) hn hl)
  have B0 := hide hB0
  have R0 : Hid (Blk (w.alloc (.cells #[.int .i64 0, .int .i64 0, .int .u64 0, .int .i64 0, .int .i64 0, .bool false, .bool false, .bool false, .slice none 0 0] 38)) w.heap.size #[.int .i64 0, .int .i64 0, .int .u64 0, .int .i64 0, .int .i64 0, .bool false, .bool false, .bool false, .slice none 0 0]) := heap_new w _
  clear h hB0 df
  go_enter Try.func89, Try.ntmps89
  go_wp2_with fail
  refine (unhide KN).mono ?_
  rintro e w1 ⟨b, a', cap', rfl, r1, bl1, hb1, ha1⟩
  have hs0 : (w.alloc (.cells #[.int .i64 0, .int .i64 0, .int .u64 0, .int .i64 0, .int .i64 0, .bool false, .bool false, .bool false, .slice none 0 0] 38)).heap.size = w.heap.size + 1 := by simp
  have B1 := hide ((unhide B0).trans (bl1.mono (unhide B0).size))
  have R1 := hide ((unhide R0).keep (Touch.of_below (S := fun _ => False) bl1) (fun h => h))
  have hbw : w.heap.size < b := by omega
  have hblt := r1.lt
  have HA : Hid (∀ x, a' = some x → w.heap.size < x.block) := fun x hx => by have := ha1 x hx; omega
  have HL : Hid (∀ x, a' = some x → 0 < t.length → x.block < w1.heap.size) := fun x hx h0 => lat_lt r1.text h0 hx
  have KH := head_any w1 r1
  rw [(unhide DF).hd, (unhide DF).st] at KH
  have KHH := hide KH
  clear r1 bl1 hb1 ha1 B0 R0 KN KH hs0
  go_wp2_with fail
  refine (unhide KHH).mono ?_
  rintro e w2 ⟨rfl, r2, t2⟩
  have B2 := hide (below_touch (unhide B1) t2 (unhide B1).size (fun k hk => by omega))
  have R2 := hide ((unhide R1).keep t2 (by omega))
  have hs2 : w1.heap.size ≤ w2.heap.size := t2.size
  have RD2 := hide r2
  clear r2 t2 B1 R1 KHH
  have XB3 : Hid (Blk (w2.alloc (.cells #[.int .i64 x1, .int .i64 x2, .int .u64 (x3 : Nat), .int .i64 x4, .int .i64 x5, .bool x6, .bool x7, .bool x8, .slice none 0 0] 38)) w2.heap.size #[.int .i64 x1, .int .i64 x2, .int .u64 (x3 : Nat), .int .i64 x4, .int .i64 x5, .bool x6, .bool x7, .bool x8, .slice none 0 0]) := heap_new w2 _
  have hB3 : Below w2.heap.size w2 (w2.alloc (.cells #[.int .i64 x1, .int .i64 x2, .int .u64 (x3 : Nat), .int .i64 x4, .int .i64 x5, .bool x6, .bool x7, .bool x8, .slice none 0 0] 38)) := (Below.refl _ _).alloc (Nat.le_refl _) _
  have B3 := hide ((unhide B2).trans (hB3.mono (unhide B2).size))
  have R3 := hide ((unhide R2).keep (Touch.of_below (S := fun _ => False) hB3) (fun h => h))
  have KU := ruint_any _ ((unhide RD2).later hB3)
  rw [(unhide DF).ct] at KU
  have KUU := hide KU
  clear hB3 KU RD2
  go_wp2_with fail
  refine (unhide KUU).mono ?_
  rintro e w4 ⟨rfl, r4, t4⟩
  have B4 := hide (below_touch (unhide B3) t4 (unhide B3).size (fun k hk => by omega))
  have R4 := hide ((unhide R3).keep t4 (by omega))
  have XB4 := hide ((unhide XB3).keep t4 (by omega))
  have hs4 : w2.heap.size < w4.heap.size := by have := t4.size; simp at this; omega
  have RD4 := hide r4
  clear r4 t4 B3 R3 XB3 KUU B2 R2
  by_cases h16 : 16 < n
  · have h16' : (16 : Int) < (n : Int) := by omega
    have NO := hide ((unhide DF).many h16)
    have RZ := hide (unhide R4)
    have BZ := hide (unhide B4)
    have bz : Box w4 w.heap.size zeroB none 0 := unhide RZ
    obtain ⟨q0, q1, q2, q3, q4, q5, q6, q7, q8⟩ := bz.cells
    have z : ∀ i, w4.frozen? ⟨w.heap.size, i, none⟩ = false := (unhide RZ).fz
    simp only [zeroB, List.length_nil] at q0 q1 q2 q3 q4 q5 q6 q7 q8
    have T9 := hide (set9 (unhide RZ) rfl (.int .i64 0) (.int .i64 0) (.int .u64 0) (.int .i64 0) (.int .i64 0) (.bool false) (.bool false) (.bool false) (.slice none 0 0))
    clear bz
    go_wp2
    clear q0 q1 q2 q3 q4 q5 q6 q7 q8 z
    generalize (((((((((w4.setCell ⟨w.heap.size, 0, none⟩ (.int .i64 0)).setCell ⟨w.heap.size, 1, none⟩ (.int .i64 0)).setCell ⟨w.heap.size, 2, none⟩ (.int .u64 0)).setCell ⟨w.heap.size, 3, none⟩ (.int .i64 0)).setCell ⟨w.heap.size, 4, none⟩ (.int .i64 0)).setCell ⟨w.heap.size, 5, none⟩ (.bool false)).setCell ⟨w.heap.size, 6, none⟩ (.bool false)).setCell ⟨w.heap.size, 7, none⟩ (.bool false)).setCell ⟨w.heap.size, 8, none⟩ (.slice none 0 0)) = V at *
    have bu : Box V w.heap.size zeroB none 0 := (unhide T9).1
    obtain ⟨k0, k1, k2, k3, k4, k5, k6, k7, k8⟩ := bu.cells
    simp only [zeroB, List.length_nil] at k0 k1 k2 k3 k4 k5 k6 k7 k8
    refine bodyPost_ret (by simp [results, Try.results89, go_sem, k0, k1, k2, k3, k4, k5, k6, k7, k8]; try rfl) rfl ?_
    exact DePost.no (unhide NO).1 (unhide NO).2 (below_touch (unhide BZ) (unhide T9).2 (unhide BZ).size (fun k hk => by omega))
  · have h16' : ¬ (16 : Int) < (n : Int) := by omega
    generalize hg : w2.heap.size = g at *
    have hgb : b < g := by omega
    clear hg
    go_wp2_with fail
    have DL0 : Hid (Dl 97 w4 w4 g b a' cap' t s9 [] #[.int .i64 x1, .int .i64 x2, .int .u64 (x3 : Nat), .int .i64 x4, .int .i64 x5, .bool x6, .bool x7, .bool x8] (.slice none 0 0) []) := ⟨Spine.nil _ _, New.nil _, unhide RD4, unhide XB4, Touch.refl _ _⟩
    have HLB : Hid (∀ x, a' = some x → 0 < t.length → x.block < g) := fun x hx h0 => by have := unhide HL x hx h0; omega
    generalize hW : w4 = W at *
    have HW := hide hW
    clear hW RD4 XB4
    go_loopw [20] (fun i wr => ∃ (k : Nat) (v1 : Value) (vs : List Value), k ≤ n ∧ i = .int .i64 k ∧ Dl 97 W wr g b a' cap' t (rVs t s9 k).2 (rVs t s9 k).1 #[.int .i64 x1, .int .i64 x2, .int .u64 (x3 : Nat), .int .i64 x4, .int .i64 x5, .bool x6, .bool x7, .bool x8] v1 vs) (fun i _ => n - (intOf i).toNat)
    case atStart => exact ⟨0, _, _, Nat.zero_le _, rfl, unhide DL0⟩
    case round =>
      obtain ⟨k, v1, vs, hk, rfl, dl⟩ := hrel
      have DL := hide dl
      clear dl DL0
      by_cases hkn : k < n
      · have hkn' : (k : Int) < (n : Int) := by omega
        obtain ⟨a1, m1, c1, rfl⟩ := (unhide DL).sp.shape
        have hvl : (vs.length + 1) * 24 ≤ 140737488355328 := by have := (unhide DL).sp.len; rw [rVs_len] at this; omega
        have y8 : wr.cell? ⟨g, 8, none⟩ = some (.slice a1 m1 c1) := (unhide DL).bx.cell 8
        have hgw : g < wr.heap.size := (unhide DL).bx.lt
        have ES : Hid (rVs t s9 (k + 1) = ((rVs t s9 k).1 ++ [(rB t (rVs t s9 k).2).1], (rB t (rVs t s9 k).2).2)) := rfl
        have KB : Hid (∀ w', Touch (fun _ => False) wr w' → Calls Try.prog 74 #[.pointer (some ⟨b, 0, none⟩)] w' fun e w'' => ∃ v, e = .returned v ∧ AftB 97 W wr w'' g b a' cap' t (rB t (rVs t s9 k).2).2 (rB t (rVs t s9 k).2).1 (.slice a1 m1 c1) v) := fun w' tw =>
          (rbytes_any w' ((unhide DL).rd.keep tw (fun h => h) (fun _ _ _ h => h))).mono fun e w'' h => by
            obtain ⟨v, e1, r, nw, rd, tc⟩ := h
            have tt : Touch (· = b) wr w'' := (tw.mono (fun _ h => h.elim)).trans tc
            refine ⟨v, e1, r, nw.mono (Nat.le_trans (unhide DL).tc.size tw.size), rd, tt, ?_⟩
            exact (World.cell?_of_block (a := ⟨g, 8, none⟩) (tt.block g hgw (by omega))).trans y8
        have DLL := hide (unhide DL)
        have hWr := (unhide DL).tc.size
        clear DL
        generalize rB t (rVs t s9 k).2 = RB at *
        obtain ⟨p, sn⟩ := RB
        generalize rVs t s9 k = P at *
        obtain ⟨ls, so⟩ := P
        simp only at ES KB DLL
        go_wp2_with fail
        go_region_law (first
          | (go_simp; go_at_call 74; refine (unhide KB _ ((Touch.refl _ _).drew)).mono ?_; rintro e w2 ⟨v2, rfl, af2⟩; obtain ⟨a2, m2, c2, rfl⟩ := af2.row.shape; have y2 := af2.cell; have g2 : g < w2.heap.size := Nat.lt_of_lt_of_le hgw af2.tc.size; have y2' : (w2.alloc (.cells #[.slice a2 m2 c2] 24)).cell? ⟨g, 8, none⟩ = some (.slice a1 m1 c1) := (((Below.refl w2.heap.size w2).alloc (Nat.le_refl _) _).cell (p := ⟨g, 8, none⟩) g2).trans y2; have AF2 := hide af2; clear af2)
          | (refine step_elem rfl (.tmp 23) (.tmp 26) rfl (.slice a1 m1 c1) vs (by rfl) (Own.keep (unhide DLL).sp.own (aft_touch (unhide AF2) (by first | exact (Touch.refl _ _).alloc _ | exact ((Touch.refl _ _).alloc _).drew | exact (Touch.refl _ _).drew.alloc _ | exact ((Touch.refl _ _).drew.alloc _).drew)) (fun j hj e => by have := (unhide DLL).nw j hj; omega)) w2.heap.size (.slice a2 m2 c2) (by rfl) (by first | exact cell_of (heap_new _ _) 0 | (simp; done)) rfl hvl ?_; intro v3 w3 o3 t3 m3; have bx3 := Blk.keep (Blk.keep (unhide DLL).bx (aft_touch (unhide AF2) (by first | exact (Touch.refl _ _).alloc _ | exact ((Touch.refl _ _).alloc _).drew | exact (Touch.refl _ _).drew.alloc _ | exact ((Touch.refl _ _).drew.alloc _).drew)) (by omega)) t3 (fun e => by have := (unhide DLL).nw g e; omega); have y3 : w3.cell? ⟨g, 8, none⟩ = some (.slice a1 m1 c1) := bx3.cell 8; have z3 := bx3.fz 8; have BX3 := hide bx3; clear bx3; obtain ⟨a3, n3, c3, rfl⟩ := own_shape o3))
        all_goals
          have NX : Hid (Dl 97 W (w3.setCell ⟨g, 8, none⟩ (.slice a3 n3 c3)) g b a' cap' t (rVs t s9 (k + 1)).2 (rVs t s9 (k + 1)).1 #[.int .i64 x1, .int .i64 x2, .int .u64 (x3 : Nat), .int .i64 x4, .int .i64 x5, .bool x6, .bool x7, .bool x8] (.slice a3 n3 c3) (vs ++ [.slice a2 m2 c2])) := by
            rw [unhide ES]
            exact dl_step (unhide DLL) rfl (unhide AF2) o3 t3 m3 (by omega) (by omega) (by omega) (unhide HLB)
          clear o3 t3 m3 y3 z3 BX3 y2 y2' AF2 KB ES DLL y8
          go_wp2
          go_roundw
          case rel => exact ⟨k + 1, _, _, by omega, by go_num, unhide NX⟩
          case measure => simp [intOf]; omega
      · obtain rfl : k = n := by omega
        have hkn' : ¬ (k : Int) < (k : Int) := by omega
        have RZ : Hid (Blk wr w.heap.size #[.int .i64 0, .int .i64 0, .int .u64 0, .int .i64 0, .int .i64 0, .bool false, .bool false, .bool false, .slice none 0 0]) := (unhide R4).keep (unhide DL).tc (by omega)
        have BZ := hide (below_touch (unhide B4) (unhide DL).tc (unhide B4).size (fun k hk => by omega))
        go_wp2_with fail
        refine (end_any _ (unhide DL).rd).mono ?_
        rintro e w5 ⟨rfl, d5, hd5⟩
        have DL5 : Hid (Dl 97 W w5 g b a' cap' t (rVs t s9 k).2 (rVs t s9 k).1 #[.int .i64 x1, .int .i64 x2, .int .u64 (x3 : Nat), .int .i64 x4, .int .i64 x5, .bool x6, .bool x7, .bool x8] v1 vs) := by rw [hd5]; exact (unhide DL).drewN d5
        have RZ5 : Hid (Blk w5 w.heap.size #[.int .i64 0, .int .i64 0, .int .u64 0, .int .i64 0, .int .i64 0, .bool false, .bool false, .bool false, .slice none 0 0]) := by rw [hd5]; exact unhide RZ
        have BZ5 : Hid (Below w.heap.size w w5) := by rw [hd5]; exact below_drewN3 (unhide BZ) d5
        clear hd5 DL RZ BZ
        by_cases he : rE t (rVs t s9 k).2 = 0
        · rw [he]
          obtain ⟨a1, c1, rfl, ra1, _, _, _, _⟩ := (unhide DL5).sp.parts (fun u l h => h.1.elem)
          have bx5 : Box w5 g ⟨x1, x2, x3, x4, x5, x6, x7, x8, (rVs t s9 k).1⟩ a1 c1 := by have := (unhide DL5).bx; rw [rVs_len] at this; show w5.heap[g]? = _; rw [rVs_len]; exact this
          have RA := hide ra1
          have BX5 := hide bx5
          have KC := check7 ⟨x1, x2, x3, x4, x5, x6, x7, x8, (rVs t s9 k).1⟩ a1 c1 w5 ra1 k (rVs_len _ _ _)
          obtain ⟨k0, k1, k2, k3, k4, k5, k6, k7, k8⟩ := bx5.cells
          simp only [rVs_len] at k0 k1 k2 k3 k4 k5 k6 k7 k8 KC ⊢
          have KCC := hide KC
          clear ra1 bx5 KC
          go_wp2_with fail
          refine (unhide KCC).mono ?_
          rintro e w6 ⟨rfl, b6⟩
          have DL6 : Hid (Dl 97 W w6 g b a' cap' t (rVs t s9 k).2 (rVs t s9 k).1 #[.int .i64 x1, .int .i64 x2, .int .u64 (x3 : Nat), .int .i64 x4, .int .i64 x5, .bool x6, .bool x7, .bool x8] (.slice a1 k c1) vs) := by have := unhide DL5; rw [rVs_len] at this; exact this.later b6
          have RZ := hide ((unhide RZ5).keep (Touch.of_below (S := fun _ => False) b6) (fun h => h))
          have BZ := hide ((unhide BZ5).trans (b6.mono (unhide BZ5).size))
          have BX6 := hide ((unhide BX5).later b6)
          clear b6 RZ5 BZ5 BX5 DL5 RA KCC k0 k1 k2 k3 k4 k5 k6 k7 k8
          by_cases hc : chk ⟨x1, x2, x3, x4, x5, x6, x7, x8, (rVs t s9 k).1⟩ = 0
          · have OK := hide ((unhide DF).ok h16 he hc)
            rw [hc]
            obtain ⟨k0, k1, k2, k3, k4, k5, k6, k7, k8⟩ := (unhide BX6).cells
            simp only [rVs_len] at k0 k1 k2 k3 k4 k5 k6 k7 k8
            have bz : Box w6 w.heap.size zeroB none 0 := unhide RZ
            obtain ⟨q0, q1, q2, q3, q4, q5, q6, q7, q8⟩ := bz.cells
            have z : ∀ i, w6.frozen? ⟨w.heap.size, i, none⟩ = false := (unhide RZ).fz
            simp only [zeroB, List.length_nil] at q0 q1 q2 q3 q4 q5 q6 q7 q8
            have T9 := hide (set9 (unhide RZ) rfl (.int .i64 x1) (.int .i64 x2) (.int .u64 (x3 : Nat)) (.int .i64 x4) (.int .i64 x5) (.bool x6) (.bool x7) (.bool x8) (.slice a1 k c1))
            clear bz
            go_wp2
            clear q0 q1 q2 q3 q4 q5 q6 q7 q8 z k0 k1 k2 k3 k4 k5 k6 k7 k8
            generalize (((((((((w6.setCell ⟨w.heap.size, 0, none⟩ (.int .i64 x1)).setCell ⟨w.heap.size, 1, none⟩ (.int .i64 x2)).setCell ⟨w.heap.size, 2, none⟩ (.int .u64 (x3 : Nat))).setCell ⟨w.heap.size, 3, none⟩ (.int .i64 x4)).setCell ⟨w.heap.size, 4, none⟩ (.int .i64 x5)).setCell ⟨w.heap.size, 5, none⟩ (.bool x6)).setCell ⟨w.heap.size, 6, none⟩ (.bool x7)).setCell ⟨w.heap.size, 7, none⟩ (.bool x8)).setCell ⟨w.heap.size, 8, none⟩ (.slice a1 k c1)) = V at *
            have bu : Box V w.heap.size ⟨x1, x2, x3, x4, x5, x6, x7, x8, (rVs t s9 k).1⟩ a1 c1 := by show V.heap[w.heap.size]? = _; rw [rVs_len]; exact (unhide T9).1
            obtain ⟨k0, k1, k2, k3, k4, k5, k6, k7, k8⟩ := bu.cells
            simp only [rVs_len] at k0 k1 k2 k3 k4 k5 k6 k7 k8
            refine bodyPost_ret (by simp [results, Try.results89, go_sem, k0, k1, k2, k3, k4, k5, k6, k7, k8]; try rfl) rfl ?_
            refine ⟨a1, c1, ?_, ?_⟩
            · rw [(unhide OK).1, (unhide OK).2]; simp only [bv, rVs_len]; rfl
            · rw [(unhide OK).2]
              simp only [rVs_len]
              have hno : ∀ u : Value, New W u → ∀ k, u.ownBlock = some k → ¬ k = w.heap.size := fun u hu k hk e => by have := hu k hk; omega
              refine ⟨⟨vs, ((unhide DL6).sp.keep (unhide T9).2 (hno _ (unhide DL6).nw)).imp (fun u l h => ⟨h.1.keep (unhide T9).2 (hno u h.2), h.2.mono (by omega)⟩)⟩, (unhide DL6).nw.mono (by omega), ?_⟩
              exact below_touch (unhide BZ) (unhide T9).2 (unhide BZ).size (fun k hk => by omega)
          · have NO := hide ((unhide DF).bad h16 he hc)
            generalize chk ⟨x1, x2, x3, x4, x5, x6, x7, x8, (rVs t s9 k).1⟩ = cc at *
            have hc' : ¬ (cc : Int) = 0 := by omega
            have bz : Box w6 w.heap.size zeroB none 0 := unhide RZ
            obtain ⟨q0, q1, q2, q3, q4, q5, q6, q7, q8⟩ := bz.cells
            have z : ∀ i, w6.frozen? ⟨w.heap.size, i, none⟩ = false := (unhide RZ).fz
            simp only [zeroB, List.length_nil] at q0 q1 q2 q3 q4 q5 q6 q7 q8
            have T9 := hide (set9 (unhide RZ) rfl (.int .i64 0) (.int .i64 0) (.int .u64 0) (.int .i64 0) (.int .i64 0) (.bool false) (.bool false) (.bool false) (.slice none 0 0))
            clear bz
            go_wp2
            clear q0 q1 q2 q3 q4 q5 q6 q7 q8 z
            generalize (((((((((w6.setCell ⟨w.heap.size, 0, none⟩ (.int .i64 0)).setCell ⟨w.heap.size, 1, none⟩ (.int .i64 0)).setCell ⟨w.heap.size, 2, none⟩ (.int .u64 0)).setCell ⟨w.heap.size, 3, none⟩ (.int .i64 0)).setCell ⟨w.heap.size, 4, none⟩ (.int .i64 0)).setCell ⟨w.heap.size, 5, none⟩ (.bool false)).setCell ⟨w.heap.size, 6, none⟩ (.bool false)).setCell ⟨w.heap.size, 7, none⟩ (.bool false)).setCell ⟨w.heap.size, 8, none⟩ (.slice none 0 0)) = V at *
            have bu : Box V w.heap.size zeroB none 0 := (unhide T9).1
            obtain ⟨k0, k1, k2, k3, k4, k5, k6, k7, k8⟩ := bu.cells
            simp only [zeroB, List.length_nil] at k0 k1 k2 k3 k4 k5 k6 k7 k8
            refine bodyPost_ret (by simp [results, Try.results89, go_sem, k0, k1, k2, k3, k4, k5, k6, k7, k8]; try rfl) rfl ?_
            exact DePost.no (unhide NO).1 (unhide NO).2 (below_touch (unhide BZ) (unhide T9).2 (unhide BZ).size (fun k hk => by omega))
        · have NO := hide ((unhide DF).ended h16 he)
          generalize rE t (rVs t s9 k).2 = cc at *
          have he' : ¬ (cc : Int) = 0 := by omega
          have RZ := hide (unhide RZ5)
          have BZ := hide (unhide BZ5)
          have bz : Box w5 w.heap.size zeroB none 0 := unhide RZ
          obtain ⟨q0, q1, q2, q3, q4, q5, q6, q7, q8⟩ := bz.cells
          have z : ∀ i, w5.frozen? ⟨w.heap.size, i, none⟩ = false := (unhide RZ).fz
          simp only [zeroB, List.length_nil] at q0 q1 q2 q3 q4 q5 q6 q7 q8
          have T9 := hide (set9 (unhide RZ) rfl (.int .i64 0) (.int .i64 0) (.int .u64 0) (.int .i64 0) (.int .i64 0) (.bool false) (.bool false) (.bool false) (.slice none 0 0))
          clear bz
          go_wp2
          clear q0 q1 q2 q3 q4 q5 q6 q7 q8 z
          generalize (((((((((w5.setCell ⟨w.heap.size, 0, none⟩ (.int .i64 0)).setCell ⟨w.heap.size, 1, none⟩ (.int .i64 0)).setCell ⟨w.heap.size, 2, none⟩ (.int .u64 0)).setCell ⟨w.heap.size, 3, none⟩ (.int .i64 0)).setCell ⟨w.heap.size, 4, none⟩ (.int .i64 0)).setCell ⟨w.heap.size, 5, none⟩ (.bool false)).setCell ⟨w.heap.size, 6, none⟩ (.bool false)).setCell ⟨w.heap.size, 7, none⟩ (.bool false)).setCell ⟨w.heap.size, 8, none⟩ (.slice none 0 0)) = V at *
          have bu : Box V w.heap.size zeroB none 0 := (unhide T9).1
          obtain ⟨k0, k1, k2, k3, k4, k5, k6, k7, k8⟩ := bu.cells
          simp only [zeroB, List.length_nil] at k0 k1 k2 k3 k4 k5 k6 k7 k8
          refine bodyPost_ret (by simp [results, Try.results89, go_sem, k0, k1, k2, k3, k4, k5, k6, k7, k8]; try rfl) rfl ?_
          exact DePost.no (unhide NO).1 (unhide NO).2 (below_touch (unhide BZ) (unhide T9).2 (unhide BZ).size (fun k hk => by omega))
end Go.Proofs.Ytblmondkdcpkaaa
