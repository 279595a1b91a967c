/-
  penstockref07's DocDecode: the batch, or the first error. Conditions: the bytes are at most 2^47.
-/
import Derived.Test.YtfccddcoindnlaaDd7
import Derived.Test.YtfccddcoindnlaaDc7
import Derived.Test.YtfccddcoindnlaaRf3
namespace Go.Proofs.Ytfccddcoindnlaa
open Go.RowKit
set_option linter.unusedVariables false

theorem decG (t : List Nat) : ∃ (x1 : Int) (s1 : Rst) (x2 : Int) (s2 : Rst) (x3 : Nat) (s3 : Rst) (x4 : Int) (s4 : Rst) (x5 : Int) (s5 : Rst) (x6 : Bool) (s6 : Rst) (x7 : Bool) (s7 : Rst) (x8 : Bool) (s8 : Rst) (n : Nat) (s9 : Rst), rI t ⟨0, 0⟩ = (x1, s1) ∧ rI t s1 = (x2, s2) ∧ rU t s2 = (x3, s3) ∧ rI t s3 = (x4, s4) ∧ rI t s4 = (x5, s5) ∧ rF t s5 = (x6, s6) ∧ rF t s6 = (x7, s7) ∧ rF t s7 = (x8, s8) ∧ DecF t x1 x2 x3 x4 x5 x6 x7 x8 s8 n s9 := by
  obtain ⟨x1, s1, x2, s2, x3, s3, x4, s4, x5, s5, x6, s6, x7, s7, x8, s8, E1, E2, E3, E4, E5, E6, E7, E8, EH, ES⟩ := hd_split t
  obtain ⟨y1, y2, y3, y4, y5, y6, y7, y8, r8, n, s9, df⟩ := decF t
  have e := df.hd
  rw [EH] at e
  simp only [Bt.mk.injEq] at e
  obtain ⟨rfl, rfl, rfl, rfl, rfl, rfl, rfl, rfl, _⟩ := e
  have e2 := df.st
  rw [ES] at e2
  subst e2
  exact ⟨x1, s1, x2, s2, x3, s3, x4, s4, x5, s5, x6, s6, x7, s7, x8, s8, n, s9, E1, E2, E3, E4, E5, E6, E7, E8, df⟩
theorem doccheck7 (b : Bt) (a : Option Addr) (cap : Nat) (w : World) (hp : RAt w a b.vs) (m : Nat) (hm : b.vs.length = m) :
    Calls Try.prog 16 #[.agg #[.int .i64 b.base, .int .i64 b.epoch, .int .u64 (b.pid : Int), .int .i64 b.pep, .int .i64 b.seq, .bool b.txn, .bool b.ctl, .bool b.com, .slice a m cap]] w fun e w' => IntPost w (chk b) e w' := by
  subst hm; exact doccheck_any b a cap w hp
theorem rE_er {t : List Nat} {s : Rst} (h : s.er ≠ 0) : rE t s = s.er := by unfold rE; rw [if_neg (by omega)]

set_option maxRecDepth 100000 in
set_option maxHeartbeats 8000000 in
theorem docdecode_any {a : Option Addr} {cap : Nat} {t : List Nat} (w : World) (h : LAt w a t) (hn : a = none → cap = 0) (hcap : t.length ≤ cap) (hl : t.length ≤ 140737488355328) :
    Calls Try.prog 19 #[.slice a t.length cap] w fun e w' => DePost w t e w' := by
  obtain ⟨x1, s1, x2, s2, x3, s3, x4, s4, x5, s5, x6, s6, x7, s7, x8, s8, n, s9, E1, E2, E3, E4, E5, E6, E7, E8, df⟩ := decG t
  have DF := hide df
  have hz9 : s9.er ≠ 0 → n = 0 := by
    intro hz
    have := rU_zero (t := t) (s := s8)
    rw [df.ct] at this
    exact this hz
  have HZ9 := hide hz9
  have HLW : Hid (∀ x, a = some x → 0 < t.length → x.block < w.heap.size) := fun x hx h0 => lat_lt h h0 hx
  have hB0 : Below w.heap.size w (((w.alloc (.cells #[.int .i64 0, .int .i64 0, .int .u64 0, .int .i64 0, .int .i64 0, .bool false, .bool false, .bool false, .slice none 0 0] 25)).alloc (.cells #[.slice a t.length cap, .int .i64 0, .int .i64 0] 63)).alloc (.cells #[.int .i64 0, .int .i64 0, .int .u64 0, .int .i64 0, .int .i64 0, .bool false, .bool false, .bool false, .slice none 0 0] 25)) := (((Below.refl _ _).alloc (Nat.le_refl _) _).alloc (by simp) _).alloc (by simp only [World.size_alloc]; omega) _
  have T0 : Hid (Touch (fun k => k = w.heap.size + 1 ∨ w.heap.size ≤ k) w (((w.alloc (.cells #[.int .i64 0, .int .i64 0, .int .u64 0, .int .i64 0, .int .i64 0, .bool false, .bool false, .bool false, .slice none 0 0] 25)).alloc (.cells #[.slice a t.length cap, .int .i64 0, .int .i64 0] 63)).alloc (.cells #[.int .i64 0, .int .i64 0, .int .u64 0, .int .i64 0, .int .i64 0, .bool false, .bool false, .bool false, .slice none 0 0] 25))) := Touch.of_below hB0
  have R0 : Hid (Blk (((w.alloc (.cells #[.int .i64 0, .int .i64 0, .int .u64 0, .int .i64 0, .int .i64 0, .bool false, .bool false, .bool false, .slice none 0 0] 25)).alloc (.cells #[.slice a t.length cap, .int .i64 0, .int .i64 0] 63)).alloc (.cells #[.int .i64 0, .int .i64 0, .int .u64 0, .int .i64 0, .int .i64 0, .bool false, .bool false, .bool false, .slice none 0 0] 25)) w.heap.size #[.int .i64 0, .int .i64 0, .int .u64 0, .int .i64 0, .int .i64 0, .bool false, .bool false, .bool false, .slice none 0 0]) := heap_old _ (heap_old _ (heap_new w _))
  have X0 : Hid (Blk (((w.alloc (.cells #[.int .i64 0, .int .i64 0, .int .u64 0, .int .i64 0, .int .i64 0, .bool false, .bool false, .bool false, .slice none 0 0] 25)).alloc (.cells #[.slice a t.length cap, .int .i64 0, .int .i64 0] 63)).alloc (.cells #[.int .i64 0, .int .i64 0, .int .u64 0, .int .i64 0, .int .i64 0, .bool false, .bool false, .bool false, .slice none 0 0] 25)) (w.heap.size + 2) #[.int .i64 0, .int .i64 0, .int .u64 0, .int .i64 0, .int .i64 0, .bool false, .bool false, .bool false, .slice none 0 0]) := by
    have := heap_new ((w.alloc (.cells #[.int .i64 0, .int .i64 0, .int .u64 0, .int .i64 0, .int .i64 0, .bool false, .bool false, .bool false, .slice none 0 0] 25)).alloc (.cells #[.slice a t.length cap, .int .i64 0, .int .i64 0] 63)) (.cells #[.int .i64 0, .int .i64 0, .int .u64 0, .int .i64 0, .int .i64 0, .bool false, .bool false, .bool false, .slice none 0 0] 25)
    simp only [World.size_alloc] at this
    exact this
  have H0 : Hid (RdAt 63 (((w.alloc (.cells #[.int .i64 0, .int .i64 0, .int .u64 0, .int .i64 0, .int .i64 0, .bool false, .bool false, .bool false, .slice none 0 0] 25)).alloc (.cells #[.slice a t.length cap, .int .i64 0, .int .i64 0] 63)).alloc (.cells #[.int .i64 0, .int .i64 0, .int .u64 0, .int .i64 0, .int .i64 0, .bool false, .bool false, .bool false, .slice none 0 0] 25)) (w.heap.size + 1) a cap t ⟨0, 0⟩) := by
    refine ⟨?_, h.later hB0, fun h0 x hx => by have := unhide HLW x hx h0; omega, hcap, hn, Nat.zero_le _, by simp, hl⟩
    have := heap_new (w.alloc (.cells #[.int .i64 0, .int .i64 0, .int .u64 0, .int .i64 0, .int .i64 0, .bool false, .bool false, .bool false, .slice none 0 0] 25)) (.cells #[.slice a t.length cap, .int .i64 0, .int .i64 0] 63)
    simp only [World.size_alloc] at this
    exact heap_old _ this
  clear h hB0 df hz9
  go_enter Try.func19, Try.ntmps19
  go_wp2_with fail
  generalize ((w.alloc (.cells #[.int .i64 0, .int .i64 0, .int .u64 0, .int .i64 0, .int .i64 0, .bool false, .bool false, .bool false, .slice none 0 0] 25)).alloc (.cells #[.slice a t.length cap, .int .i64 0, .int .i64 0] 63)).alloc (.cells #[.int .i64 0, .int .i64 0, .int .u64 0, .int .i64 0, .int .i64 0, .bool false, .bool false, .bool false, .slice none 0 0] 25) = U0 at *
  have K0 := fint_any _ (unhide H0)
  rw [E1] at K0
  simp only at K0
  have KH0 := hide K0
  clear K0
  refine (unhide KH0).mono ?_
  rintro e w1 ⟨rfl, r1, t1⟩
  have xx0 := (unhide X0).keep t1 (by omega)
  have z1 := xx0.fz 0
  have y1 : w1.cell? ⟨w.heap.size + 2, 0, none⟩ = some _ := xx0.cell 0
  have H1 : Hid (RdAt 63 (w1.setCell ⟨w.heap.size + 2, 0, none⟩ (.int .i64 x1)) (w.heap.size + 1) a cap t s1) := r1.keep (touch_set w1 (w.heap.size + 2) 0 (.int .i64 x1)) (fun e => by omega) (fun h0 x hx e => by have := unhide HLW x hx h0; omega)
  have T1 : Hid (Touch (fun k => k = w.heap.size + 1 ∨ w.heap.size ≤ k) w (w1.setCell ⟨w.heap.size + 2, 0, none⟩ (.int .i64 x1))) := ((unhide T0).trans (t1.mono (fun k hk => .inl hk))).trans ((touch_set w1 (w.heap.size + 2) 0 (.int .i64 x1)).mono (fun k hk => .inr (by omega)))
  have R1 : Hid (Blk (w1.setCell ⟨w.heap.size + 2, 0, none⟩ (.int .i64 x1)) w.heap.size #[.int .i64 0, .int .i64 0, .int .u64 0, .int .i64 0, .int .i64 0, .bool false, .bool false, .bool false, .slice none 0 0]) := ((unhide R0).keep t1 (by omega)).keep (touch_set w1 (w.heap.size + 2) 0 (.int .i64 x1)) (by omega)
  have X1 : Hid (Blk (w1.setCell ⟨w.heap.size + 2, 0, none⟩ (.int .i64 x1)) (w.heap.size + 2) #[.int .i64 x1, .int .i64 0, .int .u64 0, .int .i64 0, .int .i64 0, .bool false, .bool false, .bool false, .slice none 0 0]) := xx0.set 0 (.int .i64 x1) rfl
  clear r1 t1 xx0 KH0 H0 T0 R0 X0
  go_wp2_with fail
  generalize w1.setCell ⟨w.heap.size + 2, 0, none⟩ (.int .i64 x1) = U1 at *
  clear z1 y1
  have K1 := fint_any _ (unhide H1)
  rw [E2] at K1
  simp only at K1
  have KH1 := hide K1
  clear K1
  refine (unhide KH1).mono ?_
  rintro e w2 ⟨rfl, r2, t2⟩
  have xx1 := (unhide X1).keep t2 (by omega)
  have z2 := xx1.fz 1
  have y2 : w2.cell? ⟨w.heap.size + 2, 1, none⟩ = some _ := xx1.cell 1
  have H2 : Hid (RdAt 63 (w2.setCell ⟨w.heap.size + 2, 1, none⟩ (.int .i64 x2)) (w.heap.size + 1) a cap t s2) := r2.keep (touch_set w2 (w.heap.size + 2) 1 (.int .i64 x2)) (fun e => by omega) (fun h0 x hx e => by have := unhide HLW x hx h0; omega)
  have T2 : Hid (Touch (fun k => k = w.heap.size + 1 ∨ w.heap.size ≤ k) w (w2.setCell ⟨w.heap.size + 2, 1, none⟩ (.int .i64 x2))) := ((unhide T1).trans (t2.mono (fun k hk => .inl hk))).trans ((touch_set w2 (w.heap.size + 2) 1 (.int .i64 x2)).mono (fun k hk => .inr (by omega)))
  have R2 : Hid (Blk (w2.setCell ⟨w.heap.size + 2, 1, none⟩ (.int .i64 x2)) w.heap.size #[.int .i64 0, .int .i64 0, .int .u64 0, .int .i64 0, .int .i64 0, .bool false, .bool false, .bool false, .slice none 0 0]) := ((unhide R1).keep t2 (by omega)).keep (touch_set w2 (w.heap.size + 2) 1 (.int .i64 x2)) (by omega)
  have X2 : Hid (Blk (w2.setCell ⟨w.heap.size + 2, 1, none⟩ (.int .i64 x2)) (w.heap.size + 2) #[.int .i64 x1, .int .i64 x2, .int .u64 0, .int .i64 0, .int .i64 0, .bool false, .bool false, .bool false, .slice none 0 0]) := xx1.set 1 (.int .i64 x2) rfl
  clear r2 t2 xx1 KH1 H1 T1 R1 X1
  go_wp2_with fail
  generalize w2.setCell ⟨w.heap.size + 2, 1, none⟩ (.int .i64 x2) = U2 at *
  clear z2 y2
  have K2 := fuint_any _ (unhide H2)
  rw [E3] at K2
  simp only at K2
  have KH2 := hide K2
  clear K2
  refine (unhide KH2).mono ?_
  rintro e w3 ⟨rfl, r3, t3⟩
  have xx2 := (unhide X2).keep t3 (by omega)
  have z3 := xx2.fz 2
  have y3 : w3.cell? ⟨w.heap.size + 2, 2, none⟩ = some _ := xx2.cell 2
  have H3 : Hid (RdAt 63 (w3.setCell ⟨w.heap.size + 2, 2, none⟩ (.int .u64 (x3 : Nat))) (w.heap.size + 1) a cap t s3) := r3.keep (touch_set w3 (w.heap.size + 2) 2 (.int .u64 (x3 : Nat))) (fun e => by omega) (fun h0 x hx e => by have := unhide HLW x hx h0; omega)
  have T3 : Hid (Touch (fun k => k = w.heap.size + 1 ∨ w.heap.size ≤ k) w (w3.setCell ⟨w.heap.size + 2, 2, none⟩ (.int .u64 (x3 : Nat)))) := ((unhide T2).trans (t3.mono (fun k hk => .inl hk))).trans ((touch_set w3 (w.heap.size + 2) 2 (.int .u64 (x3 : Nat))).mono (fun k hk => .inr (by omega)))
  have R3 : Hid (Blk (w3.setCell ⟨w.heap.size + 2, 2, none⟩ (.int .u64 (x3 : Nat))) w.heap.size #[.int .i64 0, .int .i64 0, .int .u64 0, .int .i64 0, .int .i64 0, .bool false, .bool false, .bool false, .slice none 0 0]) := ((unhide R2).keep t3 (by omega)).keep (touch_set w3 (w.heap.size + 2) 2 (.int .u64 (x3 : Nat))) (by omega)
  have X3 : Hid (Blk (w3.setCell ⟨w.heap.size + 2, 2, none⟩ (.int .u64 (x3 : Nat))) (w.heap.size + 2) #[.int .i64 x1, .int .i64 x2, .int .u64 (x3 : Nat), .int .i64 0, .int .i64 0, .bool false, .bool false, .bool false, .slice none 0 0]) := xx2.set 2 (.int .u64 (x3 : Nat)) rfl
  clear r3 t3 xx2 KH2 H2 T2 R2 X2
  go_wp2_with fail
  generalize w3.setCell ⟨w.heap.size + 2, 2, none⟩ (.int .u64 (x3 : Nat)) = U3 at *
  clear z3 y3
  have K3 := fint_any _ (unhide H3)
  rw [E4] at K3
  simp only at K3
  have KH3 := hide K3
  clear K3
  refine (unhide KH3).mono ?_
  rintro e w4 ⟨rfl, r4, t4⟩
  have xx3 := (unhide X3).keep t4 (by omega)
  have z4 := xx3.fz 3
  have y4 : w4.cell? ⟨w.heap.size + 2, 3, none⟩ = some _ := xx3.cell 3
  have H4 : Hid (RdAt 63 (w4.setCell ⟨w.heap.size + 2, 3, none⟩ (.int .i64 x4)) (w.heap.size + 1) a cap t s4) := r4.keep (touch_set w4 (w.heap.size + 2) 3 (.int .i64 x4)) (fun e => by omega) (fun h0 x hx e => by have := unhide HLW x hx h0; omega)
  have T4 : Hid (Touch (fun k => k = w.heap.size + 1 ∨ w.heap.size ≤ k) w (w4.setCell ⟨w.heap.size + 2, 3, none⟩ (.int .i64 x4))) := ((unhide T3).trans (t4.mono (fun k hk => .inl hk))).trans ((touch_set w4 (w.heap.size + 2) 3 (.int .i64 x4)).mono (fun k hk => .inr (by omega)))
  have R4 : Hid (Blk (w4.setCell ⟨w.heap.size + 2, 3, none⟩ (.int .i64 x4)) w.heap.size #[.int .i64 0, .int .i64 0, .int .u64 0, .int .i64 0, .int .i64 0, .bool false, .bool false, .bool false, .slice none 0 0]) := ((unhide R3).keep t4 (by omega)).keep (touch_set w4 (w.heap.size + 2) 3 (.int .i64 x4)) (by omega)
  have X4 : Hid (Blk (w4.setCell ⟨w.heap.size + 2, 3, none⟩ (.int .i64 x4)) (w.heap.size + 2) #[.int .i64 x1, .int .i64 x2, .int .u64 (x3 : Nat), .int .i64 x4, .int .i64 0, .bool false, .bool false, .bool false, .slice none 0 0]) := xx3.set 3 (.int .i64 x4) rfl
  clear r4 t4 xx3 KH3 H3 T3 R3 X3
  go_wp2_with fail
  generalize w4.setCell ⟨w.heap.size + 2, 3, none⟩ (.int .i64 x4) = U4 at *
  clear z4 y4
  have K4 := fint_any _ (unhide H4)
  rw [E5] at K4
  simp only at K4
  have KH4 := hide K4
  clear K4
  refine (unhide KH4).mono ?_
  rintro e w5 ⟨rfl, r5, t5⟩
  have xx4 := (unhide X4).keep t5 (by omega)
  have z5 := xx4.fz 4
  have y5 : w5.cell? ⟨w.heap.size + 2, 4, none⟩ = some _ := xx4.cell 4
  have H5 : Hid (RdAt 63 (w5.setCell ⟨w.heap.size + 2, 4, none⟩ (.int .i64 x5)) (w.heap.size + 1) a cap t s5) := r5.keep (touch_set w5 (w.heap.size + 2) 4 (.int .i64 x5)) (fun e => by omega) (fun h0 x hx e => by have := unhide HLW x hx h0; omega)
  have T5 : Hid (Touch (fun k => k = w.heap.size + 1 ∨ w.heap.size ≤ k) w (w5.setCell ⟨w.heap.size + 2, 4, none⟩ (.int .i64 x5))) := ((unhide T4).trans (t5.mono (fun k hk => .inl hk))).trans ((touch_set w5 (w.heap.size + 2) 4 (.int .i64 x5)).mono (fun k hk => .inr (by omega)))
  have R5 : Hid (Blk (w5.setCell ⟨w.heap.size + 2, 4, none⟩ (.int .i64 x5)) w.heap.size #[.int .i64 0, .int .i64 0, .int .u64 0, .int .i64 0, .int .i64 0, .bool false, .bool false, .bool false, .slice none 0 0]) := ((unhide R4).keep t5 (by omega)).keep (touch_set w5 (w.heap.size + 2) 4 (.int .i64 x5)) (by omega)
  have X5 : Hid (Blk (w5.setCell ⟨w.heap.size + 2, 4, none⟩ (.int .i64 x5)) (w.heap.size + 2) #[.int .i64 x1, .int .i64 x2, .int .u64 (x3 : Nat), .int .i64 x4, .int .i64 x5, .bool false, .bool false, .bool false, .slice none 0 0]) := xx4.set 4 (.int .i64 x5) rfl
  clear r5 t5 xx4 KH4 H4 T4 R4 X4
  go_wp2_with fail
  generalize w5.setCell ⟨w.heap.size + 2, 4, none⟩ (.int .i64 x5) = U5 at *
  clear z5 y5
  have K5 := fflag_any _ (unhide H5)
  rw [E6] at K5
  simp only at K5
  have KH5 := hide K5
  clear K5
  refine (unhide KH5).mono ?_
  rintro e w6 ⟨rfl, r6, t6⟩
  have xx5 := (unhide X5).keep t6 (by omega)
  have z6 := xx5.fz 5
  have y6 : w6.cell? ⟨w.heap.size + 2, 5, none⟩ = some _ := xx5.cell 5
  have H6 : Hid (RdAt 63 (w6.setCell ⟨w.heap.size + 2, 5, none⟩ (.bool x6)) (w.heap.size + 1) a cap t s6) := r6.keep (touch_set w6 (w.heap.size + 2) 5 (.bool x6)) (fun e => by omega) (fun h0 x hx e => by have := unhide HLW x hx h0; omega)
  have T6 : Hid (Touch (fun k => k = w.heap.size + 1 ∨ w.heap.size ≤ k) w (w6.setCell ⟨w.heap.size + 2, 5, none⟩ (.bool x6))) := ((unhide T5).trans (t6.mono (fun k hk => .inl hk))).trans ((touch_set w6 (w.heap.size + 2) 5 (.bool x6)).mono (fun k hk => .inr (by omega)))
  have R6 : Hid (Blk (w6.setCell ⟨w.heap.size + 2, 5, none⟩ (.bool x6)) w.heap.size #[.int .i64 0, .int .i64 0, .int .u64 0, .int .i64 0, .int .i64 0, .bool false, .bool false, .bool false, .slice none 0 0]) := ((unhide R5).keep t6 (by omega)).keep (touch_set w6 (w.heap.size + 2) 5 (.bool x6)) (by omega)
  have X6 : Hid (Blk (w6.setCell ⟨w.heap.size + 2, 5, none⟩ (.bool x6)) (w.heap.size + 2) #[.int .i64 x1, .int .i64 x2, .int .u64 (x3 : Nat), .int .i64 x4, .int .i64 x5, .bool x6, .bool false, .bool false, .slice none 0 0]) := xx5.set 5 (.bool x6) rfl
  clear r6 t6 xx5 KH5 H5 T5 R5 X5
  go_wp2_with fail
  generalize w6.setCell ⟨w.heap.size + 2, 5, none⟩ (.bool x6) = U6 at *
  clear z6 y6
  have K6 := fflag_any _ (unhide H6)
  rw [E7] at K6
  simp only at K6
  have KH6 := hide K6
  clear K6
  refine (unhide KH6).mono ?_
  rintro e w7 ⟨rfl, r7, t7⟩
  have xx6 := (unhide X6).keep t7 (by omega)
  have z7 := xx6.fz 6
  have y7 : w7.cell? ⟨w.heap.size + 2, 6, none⟩ = some _ := xx6.cell 6
  have H7 : Hid (RdAt 63 (w7.setCell ⟨w.heap.size + 2, 6, none⟩ (.bool x7)) (w.heap.size + 1) a cap t s7) := r7.keep (touch_set w7 (w.heap.size + 2) 6 (.bool x7)) (fun e => by omega) (fun h0 x hx e => by have := unhide HLW x hx h0; omega)
  have T7 : Hid (Touch (fun k => k = w.heap.size + 1 ∨ w.heap.size ≤ k) w (w7.setCell ⟨w.heap.size + 2, 6, none⟩ (.bool x7))) := ((unhide T6).trans (t7.mono (fun k hk => .inl hk))).trans ((touch_set w7 (w.heap.size + 2) 6 (.bool x7)).mono (fun k hk => .inr (by omega)))
  have R7 : Hid (Blk (w7.setCell ⟨w.heap.size + 2, 6, none⟩ (.bool x7)) w.heap.size #[.int .i64 0, .int .i64 0, .int .u64 0, .int .i64 0, .int .i64 0, .bool false, .bool false, .bool false, .slice none 0 0]) := ((unhide R6).keep t7 (by omega)).keep (touch_set w7 (w.heap.size + 2) 6 (.bool x7)) (by omega)
  have X7 : Hid (Blk (w7.setCell ⟨w.heap.size + 2, 6, none⟩ (.bool x7)) (w.heap.size + 2) #[.int .i64 x1, .int .i64 x2, .int .u64 (x3 : Nat), .int .i64 x4, .int .i64 x5, .bool x6, .bool x7, .bool false, .slice none 0 0]) := xx6.set 6 (.bool x7) rfl
  clear r7 t7 xx6 KH6 H6 T6 R6 X6
  go_wp2_with fail
  generalize w7.setCell ⟨w.heap.size + 2, 6, none⟩ (.bool x7) = U7 at *
  clear z7 y7
  have K7 := fflag_any _ (unhide H7)
  rw [E8] at K7
  simp only at K7
  have KH7 := hide K7
  clear K7
  refine (unhide KH7).mono ?_
  rintro e w8 ⟨rfl, r8, t8⟩
  have xx7 := (unhide X7).keep t8 (by omega)
  have z8 := xx7.fz 7
  have y8 : w8.cell? ⟨w.heap.size + 2, 7, none⟩ = some _ := xx7.cell 7
  have H8 : Hid (RdAt 63 (w8.setCell ⟨w.heap.size + 2, 7, none⟩ (.bool x8)) (w.heap.size + 1) a cap t s8) := r8.keep (touch_set w8 (w.heap.size + 2) 7 (.bool x8)) (fun e => by omega) (fun h0 x hx e => by have := unhide HLW x hx h0; omega)
  have T8 : Hid (Touch (fun k => k = w.heap.size + 1 ∨ w.heap.size ≤ k) w (w8.setCell ⟨w.heap.size + 2, 7, none⟩ (.bool x8))) := ((unhide T7).trans (t8.mono (fun k hk => .inl hk))).trans ((touch_set w8 (w.heap.size + 2) 7 (.bool x8)).mono (fun k hk => .inr (by omega)))
  have R8 : Hid (Blk (w8.setCell ⟨w.heap.size + 2, 7, none⟩ (.bool x8)) w.heap.size #[.int .i64 0, .int .i64 0, .int .u64 0, .int .i64 0, .int .i64 0, .bool false, .bool false, .bool false, .slice none 0 0]) := ((unhide R7).keep t8 (by omega)).keep (touch_set w8 (w.heap.size + 2) 7 (.bool x8)) (by omega)
  have X8 : Hid (Blk (w8.setCell ⟨w.heap.size + 2, 7, none⟩ (.bool x8)) (w.heap.size + 2) #[.int .i64 x1, .int .i64 x2, .int .u64 (x3 : Nat), .int .i64 x4, .int .i64 x5, .bool x6, .bool x7, .bool x8, .slice none 0 0]) := xx7.set 7 (.bool x8) rfl
  clear r8 t8 xx7 KH7 H7 T7 R7 X7
  go_wp2_with fail
  generalize w8.setCell ⟨w.heap.size + 2, 7, none⟩ (.bool x8) = U8 at *
  clear z8 y8
  have KU := fuint_any _ (unhide H8)
  rw [(unhide DF).ct] at KU
  simp only at KU
  have KUU := hide KU
  clear KU
  refine (unhide KUU).mono ?_
  rintro e w9 ⟨rfl, r9, t9⟩
  have R4 := hide ((unhide R8).keep t9 (by omega))
  have XB4 := hide ((unhide X8).keep t9 (by omega))
  have B4 : Hid (Below w.heap.size w w9) := by
    have tt := touch_old (S := fun k => k = w.heap.size + 1) (((unhide T8)).trans (t9.mono (fun k hk => .inl hk)))
    exact below_touch (Below.refl _ _) tt (Nat.le_refl _) (fun k hk => by omega)
  have RD4 := hide r9
  have hc2 := r9.c2
  have hs4 : w.heap.size + 2 < w9.heap.size := (unhide XB4).lt
  clear r9 t9 KUU H8 T8 R8 X8
  obtain ⟨p9, e9⟩ := s9
  simp only at hc2
  by_cases he9 : e9 = 0
  · subst he9
    by_cases h16 : 16 < n
    · have h16' : (16 : Int) < (n : Int) := by omega
      have NO := hide ((unhide DF).many h16)
      have RZ := hide (unhide R4)
      have BZ := hide (unhide B4)
      have bz : Box w9 w.heap.size zeroB none 0 := unhide RZ
      obtain ⟨q0, q1, q2, q3, q4, q5, q6, q7, q8⟩ := bz.cells
      have z : ∀ i, w9.frozen? ⟨w.heap.size, i, none⟩ = false := (unhide RZ).fz
      simp only [zeroB, List.length_nil] at q0 q1 q2 q3 q4 q5 q6 q7 q8
      have T9 := hide (set9 (unhide RZ) rfl (.int .i64 0) (.int .i64 0) (.int .u64 0) (.int .i64 0) (.int .i64 0) (.bool false) (.bool false) (.bool false) (.slice none 0 0))
      clear bz
      go_wp2
      clear q0 q1 q2 q3 q4 q5 q6 q7 q8 z
      generalize (((((((((w9.setCell ⟨w.heap.size, 0, none⟩ (.int .i64 0)).setCell ⟨w.heap.size, 1, none⟩ (.int .i64 0)).setCell ⟨w.heap.size, 2, none⟩ (.int .u64 0)).setCell ⟨w.heap.size, 3, none⟩ (.int .i64 0)).setCell ⟨w.heap.size, 4, none⟩ (.int .i64 0)).setCell ⟨w.heap.size, 5, none⟩ (.bool false)).setCell ⟨w.heap.size, 6, none⟩ (.bool false)).setCell ⟨w.heap.size, 7, none⟩ (.bool false)).setCell ⟨w.heap.size, 8, none⟩ (.slice none 0 0)) = V at *
      have bu : Box V w.heap.size zeroB none 0 := (unhide T9).1
      obtain ⟨k0, k1, k2, k3, k4, k5, k6, k7, k8⟩ := bu.cells
      simp only [zeroB, List.length_nil] at k0 k1 k2 k3 k4 k5 k6 k7 k8
      refine bodyPost_ret (by simp [results, Try.results19, go_sem, k0, k1, k2, k3, k4, k5, k6, k7, k8]; try rfl) rfl ?_
      exact DePost.no (unhide NO).1 (unhide NO).2 (below_touch (unhide BZ) (unhide T9).2 (unhide BZ).size (fun k hk => by omega))
    · have h16' : ¬ (16 : Int) < (n : Int) := by omega
      go_wp2_with fail
      have DL0 : Hid (Dl 63 w9 w9 (w.heap.size + 2) (w.heap.size + 1) a cap t ⟨p9, 0⟩ [] #[.int .i64 x1, .int .i64 x2, .int .u64 (x3 : Nat), .int .i64 x4, .int .i64 x5, .bool x6, .bool x7, .bool x8] (.slice none 0 0) []) := ⟨Spine.nil _ _, New.nil _, unhide RD4, unhide XB4, Touch.refl _ _⟩
      obtain ⟨s9, hs9⟩ : ∃ s, s = (⟨p9, 0⟩ : Rst) := ⟨_, rfl⟩
      rw [← hs9] at DL0 DF
      clear hs9 HZ9
      generalize hg : w.heap.size + 2 = g at *
      generalize hb : w.heap.size + 1 = b at *
      have HLB : Hid (∀ x, a = some x → 0 < t.length → x.block < g) := fun x hx h0 => by have := unhide HLW x hx h0; omega
      have hbw : w.heap.size < b := by omega
      have hgb : b < g := by omega
      generalize hW : w9 = W at *
      have HG := hide (And.intro hg (And.intro hb hW))
      clear hg hb hW RD4 XB4
      go_loopw [7] (fun i wr => ∃ (k : Nat) (v1 : Value) (vs : List Value), k ≤ n ∧ i = .int .i64 k ∧ Dl 63 W wr g b a cap t (rVs t s9 k).2 (rVs t s9 k).1 #[.int .i64 x1, .int .i64 x2, .int .u64 (x3 : Nat), .int .i64 x4, .int .i64 x5, .bool x6, .bool x7, .bool x8] v1 vs) (fun i _ => n - (intOf i).toNat)
      case atStart => exact ⟨0, _, _, Nat.zero_le _, rfl, unhide DL0⟩
      case round =>
        obtain ⟨k, v1, vs, hk, rfl, dl⟩ := hrel
        have DL := hide dl
        have hc2 := dl.rd.c2
        clear dl DL0
        by_cases hkn : k < n
        · have hkn' : (k : Int) < (n : Int) := by omega
          by_cases hek : (rVs t s9 k).2.er = 0
          · rw [hek] at hc2
            have hc2' : wr.cell? ⟨b, 2, none⟩ = some (.int .i64 0) := hc2
            clear hc2
            obtain ⟨a1, m1, c1, rfl⟩ := (unhide DL).sp.shape
            have hvl : (vs.length + 1) * 24 ≤ 140737488355328 := by have := (unhide DL).sp.len; rw [rVs_len] at this; omega
            have y8 : wr.cell? ⟨g, 8, none⟩ = some (.slice a1 m1 c1) := (unhide DL).bx.cell 8
            have hgw : g < wr.heap.size := (unhide DL).bx.lt
            have ES : Hid (rVs t s9 (k + 1) = ((rVs t s9 k).1 ++ [(rB t (rVs t s9 k).2).1], (rB t (rVs t s9 k).2).2)) := rfl
            have KB : Hid (∀ w', Touch (fun _ => False) wr w' → Calls Try.prog 38 #[.pointer (some ⟨b, 0, none⟩)] w' fun e w'' => ∃ v, e = .returned v ∧ AftB 63 W wr w'' g b a cap t (rB t (rVs t s9 k).2).2 (rB t (rVs t s9 k).2).1 (.slice a1 m1 c1) v) := fun w' tw =>
              (fbytes_any w' ((unhide DL).rd.keep tw (fun h => h) (fun _ _ _ h => h))).mono fun e w'' h => by
                obtain ⟨v, e1, r, nw, rd, tc⟩ := h
                have tt : Touch (· = b) wr w'' := (tw.mono (fun _ h => h.elim)).trans tc
                refine ⟨v, e1, r, nw.mono (Nat.le_trans (unhide DL).tc.size tw.size), rd, tt, ?_⟩
                exact (World.cell?_of_block (a := ⟨g, 8, none⟩) (tt.block g hgw (by omega))).trans y8
            have DLL := hide (unhide DL)
            have hWr := (unhide DL).tc.size
            clear DL
            generalize rB t (rVs t s9 k).2 = RB at *
            obtain ⟨p, sn⟩ := RB
            generalize rVs t s9 k = P at *
            obtain ⟨ls, so⟩ := P
            simp only at ES KB DLL
            go_wp2_with fail
            go_region_law (first
              | (go_simp; go_at_call 38; refine (unhide KB _ ((Touch.refl _ _).drew)).mono ?_; rintro e w2 ⟨v2, rfl, af2⟩; obtain ⟨a2, m2, c2, rfl⟩ := af2.row.shape; have y2 := af2.cell; have g2 : g < w2.heap.size := Nat.lt_of_lt_of_le hgw af2.tc.size; have y2' : (w2.alloc (.cells #[.slice a2 m2 c2] 26)).cell? ⟨g, 8, none⟩ = some (.slice a1 m1 c1) := (((Below.refl w2.heap.size w2).alloc (Nat.le_refl _) _).cell (p := ⟨g, 8, none⟩) g2).trans y2; have AF2 := hide af2; clear af2)
              | (refine step_elem rfl (.tmp 63) (.tmp 66) rfl (.slice a1 m1 c1) vs (by rfl) (Own.keep (unhide DLL).sp.own (aft_touch (unhide AF2) (by first | exact (Touch.refl _ _).alloc _ | exact ((Touch.refl _ _).alloc _).drew | exact (Touch.refl _ _).drew.alloc _ | exact ((Touch.refl _ _).drew.alloc _).drew)) (fun j hj e => by have := (unhide DLL).nw j hj; omega)) w2.heap.size (.slice a2 m2 c2) (by rfl) (by first | exact cell_of (heap_new _ _) 0 | (simp; done)) rfl hvl ?_; intro v3 w3 o3 t3 m3; have bx3 := Blk.keep (Blk.keep (unhide DLL).bx (aft_touch (unhide AF2) (by first | exact (Touch.refl _ _).alloc _ | exact ((Touch.refl _ _).alloc _).drew | exact (Touch.refl _ _).drew.alloc _ | exact ((Touch.refl _ _).drew.alloc _).drew)) (by omega)) t3 (fun e => by have := (unhide DLL).nw g e; omega); have y3 : w3.cell? ⟨g, 8, none⟩ = some (.slice a1 m1 c1) := bx3.cell 8; have z3 := bx3.fz 8; have BX3 := hide bx3; clear bx3; obtain ⟨a3, n3, c3, rfl⟩ := own_shape o3))
            all_goals
              have NX : Hid (Dl 63 W (w3.setCell ⟨g, 8, none⟩ (.slice a3 n3 c3)) g b a cap t (rVs t s9 (k + 1)).2 (rVs t s9 (k + 1)).1 #[.int .i64 x1, .int .i64 x2, .int .u64 (x3 : Nat), .int .i64 x4, .int .i64 x5, .bool x6, .bool x7, .bool x8] (.slice a3 n3 c3) (vs ++ [.slice a2 m2 c2])) := by
                rw [unhide ES]
                exact dl_step (unhide DLL) rfl (unhide AF2) o3 t3 m3 (by omega) (by omega) (by omega) (unhide HLB)
              clear o3 t3 m3 y3 z3 BX3 y2 y2' AF2 KB ES DLL y8
              go_wp2
              go_roundw
              case rel => exact ⟨k + 1, _, _, by omega, by go_num, unhide NX⟩
              case measure => simp [intOf]; omega
          · have hst : (rVs t s9 n).2 = (rVs t s9 k).2 := by have := rVs_stop (t := t) (s := s9) (j := k) hek (n - k); rw [show k + (n - k) = n by omega] at this; exact this
            have hEE : rE t (rVs t s9 n).2 = (rVs t s9 k).2.er := by rw [hst, rE_er hek]
            have NO := hide ((unhide DF).ended h16 (by rw [hEE]; exact hek))
            have RZ : Hid (Blk wr w.heap.size #[.int .i64 0, .int .i64 0, .int .u64 0, .int .i64 0, .int .i64 0, .bool false, .bool false, .bool false, .slice none 0 0]) := (unhide R4).keep (unhide DL).tc (by omega)
            have BZ := hide (below_touch (unhide B4) (unhide DL).tc (unhide B4).size (fun k hk => by omega))
            have KE := fend_any _ (unhide DL).rd
            rw [hEE] at NO
            rw [rE_er hek] at KE
            have KEE := hide KE
            clear KE hEE hst DL DF
            generalize (rVs t s9 k).2.er = cc at *
            have hek' : ¬ (cc : Int) = 0 := by omega
            go_wp2_with fail
            refine (unhide KEE).mono ?_
            rintro e w5 ⟨rfl, d5, hd5⟩
            have RZ5 : Hid (Blk w5 w.heap.size #[.int .i64 0, .int .i64 0, .int .u64 0, .int .i64 0, .int .i64 0, .bool false, .bool false, .bool false, .slice none 0 0]) := by rw [hd5]; exact unhide RZ
            have BZ5 : Hid (Below w.heap.size w w5) := by rw [hd5]; exact below_drewN3 (unhide BZ) d5
            clear hd5 RZ BZ hc2
            have RZ := hide (unhide RZ5)
            have BZ := hide (unhide BZ5)
            have bz : Box w5 w.heap.size zeroB none 0 := unhide RZ
            obtain ⟨q0, q1, q2, q3, q4, q5, q6, q7, q8⟩ := bz.cells
            have z : ∀ i, w5.frozen? ⟨w.heap.size, i, none⟩ = false := (unhide RZ).fz
            simp only [zeroB, List.length_nil] at q0 q1 q2 q3 q4 q5 q6 q7 q8
            have T9 := hide (set9 (unhide RZ) rfl (.int .i64 0) (.int .i64 0) (.int .u64 0) (.int .i64 0) (.int .i64 0) (.bool false) (.bool false) (.bool false) (.slice none 0 0))
            clear bz
            go_wp2
            clear q0 q1 q2 q3 q4 q5 q6 q7 q8 z
            generalize (((((((((w5.setCell ⟨w.heap.size, 0, none⟩ (.int .i64 0)).setCell ⟨w.heap.size, 1, none⟩ (.int .i64 0)).setCell ⟨w.heap.size, 2, none⟩ (.int .u64 0)).setCell ⟨w.heap.size, 3, none⟩ (.int .i64 0)).setCell ⟨w.heap.size, 4, none⟩ (.int .i64 0)).setCell ⟨w.heap.size, 5, none⟩ (.bool false)).setCell ⟨w.heap.size, 6, none⟩ (.bool false)).setCell ⟨w.heap.size, 7, none⟩ (.bool false)).setCell ⟨w.heap.size, 8, none⟩ (.slice none 0 0)) = V at *
            have bu : Box V w.heap.size zeroB none 0 := (unhide T9).1
            obtain ⟨k0, k1, k2, k3, k4, k5, k6, k7, k8⟩ := bu.cells
            simp only [zeroB, List.length_nil] at k0 k1 k2 k3 k4 k5 k6 k7 k8
            refine bodyPost_ret (by simp [results, Try.results19, go_sem, k0, k1, k2, k3, k4, k5, k6, k7, k8]; try rfl) rfl ?_
            exact DePost.no (unhide NO).1 (unhide NO).2 (below_touch (unhide BZ) (unhide T9).2 (unhide BZ).size (fun k hk => by omega))
        · obtain rfl : k = n := by omega
          have hkn' : ¬ (k : Int) < (k : Int) := by omega
          have RZ : Hid (Blk wr w.heap.size #[.int .i64 0, .int .i64 0, .int .u64 0, .int .i64 0, .int .i64 0, .bool false, .bool false, .bool false, .slice none 0 0]) := (unhide R4).keep (unhide DL).tc (by omega)
          have BZ := hide (below_touch (unhide B4) (unhide DL).tc (unhide B4).size (fun k hk => by omega))
          go_wp2_with fail
          refine (fend_any _ (unhide DL).rd).mono ?_
          rintro e w5 ⟨rfl, d5, hd5⟩
          have DL5 : Hid (Dl 63 W w5 g b a cap t (rVs t s9 k).2 (rVs t s9 k).1 #[.int .i64 x1, .int .i64 x2, .int .u64 (x3 : Nat), .int .i64 x4, .int .i64 x5, .bool x6, .bool x7, .bool x8] v1 vs) := by rw [hd5]; exact (unhide DL).drewN d5
          have RZ5 : Hid (Blk w5 w.heap.size #[.int .i64 0, .int .i64 0, .int .u64 0, .int .i64 0, .int .i64 0, .bool false, .bool false, .bool false, .slice none 0 0]) := by rw [hd5]; exact unhide RZ
          have BZ5 : Hid (Below w.heap.size w w5) := by rw [hd5]; exact below_drewN3 (unhide BZ) d5
          clear hd5 DL RZ BZ
          by_cases he : rE t (rVs t s9 k).2 = 0
          · rw [he]
            obtain ⟨a1, c1, rfl, ra1, _, _, _, _⟩ := (unhide DL5).sp.parts (fun u l h => h.1.elem)
            have bx5 : Box w5 g ⟨x1, x2, x3, x4, x5, x6, x7, x8, (rVs t s9 k).1⟩ a1 c1 := by have := (unhide DL5).bx; rw [rVs_len] at this; show w5.heap[g]? = _; rw [rVs_len]; exact this
            have RA := hide ra1
            have BX5 := hide bx5
            have KC := doccheck7 ⟨x1, x2, x3, x4, x5, x6, x7, x8, (rVs t s9 k).1⟩ a1 c1 w5 ra1 k (rVs_len _ _ _)
            obtain ⟨k0, k1, k2, k3, k4, k5, k6, k7, k8⟩ := bx5.cells
            simp only [rVs_len] at k0 k1 k2 k3 k4 k5 k6 k7 k8 KC ⊢
            have KCC := hide KC
            clear ra1 bx5 KC
            go_wp2_with fail
            refine (unhide KCC).mono ?_
            rintro e w6 ⟨rfl, b6⟩
            have DL6 : Hid (Dl 63 W w6 g b a cap t (rVs t s9 k).2 (rVs t s9 k).1 #[.int .i64 x1, .int .i64 x2, .int .u64 (x3 : Nat), .int .i64 x4, .int .i64 x5, .bool x6, .bool x7, .bool x8] (.slice a1 k c1) vs) := by have := unhide DL5; rw [rVs_len] at this; exact this.later b6
            have RZ := hide ((unhide RZ5).keep (Touch.of_below (S := fun _ => False) b6) (fun h => h))
            have BZ := hide ((unhide BZ5).trans (b6.mono (unhide BZ5).size))
            have BX6 := hide ((unhide BX5).later b6)
            clear b6 RZ5 BZ5 BX5 DL5 RA KCC k0 k1 k2 k3 k4 k5 k6 k7 k8
            by_cases hc : chk ⟨x1, x2, x3, x4, x5, x6, x7, x8, (rVs t s9 k).1⟩ = 0
            · have OK := hide ((unhide DF).ok h16 he hc)
              rw [hc]
              obtain ⟨k0, k1, k2, k3, k4, k5, k6, k7, k8⟩ := (unhide BX6).cells
              simp only [rVs_len] at k0 k1 k2 k3 k4 k5 k6 k7 k8
              have bz : Box w6 w.heap.size zeroB none 0 := unhide RZ
              obtain ⟨q0, q1, q2, q3, q4, q5, q6, q7, q8⟩ := bz.cells
              have z : ∀ i, w6.frozen? ⟨w.heap.size, i, none⟩ = false := (unhide RZ).fz
              simp only [zeroB, List.length_nil] at q0 q1 q2 q3 q4 q5 q6 q7 q8
              have T9 := hide (set9 (unhide RZ) rfl (.int .i64 x1) (.int .i64 x2) (.int .u64 (x3 : Nat)) (.int .i64 x4) (.int .i64 x5) (.bool x6) (.bool x7) (.bool x8) (.slice a1 k c1))
              clear bz
              go_wp2
              clear q0 q1 q2 q3 q4 q5 q6 q7 q8 z k0 k1 k2 k3 k4 k5 k6 k7 k8
              generalize (((((((((w6.setCell ⟨w.heap.size, 0, none⟩ (.int .i64 x1)).setCell ⟨w.heap.size, 1, none⟩ (.int .i64 x2)).setCell ⟨w.heap.size, 2, none⟩ (.int .u64 (x3 : Nat))).setCell ⟨w.heap.size, 3, none⟩ (.int .i64 x4)).setCell ⟨w.heap.size, 4, none⟩ (.int .i64 x5)).setCell ⟨w.heap.size, 5, none⟩ (.bool x6)).setCell ⟨w.heap.size, 6, none⟩ (.bool x7)).setCell ⟨w.heap.size, 7, none⟩ (.bool x8)).setCell ⟨w.heap.size, 8, none⟩ (.slice a1 k c1)) = V at *
              have bu : Box V w.heap.size ⟨x1, x2, x3, x4, x5, x6, x7, x8, (rVs t s9 k).1⟩ a1 c1 := by show V.heap[w.heap.size]? = _; rw [rVs_len]; exact (unhide T9).1
              obtain ⟨k0, k1, k2, k3, k4, k5, k6, k7, k8⟩ := bu.cells
              simp only [rVs_len] at k0 k1 k2 k3 k4 k5 k6 k7 k8
              refine bodyPost_ret (by simp [results, Try.results19, go_sem, k0, k1, k2, k3, k4, k5, k6, k7, k8]; try rfl) rfl ?_
              refine ⟨a1, c1, ?_, ?_⟩
              · rw [(unhide OK).1, (unhide OK).2]; simp only [bv, rVs_len]; rfl
              · rw [(unhide OK).2]
                simp only [rVs_len]
                have hno : ∀ u : Value, New W u → ∀ k, u.ownBlock = some k → ¬ k = w.heap.size := fun u hu k hk e => by have := hu k hk; omega
                refine ⟨⟨vs, ((unhide DL6).sp.keep (unhide T9).2 (hno _ (unhide DL6).nw)).imp (fun u l h => ⟨h.1.keep (unhide T9).2 (hno u h.2), h.2.mono (by omega)⟩)⟩, (unhide DL6).nw.mono (by omega), ?_⟩
                exact below_touch (unhide BZ) (unhide T9).2 (unhide BZ).size (fun k hk => by omega)
            · have NO := hide ((unhide DF).bad h16 he hc)
              generalize chk ⟨x1, x2, x3, x4, x5, x6, x7, x8, (rVs t s9 k).1⟩ = cc at *
              have hc' : ¬ (cc : Int) = 0 := by omega
              have bz : Box w6 w.heap.size zeroB none 0 := unhide RZ
              obtain ⟨q0, q1, q2, q3, q4, q5, q6, q7, q8⟩ := bz.cells
              have z : ∀ i, w6.frozen? ⟨w.heap.size, i, none⟩ = false := (unhide RZ).fz
              simp only [zeroB, List.length_nil] at q0 q1 q2 q3 q4 q5 q6 q7 q8
              have T9 := hide (set9 (unhide RZ) rfl (.int .i64 0) (.int .i64 0) (.int .u64 0) (.int .i64 0) (.int .i64 0) (.bool false) (.bool false) (.bool false) (.slice none 0 0))
              clear bz
              go_wp2
              clear q0 q1 q2 q3 q4 q5 q6 q7 q8 z
              generalize (((((((((w6.setCell ⟨w.heap.size, 0, none⟩ (.int .i64 0)).setCell ⟨w.heap.size, 1, none⟩ (.int .i64 0)).setCell ⟨w.heap.size, 2, none⟩ (.int .u64 0)).setCell ⟨w.heap.size, 3, none⟩ (.int .i64 0)).setCell ⟨w.heap.size, 4, none⟩ (.int .i64 0)).setCell ⟨w.heap.size, 5, none⟩ (.bool false)).setCell ⟨w.heap.size, 6, none⟩ (.bool false)).setCell ⟨w.heap.size, 7, none⟩ (.bool false)).setCell ⟨w.heap.size, 8, none⟩ (.slice none 0 0)) = V at *
              have bu : Box V w.heap.size zeroB none 0 := (unhide T9).1
              obtain ⟨k0, k1, k2, k3, k4, k5, k6, k7, k8⟩ := bu.cells
              simp only [zeroB, List.length_nil] at k0 k1 k2 k3 k4 k5 k6 k7 k8
              refine bodyPost_ret (by simp [results, Try.results19, go_sem, k0, k1, k2, k3, k4, k5, k6, k7, k8]; try rfl) rfl ?_
              exact DePost.no (unhide NO).1 (unhide NO).2 (below_touch (unhide BZ) (unhide T9).2 (unhide BZ).size (fun k hk => by omega))
          · have NO := hide ((unhide DF).ended h16 he)
            generalize rE t (rVs t s9 k).2 = cc at *
            have he' : ¬ (cc : Int) = 0 := by omega
            have RZ := hide (unhide RZ5)
            have BZ := hide (unhide BZ5)
            have bz : Box w5 w.heap.size zeroB none 0 := unhide RZ
            obtain ⟨q0, q1, q2, q3, q4, q5, q6, q7, q8⟩ := bz.cells
            have z : ∀ i, w5.frozen? ⟨w.heap.size, i, none⟩ = false := (unhide RZ).fz
            simp only [zeroB, List.length_nil] at q0 q1 q2 q3 q4 q5 q6 q7 q8
            have T9 := hide (set9 (unhide RZ) rfl (.int .i64 0) (.int .i64 0) (.int .u64 0) (.int .i64 0) (.int .i64 0) (.bool false) (.bool false) (.bool false) (.slice none 0 0))
            clear bz
            go_wp2
            clear q0 q1 q2 q3 q4 q5 q6 q7 q8 z
            generalize (((((((((w5.setCell ⟨w.heap.size, 0, none⟩ (.int .i64 0)).setCell ⟨w.heap.size, 1, none⟩ (.int .i64 0)).setCell ⟨w.heap.size, 2, none⟩ (.int .u64 0)).setCell ⟨w.heap.size, 3, none⟩ (.int .i64 0)).setCell ⟨w.heap.size, 4, none⟩ (.int .i64 0)).setCell ⟨w.heap.size, 5, none⟩ (.bool false)).setCell ⟨w.heap.size, 6, none⟩ (.bool false)).setCell ⟨w.heap.size, 7, none⟩ (.bool false)).setCell ⟨w.heap.size, 8, none⟩ (.slice none 0 0)) = V at *
            have bu : Box V w.heap.size zeroB none 0 := (unhide T9).1
            obtain ⟨k0, k1, k2, k3, k4, k5, k6, k7, k8⟩ := bu.cells
            simp only [zeroB, List.length_nil] at k0 k1 k2 k3 k4 k5 k6 k7 k8
            refine bodyPost_ret (by simp [results, Try.results19, go_sem, k0, k1, k2, k3, k4, k5, k6, k7, k8]; try rfl) rfl ?_
            exact DePost.no (unhide NO).1 (unhide NO).2 (below_touch (unhide BZ) (unhide T9).2 (unhide BZ).size (fun k hk => by omega))
  · have hn0 : n = 0 := unhide HZ9 he9
    have he9' : ¬ (e9 : Int) = 0 := by omega
    have h16 : ¬ 16 < n := by omega
    have he : rE t (rVs t ⟨p9, e9⟩ n).2 ≠ 0 := by rw [hn0, rVs_zero, rE_er he9]; exact he9
    have NO := hide ((unhide DF).ended h16 he)
    have hEE : Hid (rE t (rVs t ⟨p9, e9⟩ n).2 = e9) := by show _ = _; rw [hn0, rVs_zero, rE_er he9]
    rw [unhide hEE] at NO
    subst hn0
    clear hEE he DF HZ9
    go_wp2_with fail
    go_loopw [7] (fun i wr => i = .int .i64 0 ∧ wr = w9) (fun _ _ => 0)
    case atStart => exact ⟨rfl, rfl⟩
    case round =>
      obtain ⟨rfl, rfl⟩ := hrel
      have KE := fend_any _ (unhide RD4)
      rw [rE_er he9] at KE
      have KEE := hide KE
      clear KE RD4
      go_wp2_with fail
      refine (unhide KEE).mono ?_
      rintro e w5 ⟨rfl, d5, hd5⟩
      have RZ : Hid (Blk w5 w.heap.size #[.int .i64 0, .int .i64 0, .int .u64 0, .int .i64 0, .int .i64 0, .bool false, .bool false, .bool false, .slice none 0 0]) := by rw [hd5]; exact unhide R4
      have BZ : Hid (Below w.heap.size w w5) := by rw [hd5]; exact below_drewN3 (unhide B4) d5
      clear hd5 hc2
      have bz : Box w5 w.heap.size zeroB none 0 := unhide RZ
      obtain ⟨q0, q1, q2, q3, q4, q5, q6, q7, q8⟩ := bz.cells
      have z : ∀ i, w5.frozen? ⟨w.heap.size, i, none⟩ = false := (unhide RZ).fz
      simp only [zeroB, List.length_nil] at q0 q1 q2 q3 q4 q5 q6 q7 q8
      have T9 := hide (set9 (unhide RZ) rfl (.int .i64 0) (.int .i64 0) (.int .u64 0) (.int .i64 0) (.int .i64 0) (.bool false) (.bool false) (.bool false) (.slice none 0 0))
      clear bz
      go_wp2
      clear q0 q1 q2 q3 q4 q5 q6 q7 q8 z
      generalize (((((((((w5.setCell ⟨w.heap.size, 0, none⟩ (.int .i64 0)).setCell ⟨w.heap.size, 1, none⟩ (.int .i64 0)).setCell ⟨w.heap.size, 2, none⟩ (.int .u64 0)).setCell ⟨w.heap.size, 3, none⟩ (.int .i64 0)).setCell ⟨w.heap.size, 4, none⟩ (.int .i64 0)).setCell ⟨w.heap.size, 5, none⟩ (.bool false)).setCell ⟨w.heap.size, 6, none⟩ (.bool false)).setCell ⟨w.heap.size, 7, none⟩ (.bool false)).setCell ⟨w.heap.size, 8, none⟩ (.slice none 0 0)) = V at *
      have bu : Box V w.heap.size zeroB none 0 := (unhide T9).1
      obtain ⟨k0, k1, k2, k3, k4, k5, k6, k7, k8⟩ := bu.cells
      simp only [zeroB, List.length_nil] at k0 k1 k2 k3 k4 k5 k6 k7 k8
      refine bodyPost_ret (by simp [results, Try.results19, go_sem, k0, k1, k2, k3, k4, k5, k6, k7, k8]; try rfl) rfl ?_
      exact DePost.no (unhide NO).1 (unhide NO).2 (below_touch (unhide BZ) (unhide T9).2 (unhide BZ).size (fun k hk => by omega))
end Go.Proofs.Ytfccddcoindnlaa
