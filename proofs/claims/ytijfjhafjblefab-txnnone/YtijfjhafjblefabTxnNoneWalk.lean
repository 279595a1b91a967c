/-
  TxnNone at every Op: true. Conditions: none but the reading's.
-/
import Derived.Test.YtijfjhafjblefabTx8
import Derived.Test.YtijfjhafjblefabTx5
import Derived.Test.YtijfjhafjblefabPay15
namespace Go.Proofs.Ytijfjhafjblefab
open Go.RowKit Go.Maps
set_option linter.unusedVariables false

set_option maxRecDepth 100000 in
theorem apply_nil (rk rt ri rp re : Int) (ra : Option Addr) (rn rc : Nat) (rco : Bool) (w : World) : Calls Try.prog 4 #[.pointer none, .agg #[.int .i64 rk, .int .i64 rt, .int .i64 ri, .int .u64 rp, .int .i64 re, .slice ra rn rc, .bool rco]] w fun e w' => e = .returned (.tuple #[]) ∧ Below w.heap.size w w' := by
  have B : Hid (Below w.heap.size w (w.alloc (.cells #[.int .i64 rk, .int .i64 rt, .int .i64 ri, .int .u64 rp, .int .i64 re, .slice ra rn rc, .bool rco] 25))) := (Below.refl _ _).alloc (Nat.le_refl _) _
  go_enter Try.func4, Try.ntmps4
  go_wp2
  go_returns
  exact ⟨rfl, unhide B⟩
theorem names_nil (w : World) : Calls Try.prog 10 #[.pointer none] w fun e w' => e = .returned (.slice none 0 0) ∧ w' = w := by
  go_enter Try.func10, Try.ntmps10
  go_wp2
  go_returns
  exact ⟨rfl, rfl⟩
set_option maxRecDepth 100000 in
set_option maxHeartbeats 4000000 in
theorem txnNone_walk (o : Oq) (w : World) : Calls Try.prog 3 #[.agg (oqL o).toArray] w fun e w' => e = .returned (.bool true) ∧ Below w.heap.size w w' := by
  obtain ⟨kd, n, inc, ep, pt, pid, co, dd, ⟨⟨rk, rt, ri, rp, re, rl, rco⟩, ra, rc⟩⟩ := o
  simp only [oqL]
  generalize rl.length = rn
  have BA : Hid (Below w.heap.size w (w.alloc (.cells #[.int .i64 kd, .int .i64 n, .int .i64 inc, .int .i64 ep, .int .i64 pt, .int .u64 pid, .bool co, .bool dd, .int .i64 rk, .int .i64 rt, .int .i64 ri, .int .u64 rp, .int .i64 re, .slice ra rn rc, .bool rco] 27))) := (Below.refl _ _).alloc (Nat.le_refl _) _
  have hob := heap_new w (.cells #[.int .i64 kd, .int .i64 n, .int .i64 inc, .int .i64 ep, .int .i64 pt, .int .u64 pid, .bool co, .bool dd, .int .i64 rk, .int .i64 rt, .int .i64 ri, .int .u64 rp, .int .i64 re, .slice ra rn rc, .bool rco] 27)
  have hl0 : w.heap.size < (w.alloc (.cells #[.int .i64 kd, .int .i64 n, .int .i64 inc, .int .i64 ep, .int .i64 pt, .int .u64 pid, .bool co, .bool dd, .int .i64 rk, .int .i64 rt, .int .i64 ri, .int .u64 rp, .int .i64 re, .slice ra rn rc, .bool rco] 27)).heap.size := by simp
  go_enter Try.func3, Try.ntmps3
  go_upto_region 2 with fail
  generalize w.alloc (.cells #[.int .i64 kd, .int .i64 n, .int .i64 inc, .int .i64 ep, .int .i64 pt, .int .u64 pid, .bool co, .bool dd, .int .i64 rk, .int .i64 rt, .int .i64 ri, .int .u64 rp, .int .i64 re, .slice ra rn rc, .bool rco] 27) = V0 at *
  obtain ⟨b0, hb0⟩ : ∃ y, w.heap.size = y := ⟨_, rfl⟩
  rw [hb0] at hob hl0
  try rw [hb0]
  have BV : Hid (Below w.heap.size w V0) := BA
  clear BA hb0
  have cb0_0 : V0.cell? ⟨b0, 0, none⟩ = some (.int .i64 kd) := cell_of hob 0
  have cb0_1 : V0.cell? ⟨b0, 1, none⟩ = some (.int .i64 n) := cell_of hob 1
  have cb0_2 : V0.cell? ⟨b0, 2, none⟩ = some (.int .i64 inc) := cell_of hob 2
  have cb0_3 : V0.cell? ⟨b0, 3, none⟩ = some (.int .i64 ep) := cell_of hob 3
  have cb0_4 : V0.cell? ⟨b0, 4, none⟩ = some (.int .i64 pt) := cell_of hob 4
  have cb0_5 : V0.cell? ⟨b0, 5, none⟩ = some (.int .u64 pid) := cell_of hob 5
  have cb0_6 : V0.cell? ⟨b0, 6, none⟩ = some (.bool co) := cell_of hob 6
  have cb0_7 : V0.cell? ⟨b0, 7, none⟩ = some (.bool dd) := cell_of hob 7
  have cb0_8 : V0.cell? ⟨b0, 8, none⟩ = some (.int .i64 rk) := cell_of hob 8
  have cb0_9 : V0.cell? ⟨b0, 9, none⟩ = some (.int .i64 rt) := cell_of hob 9
  have cb0_10 : V0.cell? ⟨b0, 10, none⟩ = some (.int .i64 ri) := cell_of hob 10
  have cb0_11 : V0.cell? ⟨b0, 11, none⟩ = some (.int .u64 rp) := cell_of hob 11
  have cb0_12 : V0.cell? ⟨b0, 12, none⟩ = some (.int .i64 re) := cell_of hob 12
  have cb0_13 : V0.cell? ⟨b0, 13, none⟩ = some (.slice ra rn rc) := cell_of hob 13
  have cb0_14 : V0.cell? ⟨b0, 14, none⟩ = some (.bool rco) := cell_of hob 14
  clear hob
  have K1 := hide (apply_nil rk rt ri rp re ra rn rc rco V0)
  go_wp2_with fail
  refine (unhide K1).mono ?_
  rintro e w1 ⟨rfl, d1⟩
  clear K1
  have hl0_1 : b0 < w1.heap.size := Nat.lt_of_lt_of_le hl0 d1.size
  have eb0_0 := (d1.cell (p := ⟨b0, 0, none⟩) hl0).trans cb0_0
  have eb0_1 := (d1.cell (p := ⟨b0, 1, none⟩) hl0).trans cb0_1
  have eb0_2 := (d1.cell (p := ⟨b0, 2, none⟩) hl0).trans cb0_2
  have eb0_3 := (d1.cell (p := ⟨b0, 3, none⟩) hl0).trans cb0_3
  have eb0_4 := (d1.cell (p := ⟨b0, 4, none⟩) hl0).trans cb0_4
  have eb0_5 := (d1.cell (p := ⟨b0, 5, none⟩) hl0).trans cb0_5
  have eb0_6 := (d1.cell (p := ⟨b0, 6, none⟩) hl0).trans cb0_6
  have eb0_7 := (d1.cell (p := ⟨b0, 7, none⟩) hl0).trans cb0_7
  have eb0_8 := (d1.cell (p := ⟨b0, 8, none⟩) hl0).trans cb0_8
  have eb0_9 := (d1.cell (p := ⟨b0, 9, none⟩) hl0).trans cb0_9
  have eb0_10 := (d1.cell (p := ⟨b0, 10, none⟩) hl0).trans cb0_10
  have eb0_11 := (d1.cell (p := ⟨b0, 11, none⟩) hl0).trans cb0_11
  have eb0_12 := (d1.cell (p := ⟨b0, 12, none⟩) hl0).trans cb0_12
  have eb0_13 := (d1.cell (p := ⟨b0, 13, none⟩) hl0).trans cb0_13
  have eb0_14 := (d1.cell (p := ⟨b0, 14, none⟩) hl0).trans cb0_14
  have BW : Hid (Below w.heap.size w w1) := (unhide BV).trans (d1.mono (unhide BV).size)
  clear d1 BV cb0_0 cb0_1 cb0_2 cb0_3 cb0_4 cb0_5 cb0_6 cb0_7 cb0_8 cb0_9 cb0_10 cb0_11 cb0_12 cb0_13 cb0_14 hl0
  have cb0_0 := eb0_0
  have cb0_1 := eb0_1
  have cb0_2 := eb0_2
  have cb0_3 := eb0_3
  have cb0_4 := eb0_4
  have cb0_5 := eb0_5
  have cb0_6 := eb0_6
  have cb0_7 := eb0_7
  have cb0_8 := eb0_8
  have cb0_9 := eb0_9
  have cb0_10 := eb0_10
  have cb0_11 := eb0_11
  have cb0_12 := eb0_12
  have cb0_13 := eb0_13
  have cb0_14 := eb0_14
  have hl0 := hl0_1
  have BV := BW
  clear BW eb0_0 eb0_1 eb0_2 eb0_3 eb0_4 eb0_5 eb0_6 eb0_7 eb0_8 eb0_9 eb0_10 eb0_11 eb0_12 eb0_13 eb0_14 hl0_1
  have K2 := hide (init_nil n inc pid w1)
  go_wp2_with fail
  refine (unhide K2).mono ?_
  rintro e w2 ⟨sa2, cp2, rfl, _, _, d2⟩
  clear K2
  simp only [reC, noneD, re0, List.length_nil]
  have hl0_2 : b0 < w2.heap.size := Nat.lt_of_lt_of_le hl0 d2.size
  have eb0_0 := (d2.cell (p := ⟨b0, 0, none⟩) hl0).trans cb0_0
  have eb0_1 := (d2.cell (p := ⟨b0, 1, none⟩) hl0).trans cb0_1
  have eb0_2 := (d2.cell (p := ⟨b0, 2, none⟩) hl0).trans cb0_2
  have eb0_3 := (d2.cell (p := ⟨b0, 3, none⟩) hl0).trans cb0_3
  have eb0_4 := (d2.cell (p := ⟨b0, 4, none⟩) hl0).trans cb0_4
  have eb0_5 := (d2.cell (p := ⟨b0, 5, none⟩) hl0).trans cb0_5
  have eb0_6 := (d2.cell (p := ⟨b0, 6, none⟩) hl0).trans cb0_6
  have eb0_7 := (d2.cell (p := ⟨b0, 7, none⟩) hl0).trans cb0_7
  have eb0_8 := (d2.cell (p := ⟨b0, 8, none⟩) hl0).trans cb0_8
  have eb0_9 := (d2.cell (p := ⟨b0, 9, none⟩) hl0).trans cb0_9
  have eb0_10 := (d2.cell (p := ⟨b0, 10, none⟩) hl0).trans cb0_10
  have eb0_11 := (d2.cell (p := ⟨b0, 11, none⟩) hl0).trans cb0_11
  have eb0_12 := (d2.cell (p := ⟨b0, 12, none⟩) hl0).trans cb0_12
  have eb0_13 := (d2.cell (p := ⟨b0, 13, none⟩) hl0).trans cb0_13
  have eb0_14 := (d2.cell (p := ⟨b0, 14, none⟩) hl0).trans cb0_14
  have BW : Hid (Below w.heap.size w w2) := (unhide BV).trans (d2.mono (unhide BV).size)
  clear d2 BV cb0_0 cb0_1 cb0_2 cb0_3 cb0_4 cb0_5 cb0_6 cb0_7 cb0_8 cb0_9 cb0_10 cb0_11 cb0_12 cb0_13 cb0_14 hl0
  have hn := heap_new w2 (.cells #[.int .i64 0, .int .i64 0, .int .i64 0, .int .u64 0, .int .i64 0, .slice sa2 0 cp2, .bool false] 25)
  have hnl : w2.heap.size < (w2.alloc (.cells #[.int .i64 0, .int .i64 0, .int .i64 0, .int .u64 0, .int .i64 0, .slice sa2 0 cp2, .bool false] 25)).heap.size := by simp
  have da : Below w2.heap.size w2 (w2.alloc (.cells #[.int .i64 0, .int .i64 0, .int .i64 0, .int .u64 0, .int .i64 0, .slice sa2 0 cp2, .bool false] 25)) := (Below.refl _ _).alloc (Nat.le_refl _) _
  have cb0_0 := (da.cell (p := ⟨b0, 0, none⟩) hl0_2).trans eb0_0
  have cb0_1 := (da.cell (p := ⟨b0, 1, none⟩) hl0_2).trans eb0_1
  have cb0_2 := (da.cell (p := ⟨b0, 2, none⟩) hl0_2).trans eb0_2
  have cb0_3 := (da.cell (p := ⟨b0, 3, none⟩) hl0_2).trans eb0_3
  have cb0_4 := (da.cell (p := ⟨b0, 4, none⟩) hl0_2).trans eb0_4
  have cb0_5 := (da.cell (p := ⟨b0, 5, none⟩) hl0_2).trans eb0_5
  have cb0_6 := (da.cell (p := ⟨b0, 6, none⟩) hl0_2).trans eb0_6
  have cb0_7 := (da.cell (p := ⟨b0, 7, none⟩) hl0_2).trans eb0_7
  have cb0_8 := (da.cell (p := ⟨b0, 8, none⟩) hl0_2).trans eb0_8
  have cb0_9 := (da.cell (p := ⟨b0, 9, none⟩) hl0_2).trans eb0_9
  have cb0_10 := (da.cell (p := ⟨b0, 10, none⟩) hl0_2).trans eb0_10
  have cb0_11 := (da.cell (p := ⟨b0, 11, none⟩) hl0_2).trans eb0_11
  have cb0_12 := (da.cell (p := ⟨b0, 12, none⟩) hl0_2).trans eb0_12
  have cb0_13 := (da.cell (p := ⟨b0, 13, none⟩) hl0_2).trans eb0_13
  have cb0_14 := (da.cell (p := ⟨b0, 14, none⟩) hl0_2).trans eb0_14
  have hl0 := Nat.lt_of_lt_of_le hl0_2 da.size
  have BV : Hid (Below w.heap.size w (w2.alloc (.cells #[.int .i64 0, .int .i64 0, .int .i64 0, .int .u64 0, .int .i64 0, .slice sa2 0 cp2, .bool false] 25))) := (unhide BW).alloc (unhide BW).size _
  clear da eb0_0 eb0_1 eb0_2 eb0_3 eb0_4 eb0_5 eb0_6 eb0_7 eb0_8 eb0_9 eb0_10 eb0_11 eb0_12 eb0_13 eb0_14
  go_upto_region 4 with fail
  generalize w2.alloc (.cells #[.int .i64 0, .int .i64 0, .int .i64 0, .int .u64 0, .int .i64 0, .slice sa2 0 cp2, .bool false] 25) = V2 at *
  obtain ⟨b2, hbe⟩ : ∃ y, w2.heap.size = y := ⟨_, rfl⟩
  rw [hbe] at hn hnl
  try rw [hbe]
  have cb2_0 : V2.cell? ⟨b2, 0, none⟩ = some (.int .i64 0) := cell_of hn 0
  have hl2 := hnl
  clear hn hnl hbe BW hl0_2
  have K3 := hide (add_nil n pid ep pt V2)
  go_wp2_with fail
  refine (unhide K3).mono ?_
  rintro e w3 ⟨sa3, cp3, rfl, _, _, d3⟩
  clear K3
  simp only [reC, noneD, re0, List.length_nil]
  have hl0_3 : b0 < w3.heap.size := Nat.lt_of_lt_of_le hl0 d3.size
  have hl2_3 : b2 < w3.heap.size := Nat.lt_of_lt_of_le hl2 d3.size
  have eb0_0 := (d3.cell (p := ⟨b0, 0, none⟩) hl0).trans cb0_0
  have eb0_1 := (d3.cell (p := ⟨b0, 1, none⟩) hl0).trans cb0_1
  have eb0_2 := (d3.cell (p := ⟨b0, 2, none⟩) hl0).trans cb0_2
  have eb0_3 := (d3.cell (p := ⟨b0, 3, none⟩) hl0).trans cb0_3
  have eb0_4 := (d3.cell (p := ⟨b0, 4, none⟩) hl0).trans cb0_4
  have eb0_5 := (d3.cell (p := ⟨b0, 5, none⟩) hl0).trans cb0_5
  have eb0_6 := (d3.cell (p := ⟨b0, 6, none⟩) hl0).trans cb0_6
  have eb0_7 := (d3.cell (p := ⟨b0, 7, none⟩) hl0).trans cb0_7
  have eb0_8 := (d3.cell (p := ⟨b0, 8, none⟩) hl0).trans cb0_8
  have eb0_9 := (d3.cell (p := ⟨b0, 9, none⟩) hl0).trans cb0_9
  have eb0_10 := (d3.cell (p := ⟨b0, 10, none⟩) hl0).trans cb0_10
  have eb0_11 := (d3.cell (p := ⟨b0, 11, none⟩) hl0).trans cb0_11
  have eb0_12 := (d3.cell (p := ⟨b0, 12, none⟩) hl0).trans cb0_12
  have eb0_13 := (d3.cell (p := ⟨b0, 13, none⟩) hl0).trans cb0_13
  have eb0_14 := (d3.cell (p := ⟨b0, 14, none⟩) hl0).trans cb0_14
  have eb2_0 := (d3.cell (p := ⟨b2, 0, none⟩) hl2).trans cb2_0
  have BW : Hid (Below w.heap.size w w3) := (unhide BV).trans (d3.mono (unhide BV).size)
  clear d3 BV cb0_0 cb0_1 cb0_2 cb0_3 cb0_4 cb0_5 cb0_6 cb0_7 cb0_8 cb0_9 cb0_10 cb0_11 cb0_12 cb0_13 cb0_14 cb2_0 hl0 hl2
  have hn := heap_new w3 (.cells #[.int .i64 0, .int .i64 0, .int .i64 0, .int .u64 0, .int .i64 0, .slice sa3 0 cp3, .bool false] 25)
  have hnl : w3.heap.size < (w3.alloc (.cells #[.int .i64 0, .int .i64 0, .int .i64 0, .int .u64 0, .int .i64 0, .slice sa3 0 cp3, .bool false] 25)).heap.size := by simp
  have da : Below w3.heap.size w3 (w3.alloc (.cells #[.int .i64 0, .int .i64 0, .int .i64 0, .int .u64 0, .int .i64 0, .slice sa3 0 cp3, .bool false] 25)) := (Below.refl _ _).alloc (Nat.le_refl _) _
  have cb0_0 := (da.cell (p := ⟨b0, 0, none⟩) hl0_3).trans eb0_0
  have cb0_1 := (da.cell (p := ⟨b0, 1, none⟩) hl0_3).trans eb0_1
  have cb0_2 := (da.cell (p := ⟨b0, 2, none⟩) hl0_3).trans eb0_2
  have cb0_3 := (da.cell (p := ⟨b0, 3, none⟩) hl0_3).trans eb0_3
  have cb0_4 := (da.cell (p := ⟨b0, 4, none⟩) hl0_3).trans eb0_4
  have cb0_5 := (da.cell (p := ⟨b0, 5, none⟩) hl0_3).trans eb0_5
  have cb0_6 := (da.cell (p := ⟨b0, 6, none⟩) hl0_3).trans eb0_6
  have cb0_7 := (da.cell (p := ⟨b0, 7, none⟩) hl0_3).trans eb0_7
  have cb0_8 := (da.cell (p := ⟨b0, 8, none⟩) hl0_3).trans eb0_8
  have cb0_9 := (da.cell (p := ⟨b0, 9, none⟩) hl0_3).trans eb0_9
  have cb0_10 := (da.cell (p := ⟨b0, 10, none⟩) hl0_3).trans eb0_10
  have cb0_11 := (da.cell (p := ⟨b0, 11, none⟩) hl0_3).trans eb0_11
  have cb0_12 := (da.cell (p := ⟨b0, 12, none⟩) hl0_3).trans eb0_12
  have cb0_13 := (da.cell (p := ⟨b0, 13, none⟩) hl0_3).trans eb0_13
  have cb0_14 := (da.cell (p := ⟨b0, 14, none⟩) hl0_3).trans eb0_14
  have cb2_0 := (da.cell (p := ⟨b2, 0, none⟩) hl2_3).trans eb2_0
  have hl0 := Nat.lt_of_lt_of_le hl0_3 da.size
  have hl2 := Nat.lt_of_lt_of_le hl2_3 da.size
  have BV : Hid (Below w.heap.size w (w3.alloc (.cells #[.int .i64 0, .int .i64 0, .int .i64 0, .int .u64 0, .int .i64 0, .slice sa3 0 cp3, .bool false] 25))) := (unhide BW).alloc (unhide BW).size _
  clear da eb0_0 eb0_1 eb0_2 eb0_3 eb0_4 eb0_5 eb0_6 eb0_7 eb0_8 eb0_9 eb0_10 eb0_11 eb0_12 eb0_13 eb0_14 eb2_0
  go_upto_region 5 with fail
  generalize w3.alloc (.cells #[.int .i64 0, .int .i64 0, .int .i64 0, .int .u64 0, .int .i64 0, .slice sa3 0 cp3, .bool false] 25) = V3 at *
  obtain ⟨b3, hbe⟩ : ∃ y, w3.heap.size = y := ⟨_, rfl⟩
  rw [hbe] at hn hnl
  try rw [hbe]
  have cb3_0 : V3.cell? ⟨b3, 0, none⟩ = some (.int .i64 0) := cell_of hn 0
  have hl3 := hnl
  clear hn hnl hbe BW hl0_3 hl2_3
  have K4 := hide (end_nil n pid ep co V3)
  go_wp2_with fail
  refine (unhide K4).mono ?_
  rintro e w4 ⟨sa4, cp4, rfl, _, _, d4⟩
  clear K4
  simp only [reC, noneD, re0, List.length_nil]
  have hl0_4 : b0 < w4.heap.size := Nat.lt_of_lt_of_le hl0 d4.size
  have hl2_4 : b2 < w4.heap.size := Nat.lt_of_lt_of_le hl2 d4.size
  have hl3_4 : b3 < w4.heap.size := Nat.lt_of_lt_of_le hl3 d4.size
  have eb0_0 := (d4.cell (p := ⟨b0, 0, none⟩) hl0).trans cb0_0
  have eb0_1 := (d4.cell (p := ⟨b0, 1, none⟩) hl0).trans cb0_1
  have eb0_2 := (d4.cell (p := ⟨b0, 2, none⟩) hl0).trans cb0_2
  have eb0_3 := (d4.cell (p := ⟨b0, 3, none⟩) hl0).trans cb0_3
  have eb0_4 := (d4.cell (p := ⟨b0, 4, none⟩) hl0).trans cb0_4
  have eb0_5 := (d4.cell (p := ⟨b0, 5, none⟩) hl0).trans cb0_5
  have eb0_6 := (d4.cell (p := ⟨b0, 6, none⟩) hl0).trans cb0_6
  have eb0_7 := (d4.cell (p := ⟨b0, 7, none⟩) hl0).trans cb0_7
  have eb0_8 := (d4.cell (p := ⟨b0, 8, none⟩) hl0).trans cb0_8
  have eb0_9 := (d4.cell (p := ⟨b0, 9, none⟩) hl0).trans cb0_9
  have eb0_10 := (d4.cell (p := ⟨b0, 10, none⟩) hl0).trans cb0_10
  have eb0_11 := (d4.cell (p := ⟨b0, 11, none⟩) hl0).trans cb0_11
  have eb0_12 := (d4.cell (p := ⟨b0, 12, none⟩) hl0).trans cb0_12
  have eb0_13 := (d4.cell (p := ⟨b0, 13, none⟩) hl0).trans cb0_13
  have eb0_14 := (d4.cell (p := ⟨b0, 14, none⟩) hl0).trans cb0_14
  have eb2_0 := (d4.cell (p := ⟨b2, 0, none⟩) hl2).trans cb2_0
  have eb3_0 := (d4.cell (p := ⟨b3, 0, none⟩) hl3).trans cb3_0
  have BW : Hid (Below w.heap.size w w4) := (unhide BV).trans (d4.mono (unhide BV).size)
  clear d4 BV cb0_0 cb0_1 cb0_2 cb0_3 cb0_4 cb0_5 cb0_6 cb0_7 cb0_8 cb0_9 cb0_10 cb0_11 cb0_12 cb0_13 cb0_14 cb2_0 cb3_0 hl0 hl2 hl3
  have hn := heap_new w4 (.cells #[.int .i64 0, .int .i64 0, .int .i64 0, .int .u64 0, .int .i64 0, .slice sa4 0 cp4, .bool false] 25)
  have hnl : w4.heap.size < (w4.alloc (.cells #[.int .i64 0, .int .i64 0, .int .i64 0, .int .u64 0, .int .i64 0, .slice sa4 0 cp4, .bool false] 25)).heap.size := by simp
  have da : Below w4.heap.size w4 (w4.alloc (.cells #[.int .i64 0, .int .i64 0, .int .i64 0, .int .u64 0, .int .i64 0, .slice sa4 0 cp4, .bool false] 25)) := (Below.refl _ _).alloc (Nat.le_refl _) _
  have cb0_0 := (da.cell (p := ⟨b0, 0, none⟩) hl0_4).trans eb0_0
  have cb0_1 := (da.cell (p := ⟨b0, 1, none⟩) hl0_4).trans eb0_1
  have cb0_2 := (da.cell (p := ⟨b0, 2, none⟩) hl0_4).trans eb0_2
  have cb0_3 := (da.cell (p := ⟨b0, 3, none⟩) hl0_4).trans eb0_3
  have cb0_4 := (da.cell (p := ⟨b0, 4, none⟩) hl0_4).trans eb0_4
  have cb0_5 := (da.cell (p := ⟨b0, 5, none⟩) hl0_4).trans eb0_5
  have cb0_6 := (da.cell (p := ⟨b0, 6, none⟩) hl0_4).trans eb0_6
  have cb0_7 := (da.cell (p := ⟨b0, 7, none⟩) hl0_4).trans eb0_7
  have cb0_8 := (da.cell (p := ⟨b0, 8, none⟩) hl0_4).trans eb0_8
  have cb0_9 := (da.cell (p := ⟨b0, 9, none⟩) hl0_4).trans eb0_9
  have cb0_10 := (da.cell (p := ⟨b0, 10, none⟩) hl0_4).trans eb0_10
  have cb0_11 := (da.cell (p := ⟨b0, 11, none⟩) hl0_4).trans eb0_11
  have cb0_12 := (da.cell (p := ⟨b0, 12, none⟩) hl0_4).trans eb0_12
  have cb0_13 := (da.cell (p := ⟨b0, 13, none⟩) hl0_4).trans eb0_13
  have cb0_14 := (da.cell (p := ⟨b0, 14, none⟩) hl0_4).trans eb0_14
  have cb2_0 := (da.cell (p := ⟨b2, 0, none⟩) hl2_4).trans eb2_0
  have cb3_0 := (da.cell (p := ⟨b3, 0, none⟩) hl3_4).trans eb3_0
  have hl0 := Nat.lt_of_lt_of_le hl0_4 da.size
  have hl2 := Nat.lt_of_lt_of_le hl2_4 da.size
  have hl3 := Nat.lt_of_lt_of_le hl3_4 da.size
  have BV : Hid (Below w.heap.size w (w4.alloc (.cells #[.int .i64 0, .int .i64 0, .int .i64 0, .int .u64 0, .int .i64 0, .slice sa4 0 cp4, .bool false] 25))) := (unhide BW).alloc (unhide BW).size _
  clear da eb0_0 eb0_1 eb0_2 eb0_3 eb0_4 eb0_5 eb0_6 eb0_7 eb0_8 eb0_9 eb0_10 eb0_11 eb0_12 eb0_13 eb0_14 eb2_0 eb3_0
  go_upto_region 6 with fail
  generalize w4.alloc (.cells #[.int .i64 0, .int .i64 0, .int .i64 0, .int .u64 0, .int .i64 0, .slice sa4 0 cp4, .bool false] 25) = V4 at *
  obtain ⟨b4, hbe⟩ : ∃ y, w4.heap.size = y := ⟨_, rfl⟩
  rw [hbe] at hn hnl
  try rw [hbe]
  have cb4_0 : V4.cell? ⟨b4, 0, none⟩ = some (.int .i64 0) := cell_of hn 0
  have hl4 := hnl
  clear hn hnl hbe BW hl0_4 hl2_4 hl3_4
  have K5 := hide (tx_nil n V4)
  go_wp2_with fail
  refine (unhide K5).mono ?_
  rintro e w5 ⟨rfl, d5⟩
  clear K5
  have hl0_5 : b0 < w5.heap.size := Nat.lt_of_lt_of_le hl0 d5.size
  have hl2_5 : b2 < w5.heap.size := Nat.lt_of_lt_of_le hl2 d5.size
  have hl3_5 : b3 < w5.heap.size := Nat.lt_of_lt_of_le hl3 d5.size
  have hl4_5 : b4 < w5.heap.size := Nat.lt_of_lt_of_le hl4 d5.size
  have eb0_0 := (d5.cell (p := ⟨b0, 0, none⟩) hl0).trans cb0_0
  have eb0_1 := (d5.cell (p := ⟨b0, 1, none⟩) hl0).trans cb0_1
  have eb0_2 := (d5.cell (p := ⟨b0, 2, none⟩) hl0).trans cb0_2
  have eb0_3 := (d5.cell (p := ⟨b0, 3, none⟩) hl0).trans cb0_3
  have eb0_4 := (d5.cell (p := ⟨b0, 4, none⟩) hl0).trans cb0_4
  have eb0_5 := (d5.cell (p := ⟨b0, 5, none⟩) hl0).trans cb0_5
  have eb0_6 := (d5.cell (p := ⟨b0, 6, none⟩) hl0).trans cb0_6
  have eb0_7 := (d5.cell (p := ⟨b0, 7, none⟩) hl0).trans cb0_7
  have eb0_8 := (d5.cell (p := ⟨b0, 8, none⟩) hl0).trans cb0_8
  have eb0_9 := (d5.cell (p := ⟨b0, 9, none⟩) hl0).trans cb0_9
  have eb0_10 := (d5.cell (p := ⟨b0, 10, none⟩) hl0).trans cb0_10
  have eb0_11 := (d5.cell (p := ⟨b0, 11, none⟩) hl0).trans cb0_11
  have eb0_12 := (d5.cell (p := ⟨b0, 12, none⟩) hl0).trans cb0_12
  have eb0_13 := (d5.cell (p := ⟨b0, 13, none⟩) hl0).trans cb0_13
  have eb0_14 := (d5.cell (p := ⟨b0, 14, none⟩) hl0).trans cb0_14
  have eb2_0 := (d5.cell (p := ⟨b2, 0, none⟩) hl2).trans cb2_0
  have eb3_0 := (d5.cell (p := ⟨b3, 0, none⟩) hl3).trans cb3_0
  have eb4_0 := (d5.cell (p := ⟨b4, 0, none⟩) hl4).trans cb4_0
  have BW : Hid (Below w.heap.size w w5) := (unhide BV).trans (d5.mono (unhide BV).size)
  clear d5 BV cb0_0 cb0_1 cb0_2 cb0_3 cb0_4 cb0_5 cb0_6 cb0_7 cb0_8 cb0_9 cb0_10 cb0_11 cb0_12 cb0_13 cb0_14 cb2_0 cb3_0 cb4_0 hl0 hl2 hl3 hl4
  have hn := heap_new w5 (.cells #[.int .i64 0, .int .i64 0, .int .u64 0, .int .i64 0, .slice none 0 0, .int .i64 0, .int .u64 0, .bool false] 36)
  have hnl : w5.heap.size < (w5.alloc (.cells #[.int .i64 0, .int .i64 0, .int .u64 0, .int .i64 0, .slice none 0 0, .int .i64 0, .int .u64 0, .bool false] 36)).heap.size := by simp
  have da : Below w5.heap.size w5 (w5.alloc (.cells #[.int .i64 0, .int .i64 0, .int .u64 0, .int .i64 0, .slice none 0 0, .int .i64 0, .int .u64 0, .bool false] 36)) := (Below.refl _ _).alloc (Nat.le_refl _) _
  have cb0_0 := (da.cell (p := ⟨b0, 0, none⟩) hl0_5).trans eb0_0
  have cb0_1 := (da.cell (p := ⟨b0, 1, none⟩) hl0_5).trans eb0_1
  have cb0_2 := (da.cell (p := ⟨b0, 2, none⟩) hl0_5).trans eb0_2
  have cb0_3 := (da.cell (p := ⟨b0, 3, none⟩) hl0_5).trans eb0_3
  have cb0_4 := (da.cell (p := ⟨b0, 4, none⟩) hl0_5).trans eb0_4
  have cb0_5 := (da.cell (p := ⟨b0, 5, none⟩) hl0_5).trans eb0_5
  have cb0_6 := (da.cell (p := ⟨b0, 6, none⟩) hl0_5).trans eb0_6
  have cb0_7 := (da.cell (p := ⟨b0, 7, none⟩) hl0_5).trans eb0_7
  have cb0_8 := (da.cell (p := ⟨b0, 8, none⟩) hl0_5).trans eb0_8
  have cb0_9 := (da.cell (p := ⟨b0, 9, none⟩) hl0_5).trans eb0_9
  have cb0_10 := (da.cell (p := ⟨b0, 10, none⟩) hl0_5).trans eb0_10
  have cb0_11 := (da.cell (p := ⟨b0, 11, none⟩) hl0_5).trans eb0_11
  have cb0_12 := (da.cell (p := ⟨b0, 12, none⟩) hl0_5).trans eb0_12
  have cb0_13 := (da.cell (p := ⟨b0, 13, none⟩) hl0_5).trans eb0_13
  have cb0_14 := (da.cell (p := ⟨b0, 14, none⟩) hl0_5).trans eb0_14
  have cb2_0 := (da.cell (p := ⟨b2, 0, none⟩) hl2_5).trans eb2_0
  have cb3_0 := (da.cell (p := ⟨b3, 0, none⟩) hl3_5).trans eb3_0
  have cb4_0 := (da.cell (p := ⟨b4, 0, none⟩) hl4_5).trans eb4_0
  have hl0 := Nat.lt_of_lt_of_le hl0_5 da.size
  have hl2 := Nat.lt_of_lt_of_le hl2_5 da.size
  have hl3 := Nat.lt_of_lt_of_le hl3_5 da.size
  have hl4 := Nat.lt_of_lt_of_le hl4_5 da.size
  have BV : Hid (Below w.heap.size w (w5.alloc (.cells #[.int .i64 0, .int .i64 0, .int .u64 0, .int .i64 0, .slice none 0 0, .int .i64 0, .int .u64 0, .bool false] 36))) := (unhide BW).alloc (unhide BW).size _
  clear da eb0_0 eb0_1 eb0_2 eb0_3 eb0_4 eb0_5 eb0_6 eb0_7 eb0_8 eb0_9 eb0_10 eb0_11 eb0_12 eb0_13 eb0_14 eb2_0 eb3_0 eb4_0
  go_upto_region 7 with fail
  generalize w5.alloc (.cells #[.int .i64 0, .int .i64 0, .int .u64 0, .int .i64 0, .slice none 0 0, .int .i64 0, .int .u64 0, .bool false] 36) = V5 at *
  obtain ⟨b5, hbe⟩ : ∃ y, w5.heap.size = y := ⟨_, rfl⟩
  rw [hbe] at hn hnl
  try rw [hbe]
  have cb5_0 : V5.cell? ⟨b5, 0, none⟩ = some (.int .i64 0) := cell_of hn 0
  have cb5_3 : V5.cell? ⟨b5, 3, none⟩ = some (.int .i64 0) := cell_of hn 3
  have cb5_4 : V5.cell? ⟨b5, 4, none⟩ = some (.slice none 0 0) := cell_of hn 4
  have hl5 := hnl
  clear hn hnl hbe BW hl0_5 hl2_5 hl3_5 hl4_5
  have K6 := hide (tawake_any V5)
  go_wp2_with fail
  refine (unhide K6).mono ?_
  rintro e w6 ⟨rfl, d6⟩
  clear K6
  have hl0_6 : b0 < w6.heap.size := Nat.lt_of_lt_of_le hl0 d6.size
  have hl2_6 : b2 < w6.heap.size := Nat.lt_of_lt_of_le hl2 d6.size
  have hl3_6 : b3 < w6.heap.size := Nat.lt_of_lt_of_le hl3 d6.size
  have hl4_6 : b4 < w6.heap.size := Nat.lt_of_lt_of_le hl4 d6.size
  have hl5_6 : b5 < w6.heap.size := Nat.lt_of_lt_of_le hl5 d6.size
  have eb0_0 := (d6.cell (p := ⟨b0, 0, none⟩) hl0).trans cb0_0
  have eb0_1 := (d6.cell (p := ⟨b0, 1, none⟩) hl0).trans cb0_1
  have eb0_2 := (d6.cell (p := ⟨b0, 2, none⟩) hl0).trans cb0_2
  have eb0_3 := (d6.cell (p := ⟨b0, 3, none⟩) hl0).trans cb0_3
  have eb0_4 := (d6.cell (p := ⟨b0, 4, none⟩) hl0).trans cb0_4
  have eb0_5 := (d6.cell (p := ⟨b0, 5, none⟩) hl0).trans cb0_5
  have eb0_6 := (d6.cell (p := ⟨b0, 6, none⟩) hl0).trans cb0_6
  have eb0_7 := (d6.cell (p := ⟨b0, 7, none⟩) hl0).trans cb0_7
  have eb0_8 := (d6.cell (p := ⟨b0, 8, none⟩) hl0).trans cb0_8
  have eb0_9 := (d6.cell (p := ⟨b0, 9, none⟩) hl0).trans cb0_9
  have eb0_10 := (d6.cell (p := ⟨b0, 10, none⟩) hl0).trans cb0_10
  have eb0_11 := (d6.cell (p := ⟨b0, 11, none⟩) hl0).trans cb0_11
  have eb0_12 := (d6.cell (p := ⟨b0, 12, none⟩) hl0).trans cb0_12
  have eb0_13 := (d6.cell (p := ⟨b0, 13, none⟩) hl0).trans cb0_13
  have eb0_14 := (d6.cell (p := ⟨b0, 14, none⟩) hl0).trans cb0_14
  have eb2_0 := (d6.cell (p := ⟨b2, 0, none⟩) hl2).trans cb2_0
  have eb3_0 := (d6.cell (p := ⟨b3, 0, none⟩) hl3).trans cb3_0
  have eb4_0 := (d6.cell (p := ⟨b4, 0, none⟩) hl4).trans cb4_0
  have eb5_0 := (d6.cell (p := ⟨b5, 0, none⟩) hl5).trans cb5_0
  have eb5_3 := (d6.cell (p := ⟨b5, 3, none⟩) hl5).trans cb5_3
  have eb5_4 := (d6.cell (p := ⟨b5, 4, none⟩) hl5).trans cb5_4
  have BW : Hid (Below w.heap.size w w6) := (unhide BV).trans (d6.mono (unhide BV).size)
  clear d6 BV cb0_0 cb0_1 cb0_2 cb0_3 cb0_4 cb0_5 cb0_6 cb0_7 cb0_8 cb0_9 cb0_10 cb0_11 cb0_12 cb0_13 cb0_14 cb2_0 cb3_0 cb4_0 cb5_0 cb5_3 cb5_4 hl0 hl2 hl3 hl4 hl5
  have cb0_0 := eb0_0
  have cb0_1 := eb0_1
  have cb0_2 := eb0_2
  have cb0_3 := eb0_3
  have cb0_4 := eb0_4
  have cb0_5 := eb0_5
  have cb0_6 := eb0_6
  have cb0_7 := eb0_7
  have cb0_8 := eb0_8
  have cb0_9 := eb0_9
  have cb0_10 := eb0_10
  have cb0_11 := eb0_11
  have cb0_12 := eb0_12
  have cb0_13 := eb0_13
  have cb0_14 := eb0_14
  have cb2_0 := eb2_0
  have cb3_0 := eb3_0
  have cb4_0 := eb4_0
  have cb5_0 := eb5_0
  have cb5_3 := eb5_3
  have cb5_4 := eb5_4
  have hl0 := hl0_6
  have hl2 := hl2_6
  have hl3 := hl3_6
  have hl4 := hl4_6
  have hl5 := hl5_6
  have BV := BW
  clear BW eb0_0 eb0_1 eb0_2 eb0_3 eb0_4 eb0_5 eb0_6 eb0_7 eb0_8 eb0_9 eb0_10 eb0_11 eb0_12 eb0_13 eb0_14 eb2_0 eb3_0 eb4_0 eb5_0 eb5_3 eb5_4 hl0_6 hl2_6 hl3_6 hl4_6 hl5_6
  have KN := hide (names_nil w6)
  clear cb0_0 cb0_1 cb0_2 cb0_3 cb0_4 cb0_5 cb0_6 cb0_7 cb0_8 cb0_9 cb0_10 cb0_11 cb0_12 cb0_13 cb0_14
  go_wp2_with (go_at_call 10; refine (unhide KN).mono ?_; rintro e w7 ⟨rfl, rfl⟩)
  go_returns
  exact ⟨rfl, unhide BV⟩
end Go.Proofs.Ytijfjhafjblefab
