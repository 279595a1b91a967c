/-
  The road of ImageNone. No conditions.
-/
import Derived.Test.YtlildelmeeojlabAw13
namespace Go.Proofs.Ytlildelmeeojlab
open Go.RowKit Go.Maps
set_option linter.unusedVariables false

theorem isNode_nil2 (w : World) (x : Int) : Calls Try.prog 25 #[.pointer none, .int .i64 x] w fun e w' => e = .returned (.bool false) ∧ w' = w := by
  go_enter Try.func25, Try.ntmps25
  go_wp2
  go_ret
  exact ⟨rfl, rfl⟩
theorem isPart_nil2 (w : World) (x : Int) : Calls Try.prog 28 #[.pointer none, .int .i64 x] w fun e w' => e = .returned (.bool false) ∧ w' = w := by
  go_enter Try.func28, Try.ntmps28
  go_wp2
  go_ret
  exact ⟨rfl, rfl⟩
theorem node_nil (w : World) (x : Int) : Calls Try.prog 9 #[.pointer none, .int .i64 x] w fun e w' => e = .returned (.tuple #[.bool false, .int .i64 0, .int .u64 0]) ∧ w' = w := by
  go_enter Try.func9, Try.ntmps9
  go_wp2_with (go_at_call 25; refine (isNode_nil2 _ _).mono ?_; rintro e w1 ⟨rfl, rfl⟩)
  go_returns
  exact ⟨rfl, rfl⟩
theorem part_nil (w : World) (x : Int) : Calls Try.prog 13 #[.pointer none, .int .i64 x] w fun e w' => e = .returned (.tuple #[.agg #[.int .i64 0, .int .i64 0, .int .i64 0, .slice none 0 0, .slice none 0 0, .slice none 0 0], .bool false]) ∧ Below w.heap.size w w' := by
  go_enter Try.func13, Try.ntmps13
  go_wp2_with (go_at_call 28; refine (isPart_nil2 _ _).mono ?_; rintro e w1 ⟨rfl, rfl⟩)
  go_returns
  exact ⟨rfl, (Below.refl _ _).alloc (Nat.le_refl _) _⟩
theorem counts_nil (w : World) : Calls Try.prog 15 #[.pointer none] w fun e w' => e = .returned (.tuple #[.int .i64 0, .int .i64 0, .int .i64 0]) ∧ w' = w := by
  go_enter Try.func15, Try.ntmps15
  go_wp2
  go_returns
  exact ⟨rfl, rfl⟩
theorem pids_nil (w : World) : Calls Try.prog 10 #[.pointer none] w fun e w' => e = .returned (.tuple #[.int .u64 0, .int .u64 0]) ∧ w' = w := by
  go_enter Try.func10, Try.ntmps10
  go_wp2
  go_returns
  exact ⟨rfl, rfl⟩
theorem bytes_nil (w : World) : Calls Try.prog 16 #[.pointer none] w fun e w' => e = .returned (.tuple #[.slice none 0 0, .int .i64 5]) ∧ w' = w := by
  go_enter Try.func16, Try.ntmps16
  go_wp2
  go_returns
  exact ⟨rfl, rfl⟩
theorem apply_nil (w : World) (kd nd pt ep ve : Int) (a : Option Addr) (n k : Nat) : Calls Try.prog 8 #[.pointer none, .agg #[.int .i64 kd, .int .i64 nd, .int .i64 pt, .int .i64 ep, .int .i64 ve, .slice a n k]] w fun e w' => e = .returned (.int .i64 5) ∧ Below w.heap.size w w' := by
  go_enter Try.func8, Try.ntmps8
  go_wp2
  go_returns
  exact ⟨rfl, (Below.refl _ _).alloc (Nat.le_refl _) _⟩
set_option maxHeartbeats 2000000 in
theorem imageNone_walk (w : World) (c : Cm) (x : Int) : Calls Try.prog 5 #[.agg (cmA c), .int .i64 x] w fun e w' => e = .returned (.bool true) ∧ Below w.heap.size w w' := by
  obtain ⟨kd, nd, pt, ep, ve, a, k, l⟩ := c
  unfold cmA
  simp only
  generalize l.length = n
  have b0 := (Below.refl w.heap.size w).alloc (Nat.le_refl _) (.cells #[.int .i64 kd, .int .i64 nd, .int .i64 pt, .int .i64 ep, .int .i64 ve, .slice a n k] 31)
  have HB := hide (box6 w kd nd pt ep ve (.slice a n k) 31)
  have B0 := hide b0
  clear b0
  go_enter Try.func5, Try.ntmps5
  go_upto_region 7 with (first
    | (go_at_call 9; refine (node_nil _ _).mono ?_; rintro e w1 ⟨rfl, rfl⟩)
    | (go_at_call 13; refine (part_nil _ _).mono ?_; rintro e w2 ⟨rfl, b2⟩; have B2 := hide ((unhide B0).trans (b2.mono (unhide B0).size)); have HB2 := hide (below_keep b2 (unhide HB)); clear b2)
    | (go_at_call 15; refine (counts_nil _).mono ?_; rintro e w1 ⟨rfl, rfl⟩)
    | (go_at_call 10; refine (pids_nil _).mono ?_; rintro e w1 ⟨rfl, rfl⟩)
    | (go_at_call 16; refine (bytes_nil _).mono ?_; rintro e w1 ⟨rfl, rfl⟩))
  have b3 := (unhide B2).alloc (unhide B2).size (.cells #[.int .i64 0, .int .i64 0, .int .i64 0, .slice none 0 0, .slice none 0 0, .slice none 0 0] 42)
  have HB3 := hide (heap_old (.cells #[.int .i64 0, .int .i64 0, .int .i64 0, .slice none 0 0, .slice none 0 0, .slice none 0 0] 42) (unhide HB2))
  have B3 := hide b3
  have HP := hide (heap_new w2 (.cells #[.int .i64 0, .int .i64 0, .int .i64 0, .slice none 0 0, .slice none 0 0, .slice none 0 0] 42))
  generalize w2.heap.size = pb at *
  generalize w2.alloc (.cells #[.int .i64 0, .int .i64 0, .int .i64 0, .slice none 0 0, .slice none 0 0, .slice none 0 0] 42) = V at *
  have KA := hide (awake13 V)
  have BV := B3
  clear b3
  have KV : Hid (∀ W, Below V.heap.size V W → Below w.heap.size w W ∧ W.cell? ⟨w.heap.size, 0, none⟩ = some (.int .i64 kd) ∧ W.cell? ⟨w.heap.size, 1, none⟩ = some (.int .i64 nd) ∧ W.cell? ⟨w.heap.size, 2, none⟩ = some (.int .i64 pt) ∧ W.cell? ⟨w.heap.size, 3, none⟩ = some (.int .i64 ep) ∧ W.cell? ⟨w.heap.size, 4, none⟩ = some (.int .i64 ve) ∧ W.cell? ⟨w.heap.size, 5, none⟩ = some (.slice a n k) ∧ W.cell? ⟨pb, 3, none⟩ = some (.slice none 0 0)) := hide (fun W hb => by
    have h1 := below_keep hb (unhide HB3)
    have h2 := below_keep hb (unhide HP)
    exact ⟨(unhide B3).trans (hb.mono (unhide B3).size), cell_of h1 0, cell_of h1 1, cell_of h1 2, cell_of h1 3, cell_of h1 4, cell_of h1 5, cell_of h2 3⟩)
  go_wp2_with (first
    | (go_at_call 7; refine (unhide KA).mono ?_; rintro e w4 ⟨rfl, b4⟩; obtain ⟨q0, q1, q2, q3, q4, q5, q6, q7⟩ := unhide KV w4 b4; have B4 := hide b4; clear q0 b4)
    | (go_at_call 8; refine (apply_nil _ _ _ _ _ _ _ _ _).mono ?_; rintro e w5 ⟨rfl, b5⟩; obtain ⟨q0, _, _, _, _, _, _, r7⟩ := unhide KV w5 ((unhide B4).trans (b5.mono (unhide B4).size)); have B5 := hide q0; clear q0 b5))
  go_returns
  exact ⟨rfl, unhide B5⟩
end Go.Proofs.Ytlildelmeeojlab
