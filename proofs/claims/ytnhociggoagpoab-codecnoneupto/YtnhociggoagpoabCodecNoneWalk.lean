/-
  CodecNone walked: it answers true. Conditions: the Op has at most 1048576 bytes and numbers.
-/
import Derived.Test.YtnhociggoagpoabOps
namespace Go.Proofs.Ytnhociggoagpoab
open Go.RowKit
set_option linter.unusedVariables false

theorem nstop (w : World) : Calls Try.prog 46 #[.pointer none] w fun e w' => e = .returned (.bool true) ∧ w' = w := by
  go_enter Try.func46, Try.ntmps46
  go_wp2
  go_returns
  exact ⟨rfl, rfl⟩
theorem nuint (w : World) : Calls Try.prog 14 #[.pointer none] w fun e w' => e = .returned (.int .u64 0) ∧ w' = w := by
  go_enter Try.func14, Try.ntmps14
  go_wp2_with fail
  refine (nstop w).mono ?_
  rintro e w' ⟨rfl, rfl⟩
  go_wp2
  go_returns
  exact ⟨rfl, rfl⟩
theorem nint (w : World) : Calls Try.prog 15 #[.pointer none] w fun e w' => e = .returned (.int .i64 0) ∧ w' = w := by
  have hz := rz 0 (by omega)
  go_enter Try.func15, Try.ntmps15
  go_wp2_with fail
  refine (nuint w).mono ?_
  rintro e w' ⟨rfl, rfl⟩
  have b1 : bits BinOp.and IntKind.u64 0 1 = 0 := by decide
  have b2 : bits BinOp.xor IntKind.i64 0 0 = 0 := by decide
  clear hz
  go_wp2
  go_returns
  exact ⟨rfl, rfl⟩
theorem nflag (w : World) : Calls Try.prog 16 #[.pointer none] w fun e w' => e = .returned (.bool false) ∧ w' = w := by
  go_enter Try.func16, Try.ntmps16
  go_wp2_with fail
  refine (nuint w).mono ?_
  rintro e w' ⟨rfl, rfl⟩
  go_wp2
  go_returns
  exact ⟨rfl, rfl⟩
theorem ntake (w : World) (k : Int) : Calls Try.prog 48 #[.pointer none, .int .i64 k] w fun e w' => e = .returned (.slice none 0 0) ∧ w' = w := by
  go_enter Try.func48, Try.ntmps48
  go_wp2_with fail
  refine (nstop w).mono ?_
  rintro e w' ⟨rfl, rfl⟩
  go_wp2
  go_returns
  exact ⟨rfl, rfl⟩
theorem ncount (w : World) : Calls Try.prog 49 #[.pointer none] w fun e w' => e = .returned (.int .i64 0) ∧ w' = w := by
  go_enter Try.func49, Try.ntmps49
  go_wp2_with fail
  refine (nuint w).mono ?_
  rintro e w' ⟨rfl, rfl⟩
  go_wp2
  go_returns
  exact ⟨rfl, rfl⟩
theorem nfixed (w : World) : Calls Try.prog 17 #[.pointer none] w fun e w' => e = .returned (.int .u32 0) ∧ w' = w := by
  go_enter Try.func17, Try.ntmps17
  go_wp2_with fail
  refine (ntake w 4).mono ?_
  rintro e w' ⟨rfl, rfl⟩
  go_wp2
  go_returns
  exact ⟨rfl, rfl⟩
theorem nbytes (w : World) : Calls Try.prog 18 #[.pointer none] w fun e w' => ∃ v, e = .returned v ∧ Row w' v [] ∧ Below w.heap.size w w' := by
  go_enter Try.func18, Try.ntmps18
  go_wp2_with fail
  refine (ncount w).mono ?_
  rintro e w' ⟨rfl, rfl⟩
  go_wp2_with fail
  refine (ntake _ 0).mono ?_
  rintro e w' ⟨rfl, rfl⟩
  have CC := hide (clone_any none [] 0 w' (fun i hi => by cases hi) (fun _ => rfl) (by simp))
  go_wp2_with fail
  refine (unhide CC).mono ?_
  rintro e w3 ⟨v, rfl, r3, n3, b3⟩
  have F := hide (And.intro r3 b3)
  clear r3 n3 b3 CC
  go_wp2
  go_returns
  exact ⟨_, rfl, unhide F⟩
set_option maxRecDepth 100000 in
theorem nints (w : World) : Calls Try.prog 19 #[.pointer none] w fun e w' => e = .returned (.slice none 0 0) ∧ w' = w := by
  go_enter Try.func19, Try.ntmps19
  go_wp2_with fail
  refine (ncount w).mono ?_
  rintro e w' ⟨rfl, rfl⟩
  go_wp2_with fail
  go_loop [3, 7] (fun l i => l = .slice none 0 0 ∧ i = .int .i64 0) (fun _ _ => 0)
  case atStart => exact ⟨rfl, rfl⟩
  case round =>
    obtain ⟨rfl, rfl⟩ := hrel
    go_wp2
    go_returns
    exact ⟨rfl, rfl⟩
theorem nend (w : World) : Calls Try.prog 13 #[.pointer none] w fun e w' => e = .returned (.int .i64 5) ∧ w' = w := by
  go_enter Try.func13, Try.ntmps13
  go_wp2_with fail
  refine (state_nil w).mono ?_
  rintro e w' ⟨rfl, rfl⟩
  go_wp2
  go_returns
  exact ⟨rfl, rfl⟩

set_option maxRecDepth 100000 in
set_option maxHeartbeats 2000000 in
theorem codecNone_walk (o : OpIs) (w : World) (hin : OpIn w o.o o.aB o.cB o.aL o.cL) (hb : o.o.bs.length ≤ 1048576) (hl : o.o.ls.length ≤ 1048576) :
    Calls Try.prog 3 #[.agg #[.int .i64 o.o.kind, .int .u64 (o.o.n : Nat), .int .i64 o.o.i, .bool o.o.is, .slice o.aB o.o.bs.length o.cB, .slice o.aL o.o.ls.length o.cL]] w fun e w' => e = .returned (.bool true) ∧ Below w.heap.size w w' := by
  have hb1 : Below w.heap.size w (w.alloc (.cells #[.int .i64 o.o.kind, .int .u64 (o.o.n : Nat), .int .i64 o.o.i, .bool o.o.is, .slice o.aB o.o.bs.length o.cB, .slice o.aL o.o.ls.length o.cL] 26)) := (Below.refl _ _).alloc (Nat.le_refl _) _
  have D1 : Duo w (w.alloc (.cells #[.int .i64 o.o.kind, .int .u64 (o.o.n : Nat), .int .i64 o.o.i, .bool o.o.is, .slice o.aB o.o.bs.length o.cB, .slice o.aL o.o.ls.length o.cL] 26)) (.pointer none) (.slice none 0 0) [] false (.slice none 0 0) [] :=
    ⟨.inl ⟨rfl, rfl⟩, Row.nil _, hb1, (fun k hk => by rcases hk with e | e; cases e; simp [Value.ownBlock] at e), New.nil _, fun k hk => by simp [Value.ownBlock] at hk⟩
  have LY := lay3_any (o := o.o) (aB := o.aB) (cB := o.cB) (aL := o.aL) (cL := o.cL) D1 hin (by simp; omega) (by simp; omega)
  unfold opv at LY
  have LYH := hide LY
  clear D1 hb1 LY hin
  go_enter Try.func3, Try.ntmps3
  go_wp2_with fail
  refine (unhide LYH).mono ?_
  rintro e w2 ⟨v2, va2, rfl, d2, _⟩
  have B2 := hide d2.below
  clear d2 LYH
  go_wp2_with fail
  refine (out_nil _).mono ?_
  rintro e w3 ⟨rfl, rfl⟩
  go_wp2_with fail
  refine (state_nil _).mono ?_
  rintro e w4 ⟨rfl, rfl⟩
  go_wp2_with fail
  refine (awake3_any _).mono ?_
  rintro e w5 ⟨rfl, b5⟩
  have B5 := hide ((unhide B2).trans (b5.mono (unhide B2).size))
  clear b5 B2
  go_wp2_with fail
  refine (nend _).mono ?_
  rintro e w6 ⟨rfl, rfl⟩
  go_wp2_with fail
  refine (nuint _).mono ?_
  rintro e w6 ⟨rfl, rfl⟩
  go_wp2_with fail
  refine (nint _).mono ?_
  rintro e w6 ⟨rfl, rfl⟩
  go_wp2_with fail
  refine (nflag _).mono ?_
  rintro e w6 ⟨rfl, rfl⟩
  go_wp2_with fail
  refine (nfixed _).mono ?_
  rintro e w6 ⟨rfl, rfl⟩
  go_wp2_with fail
  refine (nbytes _).mono ?_
  rintro e w7 ⟨v7, rfl, r7, b7⟩
  obtain ⟨x7, y7, rfl, _⟩ := r7.parts
  have B7 := hide ((unhide B5).trans (b7.mono (unhide B5).size))
  clear r7 b7 B5
  go_wp2_with fail
  refine (nints _).mono ?_
  rintro e w8 ⟨rfl, rfl⟩
  go_wp2
  go_returns
  exact ⟨rfl, unhide B7⟩
end Go.Proofs.Ytnhociggoagpoab
