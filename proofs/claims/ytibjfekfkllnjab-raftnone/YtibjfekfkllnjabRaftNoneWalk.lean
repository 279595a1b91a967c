/-
  RaftNone's walk: what there isn't does nothing. No conditions.
-/
import Derived.Test.YtibjfekfkllnjabRtj
namespace Go.Proofs.Ytibjfekfkllnjab
open Go.RowKit Go.Maps
set_option linter.unusedVariables false

theorem tickR_nil (d : Int) (w : World) : Calls Try.prog 4 #[.pointer none, .int .u64 d] w fun e w' => e = .returned (.tuple #[]) ∧ w' = w := by
  go_enter Try.func4, Try.ntmps4
  go_wp2
  go_returns
  exact ⟨rfl, rfl⟩
/-- A message's cells. -/
structure Mg where
  kd : Int
  fr : Int
  tt : Int
  tm : Int
  ix : Int
  lt : Int
  co : Int
  rj : Bool
  ea : Option Addr
  en : Nat
  ec : Nat
  sa : Option Addr
  sl : Nat
  sc : Nat
abbrev mgL (m : Mg) : List Value := [.int .i64 m.kd, .int .i64 m.fr, .int .i64 m.tt, .int .i64 m.tm, .int .i64 m.ix, .int .i64 m.lt, .int .i64 m.co, .bool m.rj, .slice m.ea m.en m.ec, .slice m.sa m.sl m.sc]
set_option maxRecDepth 100000 in
theorem stepR_nil (m : Mg) (w : World) : Calls Try.prog 5 #[.pointer none, .agg (mgL m).toArray] w fun e w' => e = .returned (.tuple #[]) ∧ Below w.heap.size w w' := by
  obtain ⟨kd, fr, tt, tm, ix, lt, co, rj, ea, en, ec, sa, sl, sc⟩ := m
  unfold mgL
  dsimp only
  go_enter Try.func5, Try.ntmps5
  go_wp2_with fail
  go_quiet (fail)
  go_wp2
  go_returns
  exact ⟨rfl, below_drewN3 ((Below.refl _ _).alloc (Nat.le_refl _) _) _⟩
set_option maxRecDepth 100000 in
set_option maxHeartbeats 1000000 in
theorem takeR_nil (w : World) : Calls Try.prog 6 #[.pointer none] w fun e w' => e = .returned (.agg #[.bool false, .int .i64 0, .int .i64 0, .int .i64 0, .int .i64 0, .slice none 0 0, .slice none 0 0, .slice none 0 0, .bool false, .slice none 0 0, .slice none 0 0]) ∧ Below w.heap.size w w' := by
  have B : Hid (Below w.heap.size w ((w.alloc (.cells #[.bool false, .int .i64 0, .int .i64 0, .int .i64 0, .int .i64 0, .slice none 0 0, .slice none 0 0, .slice none 0 0, .bool false, .slice none 0 0, .slice none 0 0] 37)).alloc (.cells #[.bool false, .int .i64 0, .int .i64 0, .int .i64 0, .int .i64 0, .slice none 0 0, .slice none 0 0, .slice none 0 0, .bool false, .slice none 0 0, .slice none 0 0] 37))) := ((Below.refl _ _).alloc (Nat.le_refl _) _).alloc (by simp) _
  have G : ((w.alloc (.cells #[.bool false, .int .i64 0, .int .i64 0, .int .i64 0, .int .i64 0, .slice none 0 0, .slice none 0 0, .slice none 0 0, .bool false, .slice none 0 0, .slice none 0 0] 37)).alloc (.cells #[.bool false, .int .i64 0, .int .i64 0, .int .i64 0, .int .i64 0, .slice none 0 0, .slice none 0 0, .slice none 0 0, .bool false, .slice none 0 0, .slice none 0 0] 37)).heap[w.heap.size]? = some (.cells #[.bool false, .int .i64 0, .int .i64 0, .int .i64 0, .int .i64 0, .slice none 0 0, .slice none 0 0, .slice none 0 0, .bool false, .slice none 0 0, .slice none 0 0] 37) := heap_old _ (heap_new _ _)
  have GG := hide G
  clear G
  go_enter Try.func6, Try.ntmps6
  go_wp2
  generalize (w.alloc (.cells #[.bool false, .int .i64 0, .int .i64 0, .int .i64 0, .int .i64 0, .slice none 0 0, .slice none 0 0, .slice none 0 0, .bool false, .slice none 0 0, .slice none 0 0] 37)).alloc (.cells #[.bool false, .int .i64 0, .int .i64 0, .int .i64 0, .int .i64 0, .slice none 0 0, .slice none 0 0, .slice none 0 0, .bool false, .slice none 0 0, .slice none 0 0] 37) = V at *
  have v0 := cell_of (unhide GG) 0
  have v1 := cell_of (unhide GG) 1
  have v2 := cell_of (unhide GG) 2
  have v3 := cell_of (unhide GG) 3
  have v4 := cell_of (unhide GG) 4
  have v5 := cell_of (unhide GG) 5
  have v6 := cell_of (unhide GG) 6
  have v7 := cell_of (unhide GG) 7
  have v8 := cell_of (unhide GG) 8
  have v9 := cell_of (unhide GG) 9
  have v10 := cell_of (unhide GG) 10
  simp only [List.getElem?_toArray, List.getElem?_cons_zero, List.getElem?_cons_succ] at v0 v1 v2 v3 v4 v5 v6 v7 v8 v9 v10
  refine bodyPost_ret (by simp [results, Try.results6, go_sem, v0, v1, v2, v3, v4, v5, v6, v7, v8, v9, v10]; try rfl) rfl ?_
  exact ⟨rfl, unhide B⟩
theorem stateR_nil (w : World) : Calls Try.prog 7 #[.pointer none] w fun e w' => e = .returned (.tuple #[.int .i64 0, .int .i64 0, .int .i64 0, .int .i64 0, .int .i64 0]) ∧ w' = w := by
  go_enter Try.func7, Try.ntmps7
  go_wp2
  go_returns
  exact ⟨rfl, rfl⟩
theorem proposeR_nil (v : Value) (w : World) : Calls Try.prog 8 #[.pointer none, v] w fun e w' => e = .returned (.tuple #[.int .i64 0, .int .i64 5]) ∧ w' = w := by
  go_enter Try.func8, Try.ntmps8
  go_wp2
  go_returns
  exact ⟨rfl, rfl⟩
theorem compactR_nil (u v : Value) (w : World) : Calls Try.prog 10 #[.pointer none, u, v] w fun e w' => e = .returned (.int .i64 5) ∧ w' = w := by
  go_enter Try.func10, Try.ntmps10
  go_wp2
  go_returns
  exact ⟨rfl, rfl⟩
/-- An Op's cells. -/
structure Op12 where
  kind : Int
  draw : Int
  nn : Int
  ba : Option Addr
  bl : Nat
  bc : Nat
  m : Mg
abbrev Op12.cells (o : Op12) : List Value := [.int .i64 o.kind, .int .u64 o.draw, .int .i64 o.nn, .slice o.ba o.bl o.bc] ++ mgL o.m
set_option maxRecDepth 100000 in
set_option maxHeartbeats 2000000 in
theorem raftNone_walk (o : Op12) (w : World) : Calls Try.prog 3 #[.agg o.cells.toArray] w fun e w' => e = .returned (.bool true) ∧ Below w.heap.size w w' := by
  obtain ⟨kind, draw, nn, ba, bl, bc, ⟨kd, fr, tt, tm, ix, lt, co, rj, ea, en, ec, sa, sl, sc⟩⟩ := o
  unfold Op12.cells mgL
  simp only [List.cons_append, List.nil_append]
  have BA : Hid (Below w.heap.size w (w.alloc (.cells #[.int .i64 kind, .int .u64 draw, .int .i64 nn, .slice ba bl bc, .int .i64 kd, .int .i64 fr, .int .i64 tt, .int .i64 tm, .int .i64 ix, .int .i64 lt, .int .i64 co, .bool rj, .slice ea en ec, .slice sa sl sc] 28))) := (Below.refl _ _).alloc (Nat.le_refl _) _
  have GA : Hid ((w.alloc (.cells #[.int .i64 kind, .int .u64 draw, .int .i64 nn, .slice ba bl bc, .int .i64 kd, .int .i64 fr, .int .i64 tt, .int .i64 tm, .int .i64 ix, .int .i64 lt, .int .i64 co, .bool rj, .slice ea en ec, .slice sa sl sc] 28)).heap[w.heap.size]? = some (.cells #[.int .i64 kind, .int .u64 draw, .int .i64 nn, .slice ba bl bc, .int .i64 kd, .int .i64 fr, .int .i64 tt, .int .i64 tm, .int .i64 ix, .int .i64 lt, .int .i64 co, .bool rj, .slice ea en ec, .slice sa sl sc] 28)) := heap_new _ _
  have ST : Hid (∀ X, Calls Try.prog 5 #[.pointer none, .agg #[.int .i64 kd, .int .i64 fr, .int .i64 tt, .int .i64 tm, .int .i64 ix, .int .i64 lt, .int .i64 co, .bool rj, .slice ea en ec, .slice sa sl sc]] X fun e w' => e = .returned (.tuple #[]) ∧ Below X.heap.size X w') := fun X => stepR_nil ⟨kd, fr, tt, tm, ix, lt, co, rj, ea, en, ec, sa, sl, sc⟩ X
  go_enter Try.func3, Try.ntmps3
  go_wp2_with fail
  generalize w.alloc (.cells #[.int .i64 kind, .int .u64 draw, .int .i64 nn, .slice ba bl bc, .int .i64 kd, .int .i64 fr, .int .i64 tt, .int .i64 tm, .int .i64 ix, .int .i64 lt, .int .i64 co, .bool rj, .slice ea en ec, .slice sa sl sc] 28) = W at *
  refine (tickR_nil _ W).mono ?_
  rintro e w1 ⟨rfl, rfl⟩
  have c4 : w1.cell? ⟨w.heap.size, 4, none⟩ = some (.int .i64 kd) := cell_of (unhide GA) 4
  have c5 : w1.cell? ⟨w.heap.size, 5, none⟩ = some (.int .i64 fr) := cell_of (unhide GA) 5
  have c6 : w1.cell? ⟨w.heap.size, 6, none⟩ = some (.int .i64 tt) := cell_of (unhide GA) 6
  have c7 : w1.cell? ⟨w.heap.size, 7, none⟩ = some (.int .i64 tm) := cell_of (unhide GA) 7
  have c8 : w1.cell? ⟨w.heap.size, 8, none⟩ = some (.int .i64 ix) := cell_of (unhide GA) 8
  have c9 : w1.cell? ⟨w.heap.size, 9, none⟩ = some (.int .i64 lt) := cell_of (unhide GA) 9
  have c10 : w1.cell? ⟨w.heap.size, 10, none⟩ = some (.int .i64 co) := cell_of (unhide GA) 10
  have c11 : w1.cell? ⟨w.heap.size, 11, none⟩ = some (.bool rj) := cell_of (unhide GA) 11
  have c12 : w1.cell? ⟨w.heap.size, 12, none⟩ = some (.slice ea en ec) := cell_of (unhide GA) 12
  have c13 : w1.cell? ⟨w.heap.size, 13, none⟩ = some (.slice sa sl sc) := cell_of (unhide GA) 13
  go_wp2_with fail
  refine (unhide ST w1).mono ?_
  rintro e w2 ⟨rfl, b2⟩
  have B2 := hide ((unhide BA).trans (b2.mono (unhide BA).size))
  have G2 := hide (below_keep b2 (unhide GA))
  clear c4 c5 c6 c7 c8 c9 c10 c11 c12 c13 BA GA b2 ST
  have TK := hide (takeR_nil w2)
  go_wp2_with fail
  refine (unhide TK).mono ?_
  rintro e w3 ⟨rfl, b3⟩
  have hA3 : Below w3.heap.size w3 (w3.alloc (.cells #[.bool false, .int .i64 0, .int .i64 0, .int .i64 0, .int .i64 0, .slice none 0 0, .slice none 0 0, .slice none 0 0, .bool false, .slice none 0 0, .slice none 0 0] 37)) := (Below.refl _ _).alloc (Nat.le_refl _) _
  have b3' := b3.trans (hA3.mono b3.size)
  have B3 := hide ((unhide B2).trans (b3'.mono (unhide B2).size))
  have G3 := hide (below_keep b3' (unhide G2))
  have R3 : Hid ((w3.alloc (.cells #[.bool false, .int .i64 0, .int .i64 0, .int .i64 0, .int .i64 0, .slice none 0 0, .slice none 0 0, .slice none 0 0, .bool false, .slice none 0 0, .slice none 0 0] 37)).heap[w3.heap.size]? = some (.cells #[.bool false, .int .i64 0, .int .i64 0, .int .i64 0, .int .i64 0, .slice none 0 0, .slice none 0 0, .slice none 0 0, .bool false, .slice none 0 0, .slice none 0 0] 37)) := heap_new _ _
  clear b3 b3' hA3 B2 G2 TK
  go_wp2_with fail
  generalize w3.alloc (.cells #[.bool false, .int .i64 0, .int .i64 0, .int .i64 0, .int .i64 0, .slice none 0 0, .slice none 0 0, .slice none 0 0, .bool false, .slice none 0 0, .slice none 0 0] 37) = W3 at *
  refine (stateR_nil W3).mono ?_
  rintro e w4 ⟨rfl, rfl⟩
  have d3 : w4.cell? ⟨w.heap.size, 3, none⟩ = some (.slice ba bl bc) := cell_of (unhide G3) 3
  go_wp2_with fail
  refine (proposeR_nil _ w4).mono ?_
  rintro e w5 ⟨rfl, rfl⟩
  have AW := hide (awake12_any w5)
  go_wp2_with fail
  refine (unhide AW).mono ?_
  rintro e w6 ⟨rfl, b6⟩
  have B6 := hide ((unhide B3).trans (b6.mono (unhide B3).size))
  have g6 := below_keep b6 (unhide G3)
  have r6 := below_keep b6 (unhide R3)
  have s2 : w6.cell? ⟨w.heap.size, 2, none⟩ = some (.int .i64 nn) := cell_of g6 2
  have s3 : w6.cell? ⟨w.heap.size, 3, none⟩ = some (.slice ba bl bc) := cell_of g6 3
  have r0 : w6.cell? ⟨w3.heap.size, 0, none⟩ = some (.bool false) := cell_of r6 0
  have r7 : w6.cell? ⟨w3.heap.size, 7, none⟩ = some (.slice none 0 0) := cell_of r6 7
  have r8 : w6.cell? ⟨w3.heap.size, 8, none⟩ = some (.bool false) := cell_of r6 8
  have r10 : w6.cell? ⟨w3.heap.size, 10, none⟩ = some (.slice none 0 0) := cell_of r6 10
  clear AW b6 g6 r6 B3 G3 R3 d3
  go_wp2_with fail
  refine (compactR_nil _ _ w6).mono ?_
  rintro e w7 ⟨rfl, rfl⟩
  go_wp2
  go_returns
  exact ⟨rfl, unhide B6⟩
end Go.Proofs.Ytibjfekfkllnjab
