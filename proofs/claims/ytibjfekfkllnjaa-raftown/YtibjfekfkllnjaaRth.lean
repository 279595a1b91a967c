/-
  raft's New. Conditions: what is kept is handed in whole; a log of at most 2^42 - 128 entries.
-/
import Derived.Test.YtibjfekfkllnjaaRtd
namespace Go.Proofs.Ytibjfekfkllnjaa
open Go.RowKit Go.Maps
set_option linter.unusedVariables false

/-- A node that has just begun. -/
abbrev nwC (i n : Int) (g : Hd) (rs : Bool) : Array Value :=
  #[.int .i64 i, .int .i64 n, .int .i64 g.T, .int .i64 g.vo, .int .i64 g.base, .int .i64 g.bt, hdS g, hdL g, .int .i64 0, .int .i64 (-1), .int .i64 0, .int .i64 4, .map none, .int .i64 0, .int .i64 0, .int .i64 0, .int .i64 0, .int .i64 0, .int .i64 0, .int .i64 0, .int .i64 0, .int .i64 0, .int .i64 0, .int .i64 g.base, .int .i64 g.base, .bool false, .bool rs, .slice none 0 0]
def NwPost (w : World) (i n : Int) (h : Hd) (e : Ending) (w' : World) : Prop := ∃ rb g, e = .returned (.tuple #[.pointer (some ⟨rb, 0, none⟩), .int .i64 0]) ∧ w'.heap[rb]? = some (.cells (nwC i n g (decide (0 < h.base))) 77) ∧ w.heap.size ≤ rb ∧ HSame g h ∧ HRow w w' g ∧ Below w.heap.size w w'
set_option maxRecDepth 100000 in
set_option maxHeartbeats 2000000 in
theorem new_ok {w : World} {i n : Int} {h : Hd} (x : HIn w h) (h1 : ¬ n < 1) (h2 : ¬ 5 < n) (h3 : ¬ i < 0) (h4 : ¬ n ≤ i) (h5 : ¬ h.T < 0) (h6 : ¬ h.base < 0) (h7 : ¬ h.vo < -1) (h8 : ¬ n ≤ h.vo) :
    Calls Try.prog 16 #[.int .i64 i, .int .i64 n, hdV h] w fun e w' => NwPost w i n h e w' := by
  obtain ⟨T, vo, base, bt, a, c, l, la, lc, ps⟩ := h
  simp only at h5 h6 h7 h8
  unfold hdV hdS hdL
  dsimp only
  have hA : Below w.heap.size w (w.alloc (.cells #[.int .i64 T, .int .i64 vo, .int .i64 base, .int .i64 bt, .slice a l.length c, .slice la ps.length lc] 52)) := (Below.refl _ _).alloc (Nat.le_refl _) _
  have G : (w.alloc (.cells #[.int .i64 T, .int .i64 vo, .int .i64 base, .int .i64 bt, .slice a l.length c, .slice la ps.length lc] 52)).heap[w.heap.size]? = some (.cells #[.int .i64 T, .int .i64 vo, .int .i64 base, .int .i64 bt, .slice a l.length c, .slice la ps.length lc] 52) := heap_new _ _
  have k0 : (w.alloc (.cells #[.int .i64 T, .int .i64 vo, .int .i64 base, .int .i64 bt, .slice a l.length c, .slice la ps.length lc] 52)).cell? ⟨w.heap.size, 0, none⟩ = some (.int .i64 T) := cell_of G 0
  have k1 : (w.alloc (.cells #[.int .i64 T, .int .i64 vo, .int .i64 base, .int .i64 bt, .slice a l.length c, .slice la ps.length lc] 52)).cell? ⟨w.heap.size, 1, none⟩ = some (.int .i64 vo) := cell_of G 1
  have k2 : (w.alloc (.cells #[.int .i64 T, .int .i64 vo, .int .i64 base, .int .i64 bt, .slice a l.length c, .slice la ps.length lc] 52)).cell? ⟨w.heap.size, 2, none⟩ = some (.int .i64 base) := cell_of G 2
  have k3 : (w.alloc (.cells #[.int .i64 T, .int .i64 vo, .int .i64 base, .int .i64 bt, .slice a l.length c, .slice la ps.length lc] 52)).cell? ⟨w.heap.size, 3, none⟩ = some (.int .i64 bt) := cell_of G 3
  have k4 : (w.alloc (.cells #[.int .i64 T, .int .i64 vo, .int .i64 base, .int .i64 bt, .slice a l.length c, .slice la ps.length lc] 52)).cell? ⟨w.heap.size, 4, none⟩ = some (.slice a l.length c) := cell_of G 4
  have k5 : (w.alloc (.cells #[.int .i64 T, .int .i64 vo, .int .i64 base, .int .i64 bt, .slice a l.length c, .slice la ps.length lc] 52)).cell? ⟨w.heap.size, 5, none⟩ = some (.slice la ps.length lc) := cell_of G 5
  have OH : Hid (∀ X, Below w.heap.size w X → Calls Try.prog 29 #[.agg #[.int .i64 T, .int .i64 vo, .int .i64 base, .int .i64 bt, .slice a l.length c, .slice la ps.length lc]] X fun e w' => OhPost X ⟨T, vo, base, bt, a, c, l, la, lc, ps⟩ e w') := fun X hX => ownHard_any (x.later hX)
  have HA := hide hA
  have GG := hide G
  clear x hA G
  generalize l.length = ln at *
  generalize ps.length = pn at *
  have hbig : Hid (decide (0 < base) = decide (base > 0)) := rfl
  go_enter Try.func16, Try.ntmps16
  go_wp2_with fail
  generalize w.alloc (.cells #[.int .i64 T, .int .i64 vo, .int .i64 base, .int .i64 bt, .slice a ln c, .slice la pn lc] 52) = W at *
  have K6 : Hid (∀ w' : World, w'.heap[w.heap.size]? = W.heap[w.heap.size]? → w'.cell? ⟨w.heap.size, 0, none⟩ = some (.int .i64 T) ∧ w'.cell? ⟨w.heap.size, 1, none⟩ = some (.int .i64 vo) ∧ w'.cell? ⟨w.heap.size, 2, none⟩ = some (.int .i64 base) ∧ w'.cell? ⟨w.heap.size, 3, none⟩ = some (.int .i64 bt) ∧ w'.cell? ⟨w.heap.size, 4, none⟩ = some (.slice a ln c) ∧ w'.cell? ⟨w.heap.size, 5, none⟩ = some (.slice la pn lc)) := fun w' hw => by
    have hw2 := hw.trans (unhide GG)
    exact ⟨cell_of hw2 0, cell_of hw2 1, cell_of hw2 2, cell_of hw2 3, cell_of hw2 4, cell_of hw2 5⟩
  clear k0 k1 k2 k3 k4 k5
  go_region_held3 (fun w' => w'.cell? ⟨w.heap.size, 0, none⟩ = some (.int .i64 T) ∧ w'.cell? ⟨w.heap.size, 1, none⟩ = some (.int .i64 vo) ∧ w'.cell? ⟨w.heap.size, 2, none⟩ = some (.int .i64 base) ∧ w'.cell? ⟨w.heap.size, 3, none⟩ = some (.int .i64 bt) ∧ w'.cell? ⟨w.heap.size, 4, none⟩ = some (.slice a ln c) ∧ w'.cell? ⟨w.heap.size, 5, none⟩ = some (.slice la pn lc)) (first | exact unhide K6 _ rfl | exact unhide S2 | exact unhide S3 _) (first
    | (go_at_call 29; refine (unhide OH W.drew (unhide HA).drew).mono ?_; rintro e w2 ⟨g, rfl, gs, gr, gb⟩; obtain ⟨gT, gvo, gbase, gbt, ga, gc, gl, gla, glc, gps⟩ := g; have S2 := hide (unhide K6 w2 (gb.block w.heap.size (lt_of_heap (unhide GG)))); have S3 : Hid (∀ X, (fun (w' : World) => w'.cell? ⟨w.heap.size, 0, none⟩ = some (.int .i64 T) ∧ w'.cell? ⟨w.heap.size, 1, none⟩ = some (.int .i64 vo) ∧ w'.cell? ⟨w.heap.size, 2, none⟩ = some (.int .i64 base) ∧ w'.cell? ⟨w.heap.size, 3, none⟩ = some (.int .i64 bt) ∧ w'.cell? ⟨w.heap.size, 4, none⟩ = some (.slice a ln c) ∧ w'.cell? ⟨w.heap.size, 5, none⟩ = some (.slice la pn lc)) (w2.alloc X)) := fun X => unhide K6 _ ((Below.heap_alloc _ _ _ (Nat.lt_of_lt_of_le (lt_of_heap (unhide GG)) gb.size)).trans (gb.block w.heap.size (lt_of_heap (unhide GG))))))
  all_goals
    have F : Hid (∀ V, V = w2.alloc (.cells #[.int .i64 i, .int .i64 n, .int .i64 gT, .int .i64 gvo, .int .i64 gbase, .int .i64 gbt, .slice ga gl.length gc, .slice gla gps.length glc, .int .i64 0, .int .i64 (-1), .int .i64 0, .int .i64 4, .map none, .int .i64 0, .int .i64 0, .int .i64 0, .int .i64 0, .int .i64 0, .int .i64 0, .int .i64 0, .int .i64 0, .int .i64 0, .int .i64 0, .int .i64 base, .int .i64 base, .bool false, .bool (decide (0 < base)), .slice none 0 0] 77) →
        NwPost w i n ⟨T, vo, base, bt, a, c, l, la, lc, ps⟩ (.returned (.tuple #[.pointer (some ⟨w2.heap.size, 0, none⟩), .int .i64 0])) V) := fun V hV => by
      subst hV
      have eb : gbase = base := gs.base
      have hA2 : Below w2.heap.size w2 (w2.alloc (.cells #[.int .i64 i, .int .i64 n, .int .i64 gT, .int .i64 gvo, .int .i64 gbase, .int .i64 gbt, .slice ga gl.length gc, .slice gla gps.length glc, .int .i64 0, .int .i64 (-1), .int .i64 0, .int .i64 4, .map none, .int .i64 0, .int .i64 0, .int .i64 0, .int .i64 0, .int .i64 0, .int .i64 0, .int .i64 0, .int .i64 0, .int .i64 0, .int .i64 0, .int .i64 base, .int .i64 base, .bool false, .bool (decide (0 < base)), .slice none 0 0] 77)) := (Below.refl _ _).alloc (Nat.le_refl _) _
      have hbw : Below w.heap.size w w2 := (unhide HA).trans (Below.mono (show Below W.heap.size W w2 from (Below.drew (Below.refl _ _)).trans gb) (unhide HA).size)
      refine ⟨w2.heap.size, ⟨gT, gvo, gbase, gbt, ga, gc, gl, gla, glc, gps⟩, rfl, ?_, hbw.size, gs, ?_, hbw.trans (hA2.mono hbw.size)⟩
      · subst eb
        exact heap_new _ _
      · refine ⟨gr.row.later hA2, fun k hk => Nat.le_trans (unhide HA).size (gr.new k hk), gr.len, gr.log.later hA2, fun k hk => Nat.le_trans (unhide HA).size (gr.newL k hk), gr.apart⟩
    clear gs gr gb OH HA GG K6 S2 S3
    go_wp2
    go_returns
    exact unhide F _ rfl
end Go.Proofs.Ytibjfekfkllnjaa
