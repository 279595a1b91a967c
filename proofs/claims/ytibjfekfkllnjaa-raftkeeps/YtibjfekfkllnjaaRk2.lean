/-
  RaftKeeps where New refuses. Conditions: what is kept is handed in whole; a log of at most 2^42 - 128 entries.
-/
import Derived.Test.YtibjfekfkllnjaaRk1
import Derived.Deep.CutBlock
namespace Go.Proofs.Ytibjfekfkllnjaa
open Go.RowKit Go.Maps
set_option linter.unusedVariables false

set_option maxRecDepth 100000 in
set_option maxHeartbeats 8000000 in
/-- Where it is refused. -/
theorem raftKeeps_bad {w : World} {i n : Int} {h : Hd} (x : HIn w h) (hbad : Bad12 i n h.T h.vo h.base) : Calls Try.prog 5 #[.int .i64 i, .int .i64 n, hdV h] w fun e w' => e = .returned (.bool true) ∧ Below w.heap.size w w' := by
  obtain ⟨T, vo, base, bt, a, c, l, la, lc, ps⟩ := h
  simp only at hbad
  unfold hdV hdS hdL
  dsimp only
  have hA : Below w.heap.size w (w.alloc (.cells #[.int .i64 T, .int .i64 vo, .int .i64 base, .int .i64 bt, .slice a l.length c, .slice la ps.length lc] 52)) := (Below.refl _ _).alloc (Nat.le_refl _) _
  have G : Hid ((w.alloc (.cells #[.int .i64 T, .int .i64 vo, .int .i64 base, .int .i64 bt, .slice a l.length c, .slice la ps.length lc] 52)).heap[w.heap.size]? = some (.cells #[.int .i64 T, .int .i64 vo, .int .i64 base, .int .i64 bt, .slice a l.length c, .slice la ps.length lc] 52)) := heap_new _ _
  have CP : Hid (Calls Try.prog 17 #[.agg #[.int .i64 T, .int .i64 vo, .int .i64 base, .int .i64 bt, .slice a l.length c, .slice la ps.length lc]] (w.alloc (.cells #[.int .i64 T, .int .i64 vo, .int .i64 base, .int .i64 bt, .slice a l.length c, .slice la ps.length lc] 52)) fun e w' => OhPost (w.alloc (.cells #[.int .i64 T, .int .i64 vo, .int .i64 base, .int .i64 bt, .slice a l.length c, .slice la ps.length lc] 52)) ⟨T, vo, base, bt, a, c, l, la, lc, ps⟩ e w') := refCopy_any (x.later hA)
  have HA := hide hA
  have k0 : (w.alloc (.cells #[.int .i64 T, .int .i64 vo, .int .i64 base, .int .i64 bt, .slice a l.length c, .slice la ps.length lc] 52)).cell? ⟨w.heap.size, 0, none⟩ = some (.int .i64 T) := cell_of (unhide G) 0
  have k1 : (w.alloc (.cells #[.int .i64 T, .int .i64 vo, .int .i64 base, .int .i64 bt, .slice a l.length c, .slice la ps.length lc] 52)).cell? ⟨w.heap.size, 1, none⟩ = some (.int .i64 vo) := cell_of (unhide G) 1
  have k2 : (w.alloc (.cells #[.int .i64 T, .int .i64 vo, .int .i64 base, .int .i64 bt, .slice a l.length c, .slice la ps.length lc] 52)).cell? ⟨w.heap.size, 2, none⟩ = some (.int .i64 base) := cell_of (unhide G) 2
  have k3 : (w.alloc (.cells #[.int .i64 T, .int .i64 vo, .int .i64 base, .int .i64 bt, .slice a l.length c, .slice la ps.length lc] 52)).cell? ⟨w.heap.size, 3, none⟩ = some (.int .i64 bt) := cell_of (unhide G) 3
  have k4 : (w.alloc (.cells #[.int .i64 T, .int .i64 vo, .int .i64 base, .int .i64 bt, .slice a l.length c, .slice la ps.length lc] 52)).cell? ⟨w.heap.size, 4, none⟩ = some (.slice a l.length c) := cell_of (unhide G) 4
  have k5 : (w.alloc (.cells #[.int .i64 T, .int .i64 vo, .int .i64 base, .int .i64 bt, .slice a l.length c, .slice la ps.length lc] 52)).cell? ⟨w.heap.size, 5, none⟩ = some (.slice la ps.length lc) := cell_of (unhide G) 5
  have HBAD := hide hbad
  clear x hA hbad
  generalize l.length = ln at *
  generalize ps.length = pn at *
  go_enter Try.func5, Try.ntmps5
  go_wp2_with fail
  generalize w.alloc (.cells #[.int .i64 T, .int .i64 vo, .int .i64 base, .int .i64 bt, .slice a ln c, .slice la pn lc] 52) = W at *
  refine (unhide CP).mono ?_
  rintro e w1 ⟨g, rfl, gs, gr, b1⟩
  have NB : Hid (Calls Try.prog 16 #[.int .i64 i, .int .i64 n, hdV g] w1 fun e w' => e = .returned (.tuple #[.pointer none, .int .i64 1]) ∧ Below w1.heap.size w1 w') := new_bad ⟨_, _, _, rfl⟩ ⟨_, _, _, rfl⟩ (by rw [gs.T, gs.vo, gs.base]; exact unhide HBAD)
  have B1 := hide ((unhide HA).trans (b1.mono (unhide HA).size))
  have G1 := hide (below_keep b1 (unhide G))
  clear gr gs b1 CP HA G k0 k1 k2 k3 k4 k5
  go_wp2_with fail
  refine (unhide NB).mono ?_
  rintro e w2 ⟨rfl, b2⟩
  have B2 := hide ((unhide B1).trans (b2.mono (unhide B1).size))
  have g2 := below_keep b2 (unhide G1)
  have m0 : w2.cell? ⟨w.heap.size, 0, none⟩ = some (.int .i64 T) := cell_of g2 0
  have m1 : w2.cell? ⟨w.heap.size, 1, none⟩ = some (.int .i64 vo) := cell_of g2 1
  have m2 : w2.cell? ⟨w.heap.size, 2, none⟩ = some (.int .i64 base) := cell_of g2 2
  have AW := hide (awake12_any w2)
  clear NB B1 G1 b2 g2
  go_upto_region 2 with fail
  go_cut [9] from 24 to 59 (fun s9 wx => s9 = .bool true ∧ wx = w2)
  case first =>
    have hbad := unhide HBAD
    clear HBAD AW B2
    rcases hbad with h1 | ⟨h1, h2⟩ | ⟨h1, h2, h3⟩ | ⟨h1, h2, h3, h4⟩ | ⟨h1, h2, h3, h4, h5⟩ | ⟨h1, h2, h3, h4, h5, h6⟩ | ⟨h1, h2, h3, h4, h5, h6, h7⟩ | ⟨h1, h2, h3, h4, h5, h6, h7, h8⟩
    all_goals
      go_wp2_with fail
      go_meet
      exact ⟨rfl, rfl⟩
  case rest =>
    obtain ⟨rfl, rfl⟩ := hcut
    clear HBAD m0 m1 m2
    go_wp2_with fail
    refine (unhide AW).mono ?_
    rintro e w3 ⟨rfl, b3⟩
    have B3 := hide ((unhide B2).trans (b3.mono (unhide B2).size))
    clear b3
    go_wp2
    go_returns
    exact ⟨rfl, unhide B3⟩
end Go.Proofs.Ytibjfekfkllnjaa
