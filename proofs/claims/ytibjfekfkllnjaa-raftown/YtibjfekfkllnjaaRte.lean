/-
  Take of a raft that wants something kept. Conditions: the log is one, of at most 2^42 - 128 entries.
-/
import Derived.Test.YtibjfekfkllnjaaRtd
import Derived.Deep.CutBlock
namespace Go.Proofs.Ytibjfekfkllnjaa
open Go.RowKit Go.Maps
set_option linter.unusedVariables false

set_option maxRecDepth 100000 in
set_option maxHeartbeats 2000000 in
theorem take_save {w : World} {rb : Nat} {cs : Array Value} {h : Hd} {co tn : Int} {ma : Option Addr} {mn mc : Nat} {qs : List En} (hb : w.heap[rb]? = some (.cells cs 77)) (hc : RCs cs h co tn true false ma mn mc) (hi : HIn w h)
    (TL : ∀ X, Below w.heap.size w X → Calls Try.prog 33 #[.pointer (some ⟨rb, 0, none⟩)] X fun e w' => TlPost X rb cs tn qs e w') :
    Calls Try.prog 18 #[.pointer (some ⟨rb, 0, none⟩)] w fun e w' => TkPost w rb cs h true false ma mn mc tn qs e w' := by
  have hrb := lt_of_heap hb
  have hB : Below w.heap.size w ((w.alloc (.cells #[.bool false, .int .i64 0, .int .i64 0, .int .i64 0, .int .i64 0, .slice none 0 0, .slice none 0 0, .slice none 0 0, .bool false, .slice none 0 0, .slice none 0 0] 57)).alloc (.cells #[.bool false, .int .i64 0, .int .i64 0, .int .i64 0, .int .i64 0, .slice none 0 0, .slice none 0 0, .slice none 0 0, .bool false, .slice none 0 0, .slice none 0 0] 57)) := ((Below.refl _ _).alloc (Nat.le_refl _) _).alloc (by simp) _
  have G0 : Hid (((w.alloc (.cells #[.bool false, .int .i64 0, .int .i64 0, .int .i64 0, .int .i64 0, .slice none 0 0, .slice none 0 0, .slice none 0 0, .bool false, .slice none 0 0, .slice none 0 0] 57)).alloc (.cells #[.bool false, .int .i64 0, .int .i64 0, .int .i64 0, .int .i64 0, .slice none 0 0, .slice none 0 0, .slice none 0 0, .bool false, .slice none 0 0, .slice none 0 0] 57)).heap[w.heap.size]? = some (.cells #[.bool false, .int .i64 0, .int .i64 0, .int .i64 0, .int .i64 0, .slice none 0 0, .slice none 0 0, .slice none 0 0, .bool false, .slice none 0 0, .slice none 0 0] 57)) := heap_old _ (heap_new _ _)
  have G1 : Hid (((w.alloc (.cells #[.bool false, .int .i64 0, .int .i64 0, .int .i64 0, .int .i64 0, .slice none 0 0, .slice none 0 0, .slice none 0 0, .bool false, .slice none 0 0, .slice none 0 0] 57)).alloc (.cells #[.bool false, .int .i64 0, .int .i64 0, .int .i64 0, .int .i64 0, .slice none 0 0, .slice none 0 0, .slice none 0 0, .bool false, .slice none 0 0, .slice none 0 0] 57)).heap[w.heap.size + 1]? = some (.cells #[.bool false, .int .i64 0, .int .i64 0, .int .i64 0, .int .i64 0, .slice none 0 0, .slice none 0 0, .slice none 0 0, .bool false, .slice none 0 0, .slice none 0 0] 57)) := by
    have := heap_new (w.alloc (.cells #[.bool false, .int .i64 0, .int .i64 0, .int .i64 0, .int .i64 0, .slice none 0 0, .slice none 0 0, .slice none 0 0, .bool false, .slice none 0 0, .slice none 0 0] 57)) (.cells #[.bool false, .int .i64 0, .int .i64 0, .int .i64 0, .int .i64 0, .slice none 0 0, .slice none 0 0, .slice none 0 0, .bool false, .slice none 0 0, .slice none 0 0] 57)
    rw [World.size_alloc] at this
    exact this
  have Z : Hid (((w.alloc (.cells #[.bool false, .int .i64 0, .int .i64 0, .int .i64 0, .int .i64 0, .slice none 0 0, .slice none 0 0, .slice none 0 0, .bool false, .slice none 0 0, .slice none 0 0] 57)).alloc (.cells #[.bool false, .int .i64 0, .int .i64 0, .int .i64 0, .int .i64 0, .slice none 0 0, .slice none 0 0, .slice none 0 0, .bool false, .slice none 0 0, .slice none 0 0] 57)).heap.size = w.heap.size + 2) := by show _ = _; simp
  have GB := hide (below_keep hB hb)
  have HB := hide hB
  have HI := hide (hi.later hB)
  have HC := hide hc
  have TH := hide TL
  obtain ⟨T, vo, base, bt, sa, sc, sl, la, lc, ps⟩ := h
  obtain ⟨c2, c3, c4, c5, c6, c7, c23, c24, c25, c26, c27⟩ := hc
  simp only [hdS, hdL] at c2 c3 c4 c5 c6 c7

  have x2 : ((w.alloc (.cells #[.bool false, .int .i64 0, .int .i64 0, .int .i64 0, .int .i64 0, .slice none 0 0, .slice none 0 0, .slice none 0 0, .bool false, .slice none 0 0, .slice none 0 0] 57)).alloc (.cells #[.bool false, .int .i64 0, .int .i64 0, .int .i64 0, .int .i64 0, .slice none 0 0, .slice none 0 0, .slice none 0 0, .bool false, .slice none 0 0, .slice none 0 0] 57)).cell? ⟨rb, 2, none⟩ = some (.int .i64 T) := cell_get (unhide GB) c2
  have x3 : ((w.alloc (.cells #[.bool false, .int .i64 0, .int .i64 0, .int .i64 0, .int .i64 0, .slice none 0 0, .slice none 0 0, .slice none 0 0, .bool false, .slice none 0 0, .slice none 0 0] 57)).alloc (.cells #[.bool false, .int .i64 0, .int .i64 0, .int .i64 0, .int .i64 0, .slice none 0 0, .slice none 0 0, .slice none 0 0, .bool false, .slice none 0 0, .slice none 0 0] 57)).cell? ⟨rb, 3, none⟩ = some (.int .i64 vo) := cell_get (unhide GB) c3
  have x4 : ((w.alloc (.cells #[.bool false, .int .i64 0, .int .i64 0, .int .i64 0, .int .i64 0, .slice none 0 0, .slice none 0 0, .slice none 0 0, .bool false, .slice none 0 0, .slice none 0 0] 57)).alloc (.cells #[.bool false, .int .i64 0, .int .i64 0, .int .i64 0, .int .i64 0, .slice none 0 0, .slice none 0 0, .slice none 0 0, .bool false, .slice none 0 0, .slice none 0 0] 57)).cell? ⟨rb, 4, none⟩ = some (.int .i64 base) := cell_get (unhide GB) c4
  have x5 : ((w.alloc (.cells #[.bool false, .int .i64 0, .int .i64 0, .int .i64 0, .int .i64 0, .slice none 0 0, .slice none 0 0, .slice none 0 0, .bool false, .slice none 0 0, .slice none 0 0] 57)).alloc (.cells #[.bool false, .int .i64 0, .int .i64 0, .int .i64 0, .int .i64 0, .slice none 0 0, .slice none 0 0, .slice none 0 0, .bool false, .slice none 0 0, .slice none 0 0] 57)).cell? ⟨rb, 5, none⟩ = some (.int .i64 bt) := cell_get (unhide GB) c5
  have x6 : ((w.alloc (.cells #[.bool false, .int .i64 0, .int .i64 0, .int .i64 0, .int .i64 0, .slice none 0 0, .slice none 0 0, .slice none 0 0, .bool false, .slice none 0 0, .slice none 0 0] 57)).alloc (.cells #[.bool false, .int .i64 0, .int .i64 0, .int .i64 0, .int .i64 0, .slice none 0 0, .slice none 0 0, .slice none 0 0, .bool false, .slice none 0 0, .slice none 0 0] 57)).cell? ⟨rb, 6, none⟩ = some (.slice sa sl.length sc) := cell_get (unhide GB) c6
  have x7 : ((w.alloc (.cells #[.bool false, .int .i64 0, .int .i64 0, .int .i64 0, .int .i64 0, .slice none 0 0, .slice none 0 0, .slice none 0 0, .bool false, .slice none 0 0, .slice none 0 0] 57)).alloc (.cells #[.bool false, .int .i64 0, .int .i64 0, .int .i64 0, .int .i64 0, .slice none 0 0, .slice none 0 0, .slice none 0 0, .bool false, .slice none 0 0, .slice none 0 0] 57)).cell? ⟨rb, 7, none⟩ = some (.slice la ps.length lc) := cell_get (unhide GB) c7
  have x25 : ((w.alloc (.cells #[.bool false, .int .i64 0, .int .i64 0, .int .i64 0, .int .i64 0, .slice none 0 0, .slice none 0 0, .slice none 0 0, .bool false, .slice none 0 0, .slice none 0 0] 57)).alloc (.cells #[.bool false, .int .i64 0, .int .i64 0, .int .i64 0, .int .i64 0, .slice none 0 0, .slice none 0 0, .slice none 0 0, .bool false, .slice none 0 0, .slice none 0 0] 57)).cell? ⟨rb, 25, none⟩ = some (.bool true) := cell_get (unhide GB) c25
  have x26 : ((w.alloc (.cells #[.bool false, .int .i64 0, .int .i64 0, .int .i64 0, .int .i64 0, .slice none 0 0, .slice none 0 0, .slice none 0 0, .bool false, .slice none 0 0, .slice none 0 0] 57)).alloc (.cells #[.bool false, .int .i64 0, .int .i64 0, .int .i64 0, .int .i64 0, .slice none 0 0, .slice none 0 0, .slice none 0 0, .bool false, .slice none 0 0, .slice none 0 0] 57)).cell? ⟨rb, 26, none⟩ = some (.bool false) := cell_get (unhide GB) c26
  have OH : Hid (Calls Try.prog 29 #[.agg #[.int .i64 T, .int .i64 vo, .int .i64 base, .int .i64 bt, .slice sa sl.length sc, .slice la ps.length lc]] ((w.alloc (.cells #[.bool false, .int .i64 0, .int .i64 0, .int .i64 0, .int .i64 0, .slice none 0 0, .slice none 0 0, .slice none 0 0, .bool false, .slice none 0 0, .slice none 0 0] 57)).alloc (.cells #[.bool false, .int .i64 0, .int .i64 0, .int .i64 0, .int .i64 0, .slice none 0 0, .slice none 0 0, .slice none 0 0, .bool false, .slice none 0 0, .slice none 0 0] 57)) fun e w' => OhPost ((w.alloc (.cells #[.bool false, .int .i64 0, .int .i64 0, .int .i64 0, .int .i64 0, .slice none 0 0, .slice none 0 0, .slice none 0 0, .bool false, .slice none 0 0, .slice none 0 0] 57)).alloc (.cells #[.bool false, .int .i64 0, .int .i64 0, .int .i64 0, .int .i64 0, .slice none 0 0, .slice none 0 0, .slice none 0 0, .bool false, .slice none 0 0, .slice none 0 0] 57)) ⟨T, vo, base, bt, sa, sc, sl, la, lc, ps⟩ e w') := ownHard_any (unhide HI)
  clear hb hi TL hB c2 c3 c4 c5 c6 c7 c23 c24 c25 c26 c27
  generalize hsl : sl.length = sn at *
  have HSL := hide hsl
  clear hsl
  generalize hpl : ps.length = pn at *
  have HPL := hide hpl
  clear hpl
  go_enter Try.func18, Try.ntmps18
  go_wp2_with fail
  generalize ((w.alloc (.cells #[.bool false, .int .i64 0, .int .i64 0, .int .i64 0, .int .i64 0, .slice none 0 0, .slice none 0 0, .slice none 0 0, .bool false, .slice none 0 0, .slice none 0 0] 57)).alloc (.cells #[.bool false, .int .i64 0, .int .i64 0, .int .i64 0, .int .i64 0, .slice none 0 0, .slice none 0 0, .slice none 0 0, .bool false, .slice none 0 0, .slice none 0 0] 57)) = W at *
  refine (unhide OH).mono ?_
  rintro e w1 ⟨g, rfl, gs, gr, b1⟩
  obtain ⟨gT, gvo, gbase, gbt, ga, gc, gl, gla, glc, gps⟩ := g
  have g0 := below_keep b1 (unhide G0)
  have g1 := below_keep b1 (unhide G1)
  have gb := below_keep b1 (unhide GB)
  have u0 : w1.cell? ⟨w.heap.size + 1, 0, none⟩ = some (.bool false) := cell_of g1 0
  have f0 : w1.frozen? ⟨w.heap.size + 1, 0, none⟩ = false := frozen_of g1 0
  have u1 : w1.cell? ⟨w.heap.size + 1, 1, none⟩ = some (.int .i64 0) := cell_of g1 1
  have f1 : w1.frozen? ⟨w.heap.size + 1, 1, none⟩ = false := frozen_of g1 1
  have u2 : w1.cell? ⟨w.heap.size + 1, 2, none⟩ = some (.int .i64 0) := cell_of g1 2
  have f2 : w1.frozen? ⟨w.heap.size + 1, 2, none⟩ = false := frozen_of g1 2
  have u3 : w1.cell? ⟨w.heap.size + 1, 3, none⟩ = some (.int .i64 0) := cell_of g1 3
  have f3 : w1.frozen? ⟨w.heap.size + 1, 3, none⟩ = false := frozen_of g1 3
  have u4 : w1.cell? ⟨w.heap.size + 1, 4, none⟩ = some (.int .i64 0) := cell_of g1 4
  have f4 : w1.frozen? ⟨w.heap.size + 1, 4, none⟩ = false := frozen_of g1 4
  have u5 : w1.cell? ⟨w.heap.size + 1, 5, none⟩ = some (.slice none 0 0) := cell_of g1 5
  have f5 : w1.frozen? ⟨w.heap.size + 1, 5, none⟩ = false := frozen_of g1 5
  have u6 : w1.cell? ⟨w.heap.size + 1, 6, none⟩ = some (.slice none 0 0) := cell_of g1 6
  have f6 : w1.frozen? ⟨w.heap.size + 1, 6, none⟩ = false := frozen_of g1 6
  have t1 : Touch (· = w.heap.size + 1) w1 (((((((w1.setCell ⟨w.heap.size + 1, 0, none⟩ (.bool true)).setCell ⟨w.heap.size + 1, 1, none⟩ (.int .i64 gT)).setCell ⟨w.heap.size + 1, 2, none⟩ (.int .i64 gvo)).setCell ⟨w.heap.size + 1, 3, none⟩ (.int .i64 gbase)).setCell ⟨w.heap.size + 1, 4, none⟩ (.int .i64 gbt)).setCell ⟨w.heap.size + 1, 5, none⟩ (.slice ga gl.length gc)).setCell ⟨w.heap.size + 1, 6, none⟩ (.slice gla gps.length glc)) := ((((((((Touch.refl (· = w.heap.size + 1) w1).setCell (p := ⟨w.heap.size + 1, 0, none⟩) rfl _).setCell (p := ⟨w.heap.size + 1, 1, none⟩) rfl _).setCell (p := ⟨w.heap.size + 1, 2, none⟩) rfl _).setCell (p := ⟨w.heap.size + 1, 3, none⟩) rfl _).setCell (p := ⟨w.heap.size + 1, 4, none⟩) rfl _).setCell (p := ⟨w.heap.size + 1, 5, none⟩) rfl _).setCell (p := ⟨w.heap.size + 1, 6, none⟩) rfl _)
  have hle : w.heap.size + 2 ≤ w1.heap.size := by have := b1.size; rw [unhide Z] at this; exact this
  have G1' : Hid ((((((((w1.setCell ⟨w.heap.size + 1, 0, none⟩ (.bool true)).setCell ⟨w.heap.size + 1, 1, none⟩ (.int .i64 gT)).setCell ⟨w.heap.size + 1, 2, none⟩ (.int .i64 gvo)).setCell ⟨w.heap.size + 1, 3, none⟩ (.int .i64 gbase)).setCell ⟨w.heap.size + 1, 4, none⟩ (.int .i64 gbt)).setCell ⟨w.heap.size + 1, 5, none⟩ (.slice ga gl.length gc)).setCell ⟨w.heap.size + 1, 6, none⟩ (.slice gla gps.length glc)).heap[w.heap.size + 1]? = some (.cells #[.bool true, .int .i64 gT, .int .i64 gvo, .int .i64 gbase, .int .i64 gbt, .slice ga gl.length gc, .slice gla gps.length glc, .slice none 0 0, .bool false, .slice none 0 0, .slice none 0 0] 57)) := set7 g1 (.bool true) (.int .i64 gT) (.int .i64 gvo) (.int .i64 gbase) (.int .i64 gbt) (.slice ga gl.length gc) (.slice gla gps.length glc)
  have G0' : Hid ((((((((w1.setCell ⟨w.heap.size + 1, 0, none⟩ (.bool true)).setCell ⟨w.heap.size + 1, 1, none⟩ (.int .i64 gT)).setCell ⟨w.heap.size + 1, 2, none⟩ (.int .i64 gvo)).setCell ⟨w.heap.size + 1, 3, none⟩ (.int .i64 gbase)).setCell ⟨w.heap.size + 1, 4, none⟩ (.int .i64 gbt)).setCell ⟨w.heap.size + 1, 5, none⟩ (.slice ga gl.length gc)).setCell ⟨w.heap.size + 1, 6, none⟩ (.slice gla gps.length glc)).heap[w.heap.size]? = some (.cells #[.bool false, .int .i64 0, .int .i64 0, .int .i64 0, .int .i64 0, .slice none 0 0, .slice none 0 0, .slice none 0 0, .bool false, .slice none 0 0, .slice none 0 0] 57)) := t1.keep g0 (show ¬ w.heap.size = w.heap.size + 1 by omega)
  have GB' : Hid ((((((((w1.setCell ⟨w.heap.size + 1, 0, none⟩ (.bool true)).setCell ⟨w.heap.size + 1, 1, none⟩ (.int .i64 gT)).setCell ⟨w.heap.size + 1, 2, none⟩ (.int .i64 gvo)).setCell ⟨w.heap.size + 1, 3, none⟩ (.int .i64 gbase)).setCell ⟨w.heap.size + 1, 4, none⟩ (.int .i64 gbt)).setCell ⟨w.heap.size + 1, 5, none⟩ (.slice ga gl.length gc)).setCell ⟨w.heap.size + 1, 6, none⟩ (.slice gla gps.length glc)).heap[rb]? = some (.cells cs 77)) := t1.keep gb (show ¬ rb = w.heap.size + 1 by omega)
  have BW : Hid (Below w.heap.size w (((((((w1.setCell ⟨w.heap.size + 1, 0, none⟩ (.bool true)).setCell ⟨w.heap.size + 1, 1, none⟩ (.int .i64 gT)).setCell ⟨w.heap.size + 1, 2, none⟩ (.int .i64 gvo)).setCell ⟨w.heap.size + 1, 3, none⟩ (.int .i64 gbase)).setCell ⟨w.heap.size + 1, 4, none⟩ (.int .i64 gbt)).setCell ⟨w.heap.size + 1, 5, none⟩ (.slice ga gl.length gc)).setCell ⟨w.heap.size + 1, 6, none⟩ (.slice gla gps.length glc))) := below_touch ((unhide HB).trans (b1.mono (unhide HB).size)) t1 (by omega) (fun k hk => by omega)
  have SW : Hid (w.heap.size + 2 ≤ (((((((w1.setCell ⟨w.heap.size + 1, 0, none⟩ (.bool true)).setCell ⟨w.heap.size + 1, 1, none⟩ (.int .i64 gT)).setCell ⟨w.heap.size + 1, 2, none⟩ (.int .i64 gvo)).setCell ⟨w.heap.size + 1, 3, none⟩ (.int .i64 gbase)).setCell ⟨w.heap.size + 1, 4, none⟩ (.int .i64 gbt)).setCell ⟨w.heap.size + 1, 5, none⟩ (.slice ga gl.length gc)).setCell ⟨w.heap.size + 1, 6, none⟩ (.slice gla gps.length glc)).heap.size) := Nat.le_trans hle t1.size
  have GR : Hid (HRow w (((((((w1.setCell ⟨w.heap.size + 1, 0, none⟩ (.bool true)).setCell ⟨w.heap.size + 1, 1, none⟩ (.int .i64 gT)).setCell ⟨w.heap.size + 1, 2, none⟩ (.int .i64 gvo)).setCell ⟨w.heap.size + 1, 3, none⟩ (.int .i64 gbase)).setCell ⟨w.heap.size + 1, 4, none⟩ (.int .i64 gbt)).setCell ⟨w.heap.size + 1, 5, none⟩ (.slice ga gl.length gc)).setCell ⟨w.heap.size + 1, 6, none⟩ (.slice gla gps.length glc)) ⟨gT, gvo, gbase, gbt, ga, gc, gl, gla, glc, gps⟩) := by
    have gr2 : HRow w w1 ⟨gT, gvo, gbase, gbt, ga, gc, gl, gla, glc, gps⟩ := ⟨gr.row, fun k hk => Nat.le_trans (unhide HB).size (gr.new k hk), gr.len, gr.log, fun k hk => Nat.le_trans (unhide HB).size (gr.newL k hk), gr.apart⟩
    refine gr2.keep t1 (fun k hk => ⟨fun e => ?_, fun e => ?_⟩)
    · have := gr.new k e
      rw [unhide Z] at this
      omega
    · have := gr.newL k e
      rw [unhide Z] at this
      omega
  have GS := hide gs
  have GA : Hid (∀ k, ((Value.slice ga gl.length gc).ownBlock = some k ∨ ELB (.slice gla gps.length glc) gps k) → w.heap.size + 2 ≤ k) := fun k hk => by
    rcases hk with e | e
    · have := gr.new k e
      rw [unhide Z] at this
      exact this
    · have := gr.newL k e
      rw [unhide Z] at this
      exact this
  have x26' : w1.cell? ⟨rb, 26, none⟩ = some (.bool false) := cell_get gb (unhide HC).c26
  have TL1 := hide (unhide TH _ (unhide BW))
  clear OH HB G0 G1 GB g0 g1 gb b1 gr t1 TH HI gs
  clear x2 x3 x4 x5 x6 x7 x25
  go_wp2_with fail
  generalize (((((((w1.setCell ⟨w.heap.size + 1, 0, none⟩ (.bool true)).setCell ⟨w.heap.size + 1, 1, none⟩ (.int .i64 gT)).setCell ⟨w.heap.size + 1, 2, none⟩ (.int .i64 gvo)).setCell ⟨w.heap.size + 1, 3, none⟩ (.int .i64 gbase)).setCell ⟨w.heap.size + 1, 4, none⟩ (.int .i64 gbt)).setCell ⟨w.heap.size + 1, 5, none⟩ (.slice ga gl.length gc)).setCell ⟨w.heap.size + 1, 6, none⟩ (.slice gla gps.length glc)) = W1 at *
  refine (unhide TL1).mono ?_
  rintro e w2 ⟨v, ks, rfl, l2, q2, n2, h2, t2⟩
  obtain ⟨va, vc, rfl⟩ := l2.row.shape
  have hle2 : w.heap.size + 2 ≤ w2.heap.size := Nat.le_trans (unhide SW) t2.size
  have g1 := t2.keep (unhide G1') (show ¬ w.heap.size + 1 = rb by omega)
  have g0 := t2.keep (unhide G0') (show ¬ w.heap.size = rb by omega)
  have u10 : w2.cell? ⟨w.heap.size + 1, 10, none⟩ = some (.slice none 0 0) := cell_of g1 10
  have f10 : w2.frozen? ⟨w.heap.size + 1, 10, none⟩ = false := frozen_of g1 10
  have u7 : w2.cell? ⟨w.heap.size + 1, 7, none⟩ = some (.slice none 0 0) := cell_of g1 7
  have f7 : w2.frozen? ⟨w.heap.size + 1, 7, none⟩ = false := frozen_of g1 7
  have y25 : w2.cell? ⟨rb, 25, none⟩ = some (.bool true) := cell_get h2 (set_keep (by omega) (unhide HC).c25)
  have p25 : w2.frozen? ⟨rb, 25, none⟩ = false := frozen_of h2 25
  have y26 : w2.cell? ⟨rb, 26, none⟩ = some (.bool false) := cell_get h2 (set_keep (by omega) (unhide HC).c26)
  have p26 : w2.frozen? ⟨rb, 26, none⟩ = false := frozen_of h2 26
  have y27 : w2.cell? ⟨rb, 27, none⟩ = some (.slice ma mn mc) := cell_get h2 (set_keep (by omega) (unhide HC).c27)
  have p27 : w2.frozen? ⟨rb, 27, none⟩ = false := frozen_of h2 27
  have q1 : (((((w2.setCell ⟨w.heap.size + 1, 10, none⟩ (.slice va ks.length vc)).setCell ⟨w.heap.size + 1, 7, none⟩ (.slice ma mn mc)).setCell ⟨rb, 25, none⟩ (.bool false)).setCell ⟨rb, 26, none⟩ (.bool false)).setCell ⟨rb, 27, none⟩ (.slice none 0 0)).heap[rb]? = some (.cells (tkC cs tn qs.length) 77) := heap_set (heap_set (heap_set (((touch_set w2 (w.heap.size + 1) 10 (.slice va ks.length vc)).trans (touch_set _ (w.heap.size + 1) 7 (.slice ma mn mc))).keep h2 (show ¬ rb = w.heap.size + 1 by omega)) 25 (.bool false)) 26 (.bool false)) 27 (.slice none 0 0)
  have tm : Touch (fun k => k = w.heap.size + 1 ∨ k = rb) w2 (((((w2.setCell ⟨w.heap.size + 1, 10, none⟩ (.slice va ks.length vc)).setCell ⟨w.heap.size + 1, 7, none⟩ (.slice ma mn mc)).setCell ⟨rb, 25, none⟩ (.bool false)).setCell ⟨rb, 26, none⟩ (.bool false)).setCell ⟨rb, 27, none⟩ (.slice none 0 0)) := ((((((Touch.refl (fun k => k = w.heap.size + 1 ∨ k = rb) w2).setCell (p := ⟨w.heap.size + 1, 10, none⟩) (.inl rfl) _).setCell (p := ⟨w.heap.size + 1, 7, none⟩) (.inl rfl) _).setCell (p := ⟨rb, 25, none⟩) (.inr rfl) _).setCell (p := ⟨rb, 26, none⟩) (.inr rfl) _).setCell (p := ⟨rb, 27, none⟩) (.inr rfl) _)
  have q0 := tm.keep g0 (show ¬ (w.heap.size = w.heap.size + 1 ∨ w.heap.size = rb) by omega)
  have qx : (w2.setCell ⟨w.heap.size + 1, 10, none⟩ (.slice va ks.length vc)).heap[w.heap.size + 1]? = some (.cells #[.bool true, .int .i64 gT, .int .i64 gvo, .int .i64 gbase, .int .i64 gbt, .slice ga gl.length gc, .slice gla gps.length glc, .slice none 0 0, .bool false, .slice none 0 0, .slice va ks.length vc] 57) := heap_set g1 10 _
  have qy : ((w2.setCell ⟨w.heap.size + 1, 10, none⟩ (.slice va ks.length vc)).setCell ⟨w.heap.size + 1, 7, none⟩ (.slice ma mn mc)).heap[w.heap.size + 1]? = some (.cells #[.bool true, .int .i64 gT, .int .i64 gvo, .int .i64 gbase, .int .i64 gbt, .slice ga gl.length gc, .slice gla gps.length glc, .slice ma mn mc, .bool false, .slice none 0 0, .slice va ks.length vc] 57) := heap_set qx 7 _
  have qz : (((((w2.setCell ⟨w.heap.size + 1, 10, none⟩ (.slice va ks.length vc)).setCell ⟨w.heap.size + 1, 7, none⟩ (.slice ma mn mc)).setCell ⟨rb, 25, none⟩ (.bool false)).setCell ⟨rb, 26, none⟩ (.bool false)).setCell ⟨rb, 27, none⟩ (.slice none 0 0)).heap[w.heap.size + 1]? = some (.cells #[.bool true, .int .i64 gT, .int .i64 gvo, .int .i64 gbase, .int .i64 gbt, .slice ga gl.length gc, .slice gla gps.length glc, .slice ma mn mc, .bool false, .slice none 0 0, .slice va ks.length vc] 57) := ((((touch_set _ rb 25 _).trans (touch_set _ rb 26 _)).trans (touch_set _ rb 27 _))).keep qy (show ¬ w.heap.size + 1 = rb by omega)
  have Q0 := hide q0
  have Q1 := hide q1
  have QZ := hide qz
  have TM := hide tm
  have T2 : Hid (Touch (· = rb) w w2) := (Touch.of_below (unhide BW)).trans t2
  have L2 := hide l2
  have AB := hide q2
  have N2 : Hid (∀ j, ELB (.slice va ks.length vc) ks j → w.heap.size + 2 ≤ j) := fun j hj => Nat.le_trans (unhide SW) (n2 j hj)
  have GW : Hid (HRow w w2 ⟨gT, gvo, gbase, gbt, ga, gc, gl, gla, glc, gps⟩) := (unhide GR).keep t2 (fun k hk => ⟨fun e => by have := (unhide GR).new k e; omega, fun e => by have := (unhide GR).newL k e; omega⟩)
  have AP : Hid (∀ j, ELB (.slice va ks.length vc) ks j → ¬ ELB (.slice gla gps.length glc) gps j) := fun j hj e => by
    have h1 := n2 j hj
    have h2 := (unhide GR).log.lt j e
    omega
  clear TL1 G1' G0' GB' BW SW l2 q2 n2 h2 t2 g0 g1 HPL HC Z q0 q1 qx qy qz tm GR
  go_upto_region 11 with fail
  generalize ((((w2.setCell ⟨w.heap.size + 1, 10, none⟩ (.slice va ks.length vc)).setCell ⟨w.heap.size + 1, 7, none⟩ (.slice ma mn mc)).setCell ⟨rb, 25, none⟩ (.bool false)).setCell ⟨rb, 26, none⟩ (.bool false)).setCell ⟨rb, 27, none⟩ (.slice none 0 0) = M at *
  clear u10 f10 u7 f7 y25 y26 y27 p25 p26 p27
  have m0 : M.cell? ⟨w.heap.size + 1, 0, none⟩ = some (.bool true) := cell_of (unhide QZ) 0
  have m1 : M.cell? ⟨w.heap.size + 1, 1, none⟩ = some (.int .i64 gT) := cell_of (unhide QZ) 1
  have m2 : M.cell? ⟨w.heap.size + 1, 2, none⟩ = some (.int .i64 gvo) := cell_of (unhide QZ) 2
  have m3 : M.cell? ⟨w.heap.size + 1, 3, none⟩ = some (.int .i64 gbase) := cell_of (unhide QZ) 3
  have m4 : M.cell? ⟨w.heap.size + 1, 4, none⟩ = some (.int .i64 gbt) := cell_of (unhide QZ) 4
  have m5 : M.cell? ⟨w.heap.size + 1, 5, none⟩ = some (.slice ga gl.length gc) := cell_of (unhide QZ) 5
  have m6 : M.cell? ⟨w.heap.size + 1, 6, none⟩ = some (.slice gla gps.length glc) := cell_of (unhide QZ) 6
  have m7 : M.cell? ⟨w.heap.size + 1, 7, none⟩ = some (.slice ma mn mc) := cell_of (unhide QZ) 7
  have m8 : M.cell? ⟨w.heap.size + 1, 8, none⟩ = some (.bool false) := cell_of (unhide QZ) 8
  have m9 : M.cell? ⟨w.heap.size + 1, 9, none⟩ = some (.slice none 0 0) := cell_of (unhide QZ) 9
  have m10 : M.cell? ⟨w.heap.size + 1, 10, none⟩ = some (.slice va ks.length vc) := cell_of (unhide QZ) 10
  have z0 : M.cell? ⟨w.heap.size, 0, none⟩ = some (.bool false) := cell_of (unhide Q0) 0
  have e0 : M.frozen? ⟨w.heap.size, 0, none⟩ = false := frozen_of (unhide Q0) 0
  have z1 : M.cell? ⟨w.heap.size, 1, none⟩ = some (.int .i64 0) := cell_of (unhide Q0) 1
  have e1 : M.frozen? ⟨w.heap.size, 1, none⟩ = false := frozen_of (unhide Q0) 1
  have z2 : M.cell? ⟨w.heap.size, 2, none⟩ = some (.int .i64 0) := cell_of (unhide Q0) 2
  have e2 : M.frozen? ⟨w.heap.size, 2, none⟩ = false := frozen_of (unhide Q0) 2
  have z3 : M.cell? ⟨w.heap.size, 3, none⟩ = some (.int .i64 0) := cell_of (unhide Q0) 3
  have e3 : M.frozen? ⟨w.heap.size, 3, none⟩ = false := frozen_of (unhide Q0) 3
  have z4 : M.cell? ⟨w.heap.size, 4, none⟩ = some (.int .i64 0) := cell_of (unhide Q0) 4
  have e4 : M.frozen? ⟨w.heap.size, 4, none⟩ = false := frozen_of (unhide Q0) 4
  have z5 : M.cell? ⟨w.heap.size, 5, none⟩ = some (.slice none 0 0) := cell_of (unhide Q0) 5
  have e5 : M.frozen? ⟨w.heap.size, 5, none⟩ = false := frozen_of (unhide Q0) 5
  have z6 : M.cell? ⟨w.heap.size, 6, none⟩ = some (.slice none 0 0) := cell_of (unhide Q0) 6
  have e6 : M.frozen? ⟨w.heap.size, 6, none⟩ = false := frozen_of (unhide Q0) 6
  have z7 : M.cell? ⟨w.heap.size, 7, none⟩ = some (.slice none 0 0) := cell_of (unhide Q0) 7
  have e7 : M.frozen? ⟨w.heap.size, 7, none⟩ = false := frozen_of (unhide Q0) 7
  have z8 : M.cell? ⟨w.heap.size, 8, none⟩ = some (.bool false) := cell_of (unhide Q0) 8
  have e8 : M.frozen? ⟨w.heap.size, 8, none⟩ = false := frozen_of (unhide Q0) 8
  have z9 : M.cell? ⟨w.heap.size, 9, none⟩ = some (.slice none 0 0) := cell_of (unhide Q0) 9
  have e9 : M.frozen? ⟨w.heap.size, 9, none⟩ = false := frozen_of (unhide Q0) 9
  have z10 : M.cell? ⟨w.heap.size, 10, none⟩ = some (.slice none 0 0) := cell_of (unhide Q0) 10
  have e10 : M.frozen? ⟨w.heap.size, 10, none⟩ = false := frozen_of (unhide Q0) 10
  have F : Hid (∀ V, V = (((((((((((M.setCell ⟨w.heap.size, 0, none⟩ (.bool true)).setCell ⟨w.heap.size, 1, none⟩ (.int .i64 gT)).setCell ⟨w.heap.size, 2, none⟩ (.int .i64 gvo)).setCell ⟨w.heap.size, 3, none⟩ (.int .i64 gbase)).setCell ⟨w.heap.size, 4, none⟩ (.int .i64 gbt)).setCell ⟨w.heap.size, 5, none⟩ (.slice ga gl.length gc)).setCell ⟨w.heap.size, 6, none⟩ (.slice gla gps.length glc)).setCell ⟨w.heap.size, 7, none⟩ (.slice ma mn mc)).setCell ⟨w.heap.size, 8, none⟩ (.bool false)).setCell ⟨w.heap.size, 9, none⟩ (.slice none 0 0)).setCell ⟨w.heap.size, 10, none⟩ (.slice va ks.length vc)) →
      V.heap[w.heap.size]? = some (.cells #[.bool true, .int .i64 gT, .int .i64 gvo, .int .i64 gbase, .int .i64 gbt, .slice ga gl.length gc, .slice gla gps.length glc, .slice ma mn mc, .bool false, .slice none 0 0, .slice va ks.length vc] 57) ∧ TkPost w rb cs ⟨T, vo, base, bt, sa, sc, sl, la, lc, ps⟩ true false ma mn mc tn qs (.returned (.agg #[.bool true, .int .i64 gT, .int .i64 gvo, .int .i64 gbase, .int .i64 gbt, .slice ga gl.length gc, .slice gla gps.length glc, .slice ma mn mc, .bool false, .slice none 0 0, .slice va ks.length vc])) V) := fun V hV => by
    have hs := set11 (unhide Q0) (.bool true) (.int .i64 gT) (.int .i64 gvo) (.int .i64 gbase) (.int .i64 gbt) (.slice ga gl.length gc) (.slice gla gps.length glc) (.slice ma mn mc) (.bool false) (.slice none 0 0) (.slice va ks.length vc)
    have tf : Touch (· = w.heap.size) M (((((((((((M.setCell ⟨w.heap.size, 0, none⟩ (.bool true)).setCell ⟨w.heap.size, 1, none⟩ (.int .i64 gT)).setCell ⟨w.heap.size, 2, none⟩ (.int .i64 gvo)).setCell ⟨w.heap.size, 3, none⟩ (.int .i64 gbase)).setCell ⟨w.heap.size, 4, none⟩ (.int .i64 gbt)).setCell ⟨w.heap.size, 5, none⟩ (.slice ga gl.length gc)).setCell ⟨w.heap.size, 6, none⟩ (.slice gla gps.length glc)).setCell ⟨w.heap.size, 7, none⟩ (.slice ma mn mc)).setCell ⟨w.heap.size, 8, none⟩ (.bool false)).setCell ⟨w.heap.size, 9, none⟩ (.slice none 0 0)).setCell ⟨w.heap.size, 10, none⟩ (.slice va ks.length vc)) := ((((((((((((Touch.refl (· = w.heap.size) M).setCell (p := ⟨w.heap.size, 0, none⟩) rfl _).setCell (p := ⟨w.heap.size, 1, none⟩) rfl _).setCell (p := ⟨w.heap.size, 2, none⟩) rfl _).setCell (p := ⟨w.heap.size, 3, none⟩) rfl _).setCell (p := ⟨w.heap.size, 4, none⟩) rfl _).setCell (p := ⟨w.heap.size, 5, none⟩) rfl _).setCell (p := ⟨w.heap.size, 6, none⟩) rfl _).setCell (p := ⟨w.heap.size, 7, none⟩) rfl _).setCell (p := ⟨w.heap.size, 8, none⟩) rfl _).setCell (p := ⟨w.heap.size, 9, none⟩) rfl _).setCell (p := ⟨w.heap.size, 10, none⟩) rfl _)
    rw [← hV] at hs tf
    have TT : Touch (fun k => k = w.heap.size ∨ k = w.heap.size + 1 ∨ k = rb) w2 V := ((unhide TM).mono (fun k hk => .inr hk)).trans (tf.mono (fun k hk => .inl hk))
    clear hV
    refine ⟨hs, ⟨gT, gvo, gbase, gbt, ga, gc, gl, gla, glc, gps⟩, .slice none 0 0, (.slice va ks.length vc), ks, ?_, ⟨fun _ => unhide GS, (by intro h; cases h), ?_, (by intro h; cases h), fun _ => rfl, ?_, unhide AB, fun j hj => ?_, ?_, ?_, ?_⟩⟩
    · rfl
    · refine (unhide GW).keep TT (fun k hk => ⟨fun e => ?_, fun e => ?_⟩)
      · have h1 := unhide GA k (.inl e); omega
      · have h1 := unhide GA k (.inr e); omega
    · exact (unhide L2).keep TT (fun k hk e => by have := unhide N2 k hk; omega)
    · have := unhide N2 j hj; omega
    · exact unhide AP
    · exact tf.keep (unhide Q1) (show ¬ rb = w.heap.size by omega)
    · exact touch_new (unhide T2) TT (fun k hk => by omega)
  clear Q0 Q1 QZ TM T2 L2 AB N2 HSL GW GS GA AP
  go_wp2
  obtain ⟨vg, vf⟩ := unhide F _ rfl
  generalize (((((((((((M.setCell ⟨w.heap.size, 0, none⟩ (.bool true)).setCell ⟨w.heap.size, 1, none⟩ (.int .i64 gT)).setCell ⟨w.heap.size, 2, none⟩ (.int .i64 gvo)).setCell ⟨w.heap.size, 3, none⟩ (.int .i64 gbase)).setCell ⟨w.heap.size, 4, none⟩ (.int .i64 gbt)).setCell ⟨w.heap.size, 5, none⟩ (.slice ga gl.length gc)).setCell ⟨w.heap.size, 6, none⟩ (.slice gla gps.length glc)).setCell ⟨w.heap.size, 7, none⟩ (.slice ma mn mc)).setCell ⟨w.heap.size, 8, none⟩ (.bool false)).setCell ⟨w.heap.size, 9, none⟩ (.slice none 0 0)).setCell ⟨w.heap.size, 10, none⟩ (.slice va ks.length vc)) = V at *
  have v0 := cell_of vg 0
  have v1 := cell_of vg 1
  have v2 := cell_of vg 2
  have v3 := cell_of vg 3
  have v4 := cell_of vg 4
  have v5 := cell_of vg 5
  have v6 := cell_of vg 6
  have v7 := cell_of vg 7
  have v8 := cell_of vg 8
  have v9 := cell_of vg 9
  have v10 := cell_of vg 10
  simp only [List.getElem?_toArray, List.getElem?_cons_zero, List.getElem?_cons_succ] at v0 v1 v2 v3 v4 v5 v6 v7 v8 v9 v10
  refine bodyPost_ret (by simp [results, Try.results18, go_sem, v0, v1, v2, v3, v4, v5, v6, v7, v8, v9, v10]; try rfl) rfl ?_
  exact vf
end Go.Proofs.Ytibjfekfkllnjaa
