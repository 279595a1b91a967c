/-
  NetNone's walk: what there isn't carries nothing. No conditions.
-/
import Derived.Test.YtgpfkedihgoohaaAw11
namespace Go.Proofs.Ytgpfkedihgoohaa
open Go.RowKit
set_option linter.unusedVariables false

theorem count_nil (w : World) : Calls Try.prog 24 #[.pointer none] w fun e w' => e = .returned (.int .i64 0) ∧ w' = w := by
  go_enter Try.func24, Try.ntmps24
  go_wp2
  go_returns
  exact ⟨rfl, rfl⟩
/-- A packet in its box. -/
def BoxP (w : World) (b : Nat) (p : Pk) : Prop := w.heap[b]? = some (.cells #[.int .i64 p.fr, .int .i64 p.to, .slice p.a p.l.length p.c] 33)
theorem BoxP.cells {w : World} {b : Nat} {p : Pk} (h : BoxP w b p) : w.cell? ⟨b, 0, none⟩ = some (.int .i64 p.fr) ∧ w.cell? ⟨b, 1, none⟩ = some (.int .i64 p.to) ∧ w.cell? ⟨b, 2, none⟩ = some (.slice p.a p.l.length p.c) := by
  refine ⟨?_, ?_, ?_⟩ <;> (rw [cell_of h]; rfl)
theorem BoxP.new (w : World) (p : Pk) : BoxP (w.alloc (.cells #[.int .i64 p.fr, .int .i64 p.to, .slice p.a p.l.length p.c] 33)) w.heap.size p := heap_new _ _
theorem BoxP.later {w w' : World} {b : Nat} {p : Pk} (h : BoxP w b p) (hb : Below w.heap.size w w') : BoxP w' b p := below_keep hb h
theorem BoxP.keep {w w' : World} {b : Nat} {p : Pk} {S : Nat → Prop} (h : BoxP w b p) (t : Touch S w w') (hs : ¬ S b) : BoxP w' b p := t.keep h hs
set_option maxRecDepth 100000 in
set_option maxHeartbeats 2000000 in
theorem netNone_walk (p : Pk) (i : Int) (w : World) : Calls Try.prog 8 #[pkV p, .int .i64 i] w fun e w' => e = .returned (.bool true) ∧ Below w.heap.size w w' := by
  obtain ⟨fr, to, a, c, l⟩ := p
  have BA : Hid (Below w.heap.size w (w.alloc (.cells #[.int .i64 fr, .int .i64 to, .slice a l.length c] 33))) := (Below.refl _ _).alloc (Nat.le_refl _) _
  have BX : Hid (BoxP (w.alloc (.cells #[.int .i64 fr, .int .i64 to, .slice a l.length c] 33)) w.heap.size ⟨fr, to, a, c, l⟩) := BoxP.new w ⟨fr, to, a, c, l⟩
  have SN : Hid (∀ X, Calls Try.prog 12 #[.pointer none, .agg #[.int .i64 fr, .int .i64 to, .slice a l.length c]] X fun e w' => e = .returned (.bool false) ∧ Below X.heap.size X w') := fun X => send_nil ⟨fr, to, a, c, l⟩ X
  simp only [pkV, pkS]
  unfold BoxP at BX
  simp only at BX
  generalize l.length = m at *
  go_enter Try.func8, Try.ntmps8
  go_wp2_with fail
  generalize w.alloc (.cells #[.int .i64 fr, .int .i64 to, .slice a m c] 33) = W at *
  refine (take_nil i W).mono ?_
  rintro e w1 ⟨rfl, b1⟩
  have hA1 : Below w1.heap.size w1 (w1.alloc (.cells #[.int .i64 0, .int .i64 0, .slice none 0 0] 33)) := (Below.refl _ _).alloc (Nat.le_refl _) _
  have c1 := b1.trans (hA1.mono b1.size)
  have B1 := hide ((unhide BA).trans (c1.mono (unhide BA).size))
  have X1 := hide (below_keep c1 (unhide BX))
  have Y1 : Hid (BoxP (w1.alloc (.cells #[.int .i64 0, .int .i64 0, .slice none 0 0] 33)) w1.heap.size pk0) := BoxP.new w1 pk0
  clear b1 hA1 c1 BA BX
  simp only [pk0]
  go_wp2_with fail
  generalize w1.alloc (.cells #[.int .i64 0, .int .i64 0, .slice none 0 0] 33) = W1 at *
  refine (peek_nil i W1).mono ?_
  rintro e w2 ⟨rfl, b2⟩
  have hA2 : Below w2.heap.size w2 (w2.alloc (.cells #[.int .i64 0, .int .i64 0, .slice none 0 0] 33)) := (Below.refl _ _).alloc (Nat.le_refl _) _
  have c2 := b2.trans (hA2.mono b2.size)
  have B2 := hide ((unhide B1).trans (c2.mono (unhide B1).size))
  have X2 := hide (below_keep c2 (unhide X1))
  have Y2 := hide ((unhide Y1).later c2)
  have Z2 : Hid (BoxP (w2.alloc (.cells #[.int .i64 0, .int .i64 0, .slice none 0 0] 33)) w2.heap.size pk0) := BoxP.new w2 pk0
  clear b2 hA2 c2 B1 X1 Y1
  simp only [pk0]
  go_wp2_with fail
  generalize w2.alloc (.cells #[.int .i64 0, .int .i64 0, .slice none 0 0] 33) = W2 at *
  refine (cut_nil _ _ W2).mono ?_
  rintro e w3 ⟨rfl, rfl⟩
  go_wp2_with fail
  refine (heal_nil w3).mono ?_
  rintro e w4 ⟨rfl, rfl⟩
  have AW := hide (awake11_any w4)
  go_wp2_with fail
  refine (unhide AW).mono ?_
  rintro e w5 ⟨rfl, b5⟩
  have B5 := hide ((unhide B2).trans (b5.mono (unhide B2).size))
  have x5 := below_keep b5 (unhide X2)
  have Y5 := hide ((unhide Y2).later b5)
  have Z5 := hide ((unhide Z2).later b5)
  have k0 : w5.cell? ⟨w.heap.size, 0, none⟩ = some (.int .i64 fr) := by rw [cell_of x5]; rfl
  have k1 : w5.cell? ⟨w.heap.size, 1, none⟩ = some (.int .i64 to) := by rw [cell_of x5]; rfl
  have k2 : w5.cell? ⟨w.heap.size, 2, none⟩ = some (.slice a m c) := by rw [cell_of x5]; rfl
  have SN5 := hide (unhide SN w5)
  clear b5 AW B2 X2 Y2 Z2 x5 SN
  go_wp2_with fail
  refine (unhide SN5).mono ?_
  rintro e w6 ⟨rfl, b6⟩
  have B6 := hide ((unhide B5).trans (b6.mono (unhide B5).size))
  obtain ⟨y0, y1, y2⟩ := ((unhide Y5).later b6).cells
  obtain ⟨z0, z1, z2⟩ := ((unhide Z5).later b6).cells
  simp only [pk0, List.length_nil] at y0 y1 y2 z0 z1 z2
  clear b6 SN5 B5 Y5 Z5 k0 k1 k2
  have D6 := hide (drop_nil i w6)
  go_wp2_with fail
  refine (unhide D6).mono ?_
  rintro e w7 ⟨rfl, rfl⟩
  have D7 := hide (copy_nil i w7)
  clear D6
  go_wp2_with fail
  refine (unhide D7).mono ?_
  rintro e w8 ⟨rfl, rfl⟩
  have D8 := hide (count_nil w8)
  clear D7
  go_wp2_with fail
  refine (unhide D8).mono ?_
  rintro e w9 ⟨rfl, rfl⟩
  go_wp2
  go_returns
  exact ⟨rfl, unhide B6⟩
end Go.Proofs.Ytgpfkedihgoohaa
