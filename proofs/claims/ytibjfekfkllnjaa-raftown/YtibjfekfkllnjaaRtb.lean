/-
  raft's ownHard. Conditions: a log of at most 2^42 - 128 entries.
-/
import Derived.Test.YtibjfekfkllnjaaRta
namespace Go.Proofs.Ytibjfekfkllnjaa
open Go.RowKit Go.Maps
set_option linter.unusedVariables false

/-- Six cells laid anew. -/
theorem set6 {w : World} {b : Nat} {x0 x1 x2 x3 x4 x5 : Value} {t : TypeId} (h : w.heap[b]? = some (.cells #[x0, x1, x2, x3, x4, x5] t)) (y0 y1 y2 y3 y4 y5 : Value) : ((((((w.setCell ⟨b, 0, none⟩ y0).setCell ⟨b, 1, none⟩ y1).setCell ⟨b, 2, none⟩ y2).setCell ⟨b, 3, none⟩ y3).setCell ⟨b, 4, none⟩ y4).setCell ⟨b, 5, none⟩ y5).heap[b]? = some (.cells #[y0, y1, y2, y3, y4, y5] t) :=
  heap_set (heap_set (heap_set (heap_set (heap_set (heap_set h 0 y0) 1 y1) 2 y2) 3 y3) 4 y4) 5 y5
/-- What is kept, as it lies and as it reads. -/
structure Hd where
  T : Int
  vo : Int
  base : Int
  bt : Int
  a : Option Addr
  c : Nat
  l : List Nat
  la : Option Addr
  lc : Nat
  ps : List En
abbrev hdL (h : Hd) : Value := .slice h.la h.ps.length h.lc
abbrev hdS (h : Hd) : Value := .slice h.a h.l.length h.c
abbrev hdV (h : Hd) : Value := .agg #[.int .i64 h.T, .int .i64 h.vo, .int .i64 h.base, .int .i64 h.bt, hdS h, hdL h]
/-- One that is handed in. -/
structure HIn (w : World) (h : Hd) : Prop where
  at_ : LAt w h.a h.l
  none : h.a = none → h.c = 0
  len : h.l.length ≤ 140737488355328
  log : EArr w h.la h.ps
  few : h.ps.length ≤ 4398046510976
theorem HIn.later {w w' : World} {h : Hd} (x : HIn w h) (hb : Below w.heap.size w w') : HIn w' h := ⟨x.at_.later hb, x.none, x.len, x.log.later hb, x.few⟩
/-- One of its own. -/
structure HRow (w0 w : World) (h : Hd) : Prop where
  row : Row w (hdS h) h.l
  new : New w0 (hdS h)
  len : h.l.length ≤ 140737488355328
  log : EL 64 w (hdL h) h.ps
  newL : ∀ k, ELB (hdL h) h.ps k → w0.heap.size ≤ k
  apart : ∀ k, (hdS h).ownBlock = some k → ¬ ELB (hdL h) h.ps k
theorem HRow.keep {w0 w w' : World} {h : Hd} {S : Nat → Prop} (x : HRow w0 w h) (t : Touch S w w') (hs : ∀ k, S k → (hdS h).ownBlock ≠ some k ∧ ¬ ELB (hdL h) h.ps k) : HRow w0 w' h :=
  ⟨x.row.keep t (fun k hk e => (hs k e).1 hk), x.new, x.len, x.log.keep t (fun k hk e => (hs k e).2 hk), x.newL, x.apart⟩
/-- The same in another's memory. -/
structure HSame (h g : Hd) : Prop where
  T : h.T = g.T
  vo : h.vo = g.vo
  base : h.base = g.base
  bt : h.bt = g.bt
  l : h.l = g.l
  ps : h.ps.map En.abs = g.ps.map En.abs
def OhPost (w : World) (h : Hd) (e : Ending) (w' : World) : Prop := ∃ g, e = .returned (hdV g) ∧ HSame g h ∧ HRow w w' g ∧ Below w.heap.size w w'
set_option maxRecDepth 100000 in
set_option maxHeartbeats 2000000 in
theorem ownHard_any {w : World} {h : Hd} (x : HIn w h) : Calls Try.prog 29 #[hdV h] w fun e w' => OhPost w h e w' := by
  obtain ⟨T, vo, base, bt, a, c, l, la, lc, ps⟩ := h
  obtain ⟨h1, h2, h3, h4, h5⟩ := x
  simp only at h1 h2 h3 h4 h5
  unfold hdV hdS hdL
  dsimp only
  have hA : Below w.heap.size w (w.alloc (.cells #[.int .i64 T, .int .i64 vo, .int .i64 base, .int .i64 bt, .slice a l.length c, .slice la ps.length lc] 52)) := (Below.refl _ _).alloc (Nat.le_refl _) _
  have hB : Below w.heap.size w ((w.alloc (.cells #[.int .i64 T, .int .i64 vo, .int .i64 base, .int .i64 bt, .slice a l.length c, .slice la ps.length lc] 52)).alloc (.cells #[.int .i64 0, .int .i64 0, .int .i64 0, .int .i64 0, .slice none 0 0, .slice none 0 0] 52)) := hA.alloc (by simp) _
  have K := hide (clone_any (h1.later hB) h2 h3)
  have HB := hide hB
  have G0 : Hid (((w.alloc (.cells #[.int .i64 T, .int .i64 vo, .int .i64 base, .int .i64 bt, .slice a l.length c, .slice la ps.length lc] 52)).alloc (.cells #[.int .i64 0, .int .i64 0, .int .i64 0, .int .i64 0, .slice none 0 0, .slice none 0 0] 52)).heap[w.heap.size]? = some (.cells #[.int .i64 T, .int .i64 vo, .int .i64 base, .int .i64 bt, .slice a l.length c, .slice la ps.length lc] 52)) := heap_old _ (heap_new _ _)
  have G1 : Hid (((w.alloc (.cells #[.int .i64 T, .int .i64 vo, .int .i64 base, .int .i64 bt, .slice a l.length c, .slice la ps.length lc] 52)).alloc (.cells #[.int .i64 0, .int .i64 0, .int .i64 0, .int .i64 0, .slice none 0 0, .slice none 0 0] 52)).heap[w.heap.size + 1]? = some (.cells #[.int .i64 0, .int .i64 0, .int .i64 0, .int .i64 0, .slice none 0 0, .slice none 0 0] 52)) := by
    have := heap_new (w.alloc (.cells #[.int .i64 T, .int .i64 vo, .int .i64 base, .int .i64 bt, .slice a l.length c, .slice la ps.length lc] 52)) (.cells #[.int .i64 0, .int .i64 0, .int .i64 0, .int .i64 0, .slice none 0 0, .slice none 0 0] 52)
    rw [World.size_alloc] at this
    exact this
  have Z : Hid (((w.alloc (.cells #[.int .i64 T, .int .i64 vo, .int .i64 base, .int .i64 bt, .slice a l.length c, .slice la ps.length lc] 52)).alloc (.cells #[.int .i64 0, .int .i64 0, .int .i64 0, .int .i64 0, .slice none 0 0, .slice none 0 0] 52)).heap.size = w.heap.size + 2) := by show _ = _; simp
  have k4 : ((w.alloc (.cells #[.int .i64 T, .int .i64 vo, .int .i64 base, .int .i64 bt, .slice a l.length c, .slice la ps.length lc] 52)).alloc (.cells #[.int .i64 0, .int .i64 0, .int .i64 0, .int .i64 0, .slice none 0 0, .slice none 0 0] 52)).cell? ⟨w.heap.size, 4, none⟩ = some (.slice a l.length c) := cell_of (unhide G0) 4
  have EA := hide h4
  have HL := hide h3
  clear h1 h2 hA hB h3 h4
  generalize hm : l.length = m at *
  have HM := hide hm
  clear hm
  have OE : Hid (∀ X, Below w.heap.size w X → Calls Try.prog 43 #[.slice la ps.length lc] X fun e w' => OsPost X (ps.map En.abs) e w') := fun X hX => ownEntries_any ((unhide EA).later hX) h5
  generalize hpl : ps.length = pl at *
  have HPL := hide hpl
  clear hpl h5
  go_enter Try.func29, Try.ntmps29
  go_wp2_with fail
  generalize (w.alloc (.cells #[.int .i64 T, .int .i64 vo, .int .i64 base, .int .i64 bt, .slice a m c, .slice la pl lc] 52)).alloc (.cells #[.int .i64 0, .int .i64 0, .int .i64 0, .int .i64 0, .slice none 0 0, .slice none 0 0] 52) = W at *
  refine (unhide K).mono ?_
  rintro e w1 ⟨a', c', rfl, r1, n1, b1⟩
  rw [unhide HM] at r1 n1 ⊢
  have g0 := below_keep b1 (unhide G0)
  have g1 := below_keep b1 (unhide G1)
  have x4 : w1.cell? ⟨w.heap.size, 4, none⟩ = some (.slice a m c) := cell_of g0 4
  have x5 : w1.cell? ⟨w.heap.size, 5, none⟩ = some (.slice la pl lc) := cell_of g0 5
  have f4 : w1.frozen? ⟨w.heap.size, 4, none⟩ = false := frozen_of g0 4
  have bw1 : Below w.heap.size w (w1.setCell ⟨w.heap.size, 4, none⟩ (.slice a' m c')) := ((unhide HB).trans (b1.mono (unhide HB).size)).setCell (p := ⟨w.heap.size, 4, none⟩) (Nat.le_refl _) _
  have OE1 := hide (unhide OE _ bw1)
  have hle : w.heap.size + 2 ≤ w1.heap.size := by have := b1.size; rw [unhide Z] at this; exact this
  have g0' : (w1.setCell ⟨w.heap.size, 4, none⟩ (.slice a' m c')).heap[w.heap.size]? = some (.cells #[.int .i64 T, .int .i64 vo, .int .i64 base, .int .i64 bt, .slice a' m c', .slice la pl lc] 52) := heap_set g0 4 _
  have g1' : (w1.setCell ⟨w.heap.size, 4, none⟩ (.slice a' m c')).heap[w.heap.size + 1]? = some (.cells #[.int .i64 0, .int .i64 0, .int .i64 0, .int .i64 0, .slice none 0 0, .slice none 0 0] 52) := (touch_set w1 w.heap.size 4 (.slice a' m c')).keep g1 (show ¬ w.heap.size + 1 = w.heap.size by omega)
  have s1 : (w1.setCell ⟨w.heap.size, 4, none⟩ (.slice a' m c')).heap.size = w1.heap.size := by simp [World.setCell]
  have R1' : Hid (Row (w1.setCell ⟨w.heap.size, 4, none⟩ (.slice a' m c')) (.slice a' m c') l) := r1.keep (touch_set w1 w.heap.size 4 _) (fun k hk e => by have := n1 k hk; rw [unhide Z] at this; omega)
  have G0' := hide g0'
  have G1' := hide g1'
  have BW1 := hide bw1
  have N1 := hide n1
  have RL := hide r1.lt
  have x5' : (w1.setCell ⟨w.heap.size, 4, none⟩ (.slice a' m c')).cell? ⟨w.heap.size, 5, none⟩ = some (.slice la pl lc) := cell_of g0' 5
  clear K HB G0 G1 k4 g0 g1 g0' g1' bw1 n1 r1 b1 OE
  go_wp2_with fail
  generalize w1.setCell ⟨w.heap.size, 4, none⟩ (.slice a' m c') = W1 at *
  refine (unhide OE1).mono ?_
  rintro e w2 ⟨v', ps', rfl, l2, q2, n2, b2⟩
  obtain ⟨la', lc', rfl⟩ := l2.row.shape
  have g0 := below_keep b2 (unhide G0')
  have g1 := below_keep b2 (unhide G1')
  have x0 : w2.cell? ⟨w.heap.size, 0, none⟩ = some (.int .i64 T) := cell_of g0 0
  have x1 : w2.cell? ⟨w.heap.size, 1, none⟩ = some (.int .i64 vo) := cell_of g0 1
  have x2 : w2.cell? ⟨w.heap.size, 2, none⟩ = some (.int .i64 base) := cell_of g0 2
  have x3 : w2.cell? ⟨w.heap.size, 3, none⟩ = some (.int .i64 bt) := cell_of g0 3
  have x4 : w2.cell? ⟨w.heap.size, 4, none⟩ = some (.slice a' m c') := cell_of g0 4
  have x5 : w2.cell? ⟨w.heap.size, 5, none⟩ = some (.slice la pl lc) := cell_of g0 5
  have f5 : w2.frozen? ⟨w.heap.size, 5, none⟩ = false := frozen_of g0 5
  have y0 : w2.cell? ⟨w.heap.size + 1, 0, none⟩ = some (.int .i64 0) := cell_of g1 0
  have y1 : w2.cell? ⟨w.heap.size + 1, 1, none⟩ = some (.int .i64 0) := cell_of g1 1
  have y2 : w2.cell? ⟨w.heap.size + 1, 2, none⟩ = some (.int .i64 0) := cell_of g1 2
  have y3 : w2.cell? ⟨w.heap.size + 1, 3, none⟩ = some (.int .i64 0) := cell_of g1 3
  have y4 : w2.cell? ⟨w.heap.size + 1, 4, none⟩ = some (.slice none 0 0) := cell_of g1 4
  have y5 : w2.cell? ⟨w.heap.size + 1, 5, none⟩ = some (.slice none 0 0) := cell_of g1 5
  have e0 : w2.frozen? ⟨w.heap.size + 1, 0, none⟩ = false := frozen_of g1 0
  have e1 : w2.frozen? ⟨w.heap.size + 1, 1, none⟩ = false := frozen_of g1 1
  have e2 : w2.frozen? ⟨w.heap.size + 1, 2, none⟩ = false := frozen_of g1 2
  have e3 : w2.frozen? ⟨w.heap.size + 1, 3, none⟩ = false := frozen_of g1 3
  have e4 : w2.frozen? ⟨w.heap.size + 1, 4, none⟩ = false := frozen_of g1 4
  have e5 : w2.frozen? ⟨w.heap.size + 1, 5, none⟩ = false := frozen_of g1 5
  have hle2 : w.heap.size + 2 ≤ w2.heap.size := by have := b2.size; omega
  have F : Hid (∀ V, V = (((((((w2.setCell ⟨w.heap.size, 5, none⟩ (.slice la' ps'.length lc')).setCell ⟨w.heap.size + 1, 0, none⟩ (.int .i64 T)).setCell ⟨w.heap.size + 1, 1, none⟩ (.int .i64 vo)).setCell ⟨w.heap.size + 1, 2, none⟩ (.int .i64 base)).setCell ⟨w.heap.size + 1, 3, none⟩ (.int .i64 bt)).setCell ⟨w.heap.size + 1, 4, none⟩ (.slice a' m c')).setCell ⟨w.heap.size + 1, 5, none⟩ (.slice la' ps'.length lc')) →
      V.heap[w.heap.size + 1]? = some (.cells #[.int .i64 T, .int .i64 vo, .int .i64 base, .int .i64 bt, .slice a' m c', .slice la' ps'.length lc'] 52) ∧ OhPost w ⟨T, vo, base, bt, a, c, l, la, lc, ps⟩ (.returned (.agg #[.int .i64 T, .int .i64 vo, .int .i64 base, .int .i64 bt, .slice a' m c', .slice la' ps'.length lc'])) V) := fun V hV => by
    subst hV
    have t1 := touch_set w2 w.heap.size 5 (.slice la' ps'.length lc')
    have gg := t1.keep g1 (show ¬ w.heap.size + 1 = w.heap.size by omega)
    have TT : Touch (fun k => k = w.heap.size ∨ k = w.heap.size + 1) w2 (((((((w2.setCell ⟨w.heap.size, 5, none⟩ (.slice la' ps'.length lc')).setCell ⟨w.heap.size + 1, 0, none⟩ (.int .i64 T)).setCell ⟨w.heap.size + 1, 1, none⟩ (.int .i64 vo)).setCell ⟨w.heap.size + 1, 2, none⟩ (.int .i64 base)).setCell ⟨w.heap.size + 1, 3, none⟩ (.int .i64 bt)).setCell ⟨w.heap.size + 1, 4, none⟩ (.slice a' m c')).setCell ⟨w.heap.size + 1, 5, none⟩ (.slice la' ps'.length lc')) :=
      (((((((Touch.refl _ w2).setCell (p := ⟨w.heap.size, 5, none⟩) (.inl rfl) _).setCell (p := ⟨w.heap.size + 1, 0, none⟩) (.inr rfl) _).setCell (p := ⟨w.heap.size + 1, 1, none⟩) (.inr rfl) _).setCell (p := ⟨w.heap.size + 1, 2, none⟩) (.inr rfl) _).setCell (p := ⟨w.heap.size + 1, 3, none⟩) (.inr rfl) _).setCell (p := ⟨w.heap.size + 1, 4, none⟩) (.inr rfl) _).setCell (p := ⟨w.heap.size + 1, 5, none⟩) (.inr rfl) _
    have hn1 : ∀ k, (Value.slice a' m c').ownBlock = some k → w.heap.size + 2 ≤ k ∧ k < w1.heap.size := fun k hk => by
      have h1 := unhide N1 k hk
      have h2 := unhide RL k hk
      rw [unhide Z] at h1
      omega
    refine ⟨set6 gg _ _ _ _ _ _, ⟨T, vo, base, bt, a', c', l, la', lc', ps'⟩, ?_, ⟨rfl, rfl, rfl, rfl, rfl, q2⟩, ⟨?_, ?_, ?_, ?_, ?_, ?_⟩, ?_⟩
    · show _ = Ending.returned (.agg #[.int .i64 T, .int .i64 vo, .int .i64 base, .int .i64 bt, .slice a' l.length c', .slice la' ps'.length lc'])
      rw [unhide HM]
    · show Row _ (.slice a' l.length c') l
      rw [unhide HM]
      exact ((unhide R1').later b2).keep TT (fun k hk e => by have := hn1 k hk; omega)
    · show New w (.slice a' l.length c')
      rw [unhide HM]
      intro k hk
      have := hn1 k hk
      omega
    · show l.length ≤ _
      rw [unhide HM]; exact unhide HL
    · exact l2.keep TT (fun k hk e => by have := n2 k hk; omega)
    · intro k hk
      have := n2 k hk
      omega
    · show ∀ k, (Value.slice a' l.length c').ownBlock = some k → _
      rw [unhide HM]
      intro k hk e
      have h1 := hn1 k hk
      have h2 := n2 k e
      omega
    · have bb : Below w.heap.size w w2 := (unhide BW1).trans (b2.mono (unhide BW1).size)
      exact below_touch bb TT bb.size (fun k hk => by omega)
  clear OE1 G0' G1' BW1 N1 RL R1' l2 q2 n2 b2 g0 g1 HL HM HPL EA Z
  go_wp2
  obtain ⟨vg, vf⟩ := unhide F _ rfl
  generalize ((((((w2.setCell ⟨w.heap.size, 5, none⟩ (.slice la' ps'.length lc')).setCell ⟨w.heap.size + 1, 0, none⟩ (.int .i64 T)).setCell ⟨w.heap.size + 1, 1, none⟩ (.int .i64 vo)).setCell ⟨w.heap.size + 1, 2, none⟩ (.int .i64 base)).setCell ⟨w.heap.size + 1, 3, none⟩ (.int .i64 bt)).setCell ⟨w.heap.size + 1, 4, none⟩ (.slice a' m c')).setCell ⟨w.heap.size + 1, 5, none⟩ (.slice la' ps'.length lc') = V at *
  have v0 := cell_of vg 0
  have v1 := cell_of vg 1
  have v2 := cell_of vg 2
  have v3 := cell_of vg 3
  have v4 := cell_of vg 4
  have v5 := cell_of vg 5
  simp only [List.getElem?_toArray, List.getElem?_cons_zero, List.getElem?_cons_succ] at v0 v1 v2 v3 v4 v5
  refine bodyPost_ret (by simp [results, Try.results29, go_sem, v0, v1, v2, v3, v4, v5]; try rfl) rfl ?_
  exact vf
end Go.Proofs.Ytibjfekfkllnjaa
