/-
  SegNone's walk: without a disk there is no log; what there isn't holds nothing. No conditions.
-/
import Derived.Test.YtkcoeofbobkaoabGreatDoorSy8
import Derived.Test.YtkcoeofbobkaoabGreatDoorSh2

/-
  seglog's Read of a log with one segment of one batch, from 0 on. Conditions: what the log and its disk are.
-/
namespace Go.Proofs.YtkcoeofbobkaoabGreatDoor
open Go.RowKit Go.Shelf Go.Sort
set_option linter.unusedVariables false

section
variable {w : World} {lb db : Nat} {gs cap : Nat}
set_option maxRecDepth 100000 in
/-- Does the segment begin behind the offset? -/
theorem readF (b0 b1 : Nat) (h0 : w.cell? ⟨b0, 0, none⟩ = some (.pointer (some ⟨lb, 0, none⟩))) (h1 : w.cell? ⟨b1, 0, none⟩ = some (.int .i64 0)) (h2 : w.cell? ⟨lb, 261, none⟩ = some (.slice (some ⟨gs, 0, none⟩) 1 cap)) (h3 : w.cell? ⟨gs, 0, none⟩ = some (.int .i64 0)) :
    Calls Tryz.prog 46 #[.int .i64 0, .pointer (some ⟨b0, 0, none⟩), .pointer (some ⟨b1, 0, none⟩)] w fun e w' => e = .returned (.bool false) ∧ ∃ n, w' = w.drewN n := by
  go_enter Tryz.func46, Tryz.ntmps46
  go_wp2_with fail
  go_quiet (fail)
  go_wp2
  go_returns
  exact ⟨rfl, _, rfl⟩
theorem grow_cell {W : World} {os : Array Obj} {m g j : Nat} (hg : g < W.heap.size) : (grow (W.drewN m) os).cell? ⟨g, j, none⟩ = W.cell? ⟨g, j, none⟩ := (below_grown_sl W.heap.size W m os (Nat.le_refl _)).cell (p := ⟨g, j, none⟩) hg
theorem search1 (b0 b1 : Nat) (h0 : w.cell? ⟨b0, 0, none⟩ = some (.pointer (some ⟨lb, 0, none⟩))) (h1 : w.cell? ⟨b1, 0, none⟩ = some (.int .i64 0)) (h2 : w.cell? ⟨lb, 261, none⟩ = some (.slice (some ⟨gs, 0, none⟩) 1 cap)) (h3 : w.cell? ⟨gs, 0, none⟩ = some (.int .i64 0)) (l0 : b0 < w.heap.size) (l1 : b1 < w.heap.size) (l2 : lb < w.heap.size) (l3 : gs < w.heap.size) :
    Calls Tryz.prog 45 #[.int .i64 1, .func (.func 46) #[] #[.pointer (some ⟨b0, 0, none⟩), .pointer (some ⟨b1, 0, none⟩)]] w fun e w' => AnsPost w (.int .i64 1) e w' := by
  have := Any.sort_Search Tryz.laysSearch 46 #[.pointer (some ⟨b0, 0, none⟩), .pointer (some ⟨b1, 0, none⟩)] 1 (fun _ => false) w (enters_of Tryz.func46 (by kernel_rfl) rfl) (by decide)
    (fun m os i hi => by
      obtain rfl : i = 0 := by omega
      refine (readF (w := grow (w.drewN m) os) b0 b1 (by rw [grow_cell l0]; exact h0) (by rw [grow_cell l1]; exact h1) (by rw [grow_cell l2]; exact h2) (by rw [grow_cell l3]; exact h3)).mono ?_
      rintro e w' ⟨rfl, n, rfl⟩
      exact ⟨rfl, n, #[], by rw [grow_empty]⟩)
    (fun a b _ _ h => by cases h)
  refine this.mono ?_
  rintro e w' ⟨he, q, os, rfl⟩
  exact ⟨he, below_grown_sl _ _ _ _ (Nat.le_refl _)⟩
end
theorem batch_info : ∃ i z, Tryz.prog.info? 29 = some i ∧ i.zero = some z ∧ i.size = 9 ∧ i.bytes = 72 ∧ z.cells.size = 9 := by
  have h : (Tryz.prog.info? 29).map (fun i => (i.zero.map (fun z => z.cells.size), i.size, i.bytes)) = some (some 9, 9, 72) := by kernel_rfl
  cases hi : Tryz.prog.info? 29 with
  | none => rw [hi] at h; cases h
  | some i =>
    rw [hi] at h
    simp only [Option.map_some, Option.some.injEq, Prod.mk.injEq] at h
    obtain ⟨h1, h2, h3⟩ := h
    cases hz : i.zero with
    | none => rw [hz] at h1; cases h1
    | some z => rw [hz] at h1; exact ⟨i, z, rfl, hz, h2, h3, by simpa using h1⟩
def RdPost (w : World) (e : Ending) (w' : World) : Prop := ∃ a c, e = .returned (.slice a 1 c) ∧ Below w.heap.size w w'
section
variable {B : Nat} {w : World} {lb db : Nat} {S : Nat → Prop} {gs cap : Nat} {v : Value} {a : Option Addr} {c la : Nat}
set_option maxRecDepth 100000 in
set_option maxHeartbeats 2000000 in
theorem read1 (h : Lg1 B w lb db S (one f0 t3 la) p0 gs cap (sx v a c la)) :
    Calls Tryz.prog 16 #[.pointer (some ⟨lb, 0, none⟩), .int .i64 0, .int .i64 9] w fun e w' => RdPost w e w' := by
  obtain ⟨x0, x1, x2⟩ := h.ready.outer
  simp only at x0 x1 x2
  have hlb := h.ready.lt
  have hgs := h.glt
  have hcap : 1 ≤ cap ∧ cap ≤ 9223372036854775807 := by
    obtain ⟨_, _, e, h1, h2, _⟩ := h.row.parts
    cases e
    unfold maxLen at h2
    exact ⟨h1, by omega⟩
  obtain ⟨hc1, hc2⟩ := hcap
  have hA : Below w.heap.size w ((w.alloc (.cells #[.pointer (some ⟨lb, 0, none⟩)] 39)).alloc (.cells #[.int .i64 0] 3)) := ((Below.refl _ _).alloc (Nat.le_refl _) _).alloc (by simp) _
  have HL := hide h
  have LW := hide (h.later hA)
  have q0 : ((w.alloc (.cells #[.pointer (some ⟨lb, 0, none⟩)] 39)).alloc (.cells #[.int .i64 0] 3)).cell? ⟨w.heap.size, 0, none⟩ = some (.pointer (some ⟨lb, 0, none⟩)) := by
    have h1 : (w.alloc (.cells #[.pointer (some ⟨lb, 0, none⟩)] 39)).heap[w.heap.size]? = some (.cells #[.pointer (some ⟨lb, 0, none⟩)] 39) := heap_new _ _
    exact cell_of (heap_old _ h1) 0
  have q1 : ((w.alloc (.cells #[.pointer (some ⟨lb, 0, none⟩)] 39)).alloc (.cells #[.int .i64 0] 3)).cell? ⟨w.heap.size + 1, 0, none⟩ = some (.int .i64 0) := by
    simp
  have SE := hide (search1 (w := (w.alloc (.cells #[.pointer (some ⟨lb, 0, none⟩)] 39)).alloc (.cells #[.int .i64 0] 3)) w.heap.size (w.heap.size + 1) q0 q1 (unhide LW).ready.outer.2.2 (unhide LW).sg.c0 (by simp; omega) (by simp) (unhide LW).ready.lt (unhide LW).glt)
  have BA := hide hA
  clear h hA
  go_enter Tryz.func16, Tryz.ntmps16
  go_wp2_with fail
  refine (unhide SE).mono ?_
  rintro e w1 ⟨rfl, b1⟩
  have L1 := hide ((unhide LW).later b1)
  have r0 : w1.cell? ⟨w.heap.size, 0, none⟩ = some (.pointer (some ⟨lb, 0, none⟩)) := (b1.cell (p := ⟨w.heap.size, 0, none⟩) (by simp; omega)).trans q0
  have r1 : w1.cell? ⟨w.heap.size + 1, 0, none⟩ = some (.int .i64 0) := (b1.cell (p := ⟨w.heap.size + 1, 0, none⟩) (by simp)).trans q1
  have hfb : w.heap.size + 1 < w1.heap.size := by have := b1.size; simp at this; omega
  have B1 := hide ((unhide BA).trans (b1.mono (unhide BA).size))
  obtain ⟨y0, y1, y2⟩ := (unhide L1).ready.outer
  simp only at y0 y1 y2
  have g0 : w1.cell? ⟨gs, 0, none⟩ = some (.int .i64 0) := (unhide L1).sg.c0
  have g1 : w1.cell? ⟨gs, 1, none⟩ = some v := (unhide L1).sg.c1
  have g2 : w1.cell? ⟨gs, 2, none⟩ = some (.int .i64 (la : Nat)) := (unhide L1).sg.c2
  obtain ⟨gv, cv, hv, _, hv1, hv2, _⟩ := sx_cells (unhide L1).sg
  subst hv
  clear b1 SE LW BA q0 q1 x0 x1 x2
  go_wp2_with fail
  go_loopw [7, 31] (fun p q wr => (q = .int .i64 0 ∧ (∃ v0 : Value, v0 = p ∧ v0 = .slice none 0 0) ∧ wr = w1) ∨ (q = .int .i64 1 ∧ ∃ a' c', p = .slice a' 1 c' ∧ Below w.heap.size w wr)) (fun _ q _ => 1 - (intOf q).toNat)
  case atStart => exact .inl ⟨rfl, ⟨_, rfl, rfl⟩, rfl⟩
  case round =>
    rcases hrel with ⟨rfl, ⟨v0, rfl, hv0⟩, rfl⟩ | ⟨rfl, a', c', rfl, hb⟩
    · subst hv0
      have hb2 : Below wr.heap.size wr (wr.alloc (.cells #[.int .i64 0, .slice (some ⟨gv, 0, none⟩) 1 cv, .int .i64 (la : Nat)] 104)) := (Below.refl _ _).alloc (Nat.le_refl _) _
      have L2 := hide ((unhide L1).later hb2)
      have s2 : (wr.alloc (.cells #[.int .i64 0, .slice (some ⟨gv, 0, none⟩) 1 cv, .int .i64 (la : Nat)] 104)).cell? ⟨w.heap.size + 1, 0, none⟩ = some (.int .i64 0) := (hb2.cell (p := ⟨w.heap.size + 1, 0, none⟩) hfb).trans r1
      have B2 := hide ((unhide B1).trans (hb2.mono (unhide B1).size))
      have hf2 : w.heap.size + 1 < (wr.alloc (.cells #[.int .i64 0, .slice (some ⟨gv, 0, none⟩) 1 cv, .int .i64 (la : Nat)] 104)).heap.size := Nat.lt_of_lt_of_le hfb hb2.size
      have F2 := hide s2
      have HF2 := hide hf2
      clear hb2 s2 hf2
      go_wp2_with fail
      generalize (wr.alloc (.cells #[.int .i64 0, .slice (some ⟨gv, 0, none⟩) 1 cv, .int .i64 (la : Nat)] 104)) = W2 at *
      obtain ⟨gv', cv', e', _, _, _, k0, k1, k2, k3, k4, k5, k6, k7, k8, k9⟩ := sx_cells (unhide L2).sg
      injection e' with e1 e2 e3
      injection e1 with e4
      injection e4 with e5
      subst e5
      clear e2 e3 r0 r1 y0 y1 y2 g0 g1 g2 L1 B1
      go_loopw [7, 38] (fun p q wr => (q = .int .i64 0 ∧ (∃ v0 : Value, v0 = p ∧ v0 = .slice none 0 0) ∧ wr = W2) ∨ (q = .int .i64 1 ∧ ∃ a' c', p = .slice a' 1 c' ∧ Below w.heap.size w wr)) (fun _ q _ => 1 - (intOf q).toNat)
      case atStart => exact .inl ⟨rfl, ⟨_, rfl, rfl⟩, rfl⟩
      case round =>
        rcases hrel with ⟨rfl, ⟨v0, rfl, hv0⟩, rfl⟩ | ⟨rfl, a', c', rfl, hb⟩
        · subst hv0
          have hb3 : Below wr.heap.size wr (wr.alloc (.cells #[.int .i64 0, .int .i64 0, .int .u64 0, .int .i64 0, .int .i64 0, .bool false, .bool false, .bool false, .slice a 3 c, .int .i64 20] 107)) := (Below.refl _ _).alloc (Nat.le_refl _) _
          have L3 := hide ((unhide L2).later hb3)
          have hx : (wr.alloc (.cells #[.int .i64 0, .int .i64 0, .int .u64 0, .int .i64 0, .int .i64 0, .bool false, .bool false, .bool false, .slice a 3 c, .int .i64 20] 107)).heap[wr.heap.size]? = some (.cells #[.int .i64 0, .int .i64 0, .int .u64 0, .int .i64 0, .int .i64 0, .bool false, .bool false, .bool false, .slice a 3 c, .int .i64 20] 107) := heap_new _ _
          have KX : Hid ((wr.alloc (.cells #[.int .i64 0, .int .i64 0, .int .u64 0, .int .i64 0, .int .i64 0, .bool false, .bool false, .bool false, .slice a 3 c, .int .i64 20] 107)).cell? ⟨wr.heap.size, 0, none⟩ = some (.int .i64 0) ∧ (wr.alloc (.cells #[.int .i64 0, .int .i64 0, .int .u64 0, .int .i64 0, .int .i64 0, .bool false, .bool false, .bool false, .slice a 3 c, .int .i64 20] 107)).cell? ⟨wr.heap.size, 1, none⟩ = some (.int .i64 0) ∧ (wr.alloc (.cells #[.int .i64 0, .int .i64 0, .int .u64 0, .int .i64 0, .int .i64 0, .bool false, .bool false, .bool false, .slice a 3 c, .int .i64 20] 107)).cell? ⟨wr.heap.size, 2, none⟩ = some (.int .u64 0) ∧ (wr.alloc (.cells #[.int .i64 0, .int .i64 0, .int .u64 0, .int .i64 0, .int .i64 0, .bool false, .bool false, .bool false, .slice a 3 c, .int .i64 20] 107)).cell? ⟨wr.heap.size, 3, none⟩ = some (.int .i64 0) ∧ (wr.alloc (.cells #[.int .i64 0, .int .i64 0, .int .u64 0, .int .i64 0, .int .i64 0, .bool false, .bool false, .bool false, .slice a 3 c, .int .i64 20] 107)).cell? ⟨wr.heap.size, 4, none⟩ = some (.int .i64 0) ∧ (wr.alloc (.cells #[.int .i64 0, .int .i64 0, .int .u64 0, .int .i64 0, .int .i64 0, .bool false, .bool false, .bool false, .slice a 3 c, .int .i64 20] 107)).cell? ⟨wr.heap.size, 5, none⟩ = some (.bool false) ∧ (wr.alloc (.cells #[.int .i64 0, .int .i64 0, .int .u64 0, .int .i64 0, .int .i64 0, .bool false, .bool false, .bool false, .slice a 3 c, .int .i64 20] 107)).cell? ⟨wr.heap.size, 6, none⟩ = some (.bool false) ∧ (wr.alloc (.cells #[.int .i64 0, .int .i64 0, .int .u64 0, .int .i64 0, .int .i64 0, .bool false, .bool false, .bool false, .slice a 3 c, .int .i64 20] 107)).cell? ⟨wr.heap.size, 7, none⟩ = some (.bool false) ∧ (wr.alloc (.cells #[.int .i64 0, .int .i64 0, .int .u64 0, .int .i64 0, .int .i64 0, .bool false, .bool false, .bool false, .slice a 3 c, .int .i64 20] 107)).cell? ⟨wr.heap.size, 8, none⟩ = some (.slice a 3 c) ∧ (wr.alloc (.cells #[.int .i64 0, .int .i64 0, .int .u64 0, .int .i64 0, .int .i64 0, .bool false, .bool false, .bool false, .slice a 3 c, .int .i64 20] 107)).cell? ⟨wr.heap.size, 9, none⟩ = some (.int .i64 20) ∧ (wr.alloc (.cells #[.int .i64 0, .int .i64 0, .int .u64 0, .int .i64 0, .int .i64 0, .bool false, .bool false, .bool false, .slice a 3 c, .int .i64 20] 107)).cell? ⟨w.heap.size + 1, 0, none⟩ = some (.int .i64 0)) := ⟨cell_of hx 0, cell_of hx 1, cell_of hx 2, cell_of hx 3, cell_of hx 4, cell_of hx 5, cell_of hx 6, cell_of hx 7, cell_of hx 8, cell_of hx 9, (hb3.cell (p := ⟨w.heap.size + 1, 0, none⟩) (unhide HF2)).trans (unhide F2)⟩
          have B3 := hide ((unhide B2).trans (hb3.mono (unhide B2).size))
          have hx3 : wr.heap.size < (wr.alloc (.cells #[.int .i64 0, .int .i64 0, .int .u64 0, .int .i64 0, .int .i64 0, .bool false, .bool false, .bool false, .slice a 3 c, .int .i64 20] 107)).heap.size := lt_of_heap hx
          have hf3 : w.heap.size + 1 < (wr.alloc (.cells #[.int .i64 0, .int .i64 0, .int .u64 0, .int .i64 0, .int .i64 0, .bool false, .bool false, .bool false, .slice a 3 c, .int .i64 20] 107)).heap.size := Nat.lt_of_lt_of_le (unhide HF2) hb3.size
          have HX3 := hide hx3
          have HF3 := hide hf3
          clear hb3 hx hx3 hf3
          go_wp2_with fail
          generalize (wr.alloc (.cells #[.int .i64 0, .int .i64 0, .int .u64 0, .int .i64 0, .int .i64 0, .bool false, .bool false, .bool false, .slice a 3 c, .int .i64 20] 107)) = W3 at *
          generalize wr.heap.size = xb at *
          have KE : Hid (∀ W, Below W3.heap.size W3 W → Calls Tryz.prog 47 #[.agg #[.int .i64 0, .int .i64 0, .int .u64 0, .int .i64 0, .int .i64 0, .bool false, .bool false, .bool false, .slice a 3 c, .int .i64 20]] W fun e w' => e = .returned (.int .i64 3) ∧ Below W3.heap.size W3 w') := fun W hb => (laidEnd_any ⟨b3, 20, a, c⟩ W (x3_low a c)).mono fun e w' h => ⟨h.1, hb.trans (h.2.mono hb.size)⟩
          have KEEP : Hid (∀ W, Below W3.heap.size W3 W → (W.cell? ⟨xb, 0, none⟩ = some (.int .i64 0) ∧ W.cell? ⟨xb, 1, none⟩ = some (.int .i64 0) ∧ W.cell? ⟨xb, 2, none⟩ = some (.int .u64 0) ∧ W.cell? ⟨xb, 3, none⟩ = some (.int .i64 0) ∧ W.cell? ⟨xb, 4, none⟩ = some (.int .i64 0) ∧ W.cell? ⟨xb, 5, none⟩ = some (.bool false) ∧ W.cell? ⟨xb, 6, none⟩ = some (.bool false) ∧ W.cell? ⟨xb, 7, none⟩ = some (.bool false) ∧ W.cell? ⟨xb, 8, none⟩ = some (.slice a 3 c) ∧ W.cell? ⟨xb, 9, none⟩ = some (.int .i64 20) ∧ W.cell? ⟨w.heap.size + 1, 0, none⟩ = some (.int .i64 0))) := fun W hb => ⟨(hb.cell (p := ⟨xb, 0, none⟩) (unhide HX3)).trans (unhide KX).1, (hb.cell (p := ⟨xb, 1, none⟩) (unhide HX3)).trans (unhide KX).2.1, (hb.cell (p := ⟨xb, 2, none⟩) (unhide HX3)).trans (unhide KX).2.2.1, (hb.cell (p := ⟨xb, 3, none⟩) (unhide HX3)).trans (unhide KX).2.2.2.1, (hb.cell (p := ⟨xb, 4, none⟩) (unhide HX3)).trans (unhide KX).2.2.2.2.1, (hb.cell (p := ⟨xb, 5, none⟩) (unhide HX3)).trans (unhide KX).2.2.2.2.2.1, (hb.cell (p := ⟨xb, 6, none⟩) (unhide HX3)).trans (unhide KX).2.2.2.2.2.2.1, (hb.cell (p := ⟨xb, 7, none⟩) (unhide HX3)).trans (unhide KX).2.2.2.2.2.2.2.1, (hb.cell (p := ⟨xb, 8, none⟩) (unhide HX3)).trans (unhide KX).2.2.2.2.2.2.2.2.1, (hb.cell (p := ⟨xb, 9, none⟩) (unhide HX3)).trans (unhide KX).2.2.2.2.2.2.2.2.2.1, (hb.cell (p := ⟨w.heap.size + 1, 0, none⟩) (unhide HF3)).trans (unhide KX).2.2.2.2.2.2.2.2.2.2⟩
          clear k0 k1 k2 k3 k4 k5 k6 k7 k8 k9
          obtain ⟨k0, k1, k2, k3, k4, k5, k6, k7, k8, k9, kf⟩ := unhide KX
          go_region_held3 (fun w' => w'.cell? ⟨xb, 0, none⟩ = some (.int .i64 0) ∧ w'.cell? ⟨xb, 1, none⟩ = some (.int .i64 0) ∧ w'.cell? ⟨xb, 2, none⟩ = some (.int .u64 0) ∧ w'.cell? ⟨xb, 3, none⟩ = some (.int .i64 0) ∧ w'.cell? ⟨xb, 4, none⟩ = some (.int .i64 0) ∧ w'.cell? ⟨xb, 5, none⟩ = some (.bool false) ∧ w'.cell? ⟨xb, 6, none⟩ = some (.bool false) ∧ w'.cell? ⟨xb, 7, none⟩ = some (.bool false) ∧ w'.cell? ⟨xb, 8, none⟩ = some (.slice a 3 c) ∧ w'.cell? ⟨xb, 9, none⟩ = some (.int .i64 20) ∧ w'.cell? ⟨w.heap.size + 1, 0, none⟩ = some (.int .i64 0)) (first | exact unhide KX | exact unhide KEEP _ (by first | assumption | (go_grown; done) | exact below_drewN3 (Below.refl _ _) _ | exact below_drewN3 (by assumption) _ | exact Below.drew (by assumption) | exact (below_drewN3 (Below.refl _ _) _).drew | exact Below.refl _ _)) (first
            | (go_at_call 47; refine (unhide KE _ (by first | assumption | (go_grown; done) | exact below_drewN3 (Below.refl _ _) _ | exact below_drewN3 (by assumption) _ | exact Below.drew (by assumption) | exact (below_drewN3 (Below.refl _ _) _).drew | exact Below.refl _ _)).mono ?_; rintro e w4 ⟨rfl, b4⟩))
          all_goals
            clear k0 k1 k2 k3 k4 k5 k6 k7 k8 k9 kf
            obtain ⟨k0, k1, k2, k3, k4, k5, k6, k7, k8, k9, kf⟩ := unhide KEEP w4 b4
            have L4 := hide ((unhide L3).later b4)
            have B4 := hide ((unhide B3).trans (b4.mono (unhide B3).size))
            obtain ⟨aa, cc, ev, ra, _, _, hna, _⟩ := ((unhide L4).vals ⟨b3, 20, a, c⟩ (List.mem_singleton.2 rfl)).parts
            cases ev
            have CO : Hid (Calls Tryz.prog 48 #[.agg #[.int .i64 0, .int .i64 0, .int .u64 0, .int .i64 0, .int .i64 0, .bool false, .bool false, .bool false, .slice a 3 c]] w4 fun e w' => ∃ a6 c6, e = .returned (.agg #[.int .i64 0, .int .i64 0, .int .u64 0, .int .i64 0, .int .i64 0, .bool false, .bool false, .bool false, .slice a6 3 c6]) ∧ Below w4.heap.size w4 w') := (copied8_any b3 a c w4 ra hna (by decide) (by decide)).mono fun e w' h => by
              obtain ⟨x, y, h1, h2⟩ := h
              exact ⟨x, y, h1, h2.2.2⟩
            clear b4 ra
            go_wp2_with fail
            refine (unhide CO).mono ?_
            rintro e w5 ⟨a6, c6, rfl, b5⟩
            have B5 := hide ((unhide B4).trans (b5.mono (unhide B4).size))
            obtain ⟨si, sz, hi, hz, hsz, hby, hzs⟩ := batch_info
            have HI := hide hi
            have HZ := hide hz
            clear hi hz b5 k0 k1 k2 k3 k4 k5 k6 k7 k8 k9 kf CO
            have SRC : Hid (∀ j u, ([.int .i64 0, .int .i64 0, .int .u64 0, .int .i64 0, .int .i64 0, .bool false, .bool false, .bool false, .slice a6 3 c6] : List Value)[j]? = some u → (w5.alloc (.cells #[.int .i64 0, .int .i64 0, .int .u64 0, .int .i64 0, .int .i64 0, .bool false, .bool false, .bool false, .slice a6 3 c6] 29)).cell? ⟨w5.heap.size, 0 + j, none⟩ = some u) := fun j u hj => by
              rw [cell_of (heap_new _ _), Nat.zero_add, ← Array.getElem?_toList]
              exact hj
            have ONE : Hid (∀ u ∈ ([.int .i64 0, .int .i64 0, .int .u64 0, .int .i64 0, .int .i64 0, .bool false, .bool false, .bool false, .slice a6 3 c6] : List Value), u.oneCell' = true) := by intro u hu; simp at hu; rcases hu with rfl | rfl | rfl | rfl | rfl <;> rfl
            go_wp2_with (at_builtin; refine wpList_wide _ rfl (.tmp 51) (.tmp 55) 22 rfl 29 si sz 9 72 Tryz.underlying22 (unhide HI) (unhide HZ) hsz hby hzs (by omega) (.slice none 0 0) 0 [] rfl (Wide.nil _ _ _) w5.heap.size 0 1 [.int .i64 0, .int .i64 0, .int .u64 0, .int .i64 0, .int .i64 0, .bool false, .bool false, .bool false, .slice a6 3 c6] rfl rfl (unhide SRC) (unhide ONE) (by decide) (by decide) ?_)
            intro v7 w7 o7 t7 m7
            have B7 : Hid (Below w.heap.size w w7) := below_touch (below_touch (unhide B5) ((Touch.refl (fun _ => False) w5).alloc _) (unhide B5).size (fun _ h => h.elim)) t7 (by have := (unhide B5).size; simp; omega) (fun k hk => by simp [Value.ownBlock] at hk)
            obtain ⟨a7, c7, rfl⟩ := o7.shape
            clear o7 t7 m7 SRC ONE HI HZ
            go_wp2
            go_roundw
            case rel => exact .inr ⟨rfl, a7, c7, rfl, unhide B7⟩
            case measure => simp [intOf]
        · have HB := hide hb
          clear hb
          go_wp2
          go_roundw
          case rel => exact .inr ⟨rfl, a', c', rfl, unhide HB⟩
          case measure => simp [intOf]
    · have HB := hide hb
      clear hb
      go_wp2
      go_returns
      exact ⟨_, _, rfl, unhide HB⟩
end
end Go.Proofs.YtkcoeofbobkaoabGreatDoor


/-
  'awake' of layer 8: a batch is laid, flushed, and there behind a crash. No conditions.
-/
namespace Go.Proofs.YtkcoeofbobkaoabGreatDoor
open Go.RowKit
set_option linter.unusedVariables false

theorem crash_same : crD (u64N 0) (one f0 t3 20) = one f0 t3 20 := by
  have h0 : u64N 0 = 0 := rfl
  rw [h0, one_crash, Nat.zero_mod, Nat.add_zero]
  have : t3.take 20 = t3 := List.take_of_length_le (by rw [t3_len]; omega)
  rw [this]
set_option maxRecDepth 100000 in
set_option maxHeartbeats 2000000 in
theorem awake8_any (w : World) :
    Calls Tryz.prog 10 #[] w fun e w' => e = .returned (.bool true) ∧ Below w.heap.size w w' := by
  go_enter Tryz.func10, Tryz.ntmps10
  go_wp2_with fail
  refine (dnew_any w).mono ?_
  rintro e w1 ⟨rfl, g1⟩
  obtain ⟨S1, ds1⟩ := Ds.new g1
  have O1 := hide (open0 (B := w.heap.size) ds1.disk ds1.base ds1.below.size rfl rfl)
  have B1 := hide ds1.below
  clear g1 ds1
  generalize hdb : w.heap.size = db at *
  have HDB := hide hdb
  clear hdb
  go_wp2_with fail
  refine (unhide O1).mono ?_
  rintro e w2 ⟨lb, S2, rfl, l2, bl2⟩
  have L2 := hide l2
  have B2 := hide ((unhide B1).trans bl2)
  have hA : Below w2.heap.size w2 (w2.alloc (.cells #[.slice none 0 0, .slice none 0 0, .slice none 0 0] 23)) := (Below.refl _ _).alloc (Nat.le_refl _) _
  have BA := hide hA
  have PU := hide (put0 (vb := w2.heap.size) (l2.later hA) (heap_new _ _) (fun e => by have := l2.disk.lt _ e; omega) (by have := l2.ready.lt; omega))
  clear l2 bl2 hA O1
  go_wp2_with fail
  generalize w2.alloc (.cells #[.slice none 0 0, .slice none 0 0, .slice none 0 0] 23) = W2 at *
  refine (unhide PU).mono ?_
  rintro e w3 ⟨rfl, S3, gs, cap, v, a, c, l3, bl3⟩
  have L3 := hide l3
  have B3 := hide ((unhide B2).trans (((unhide BA).mono (unhide L2).le).trans bl3))
  have EN3 := hide (endC l3 w3 (Below.refl _ _))
  clear l3 bl3 PU
  go_wp2_with fail
  refine (unhide EN3).mono ?_
  rintro e w4 ⟨rfl, b4⟩
  have L4 := hide ((unhide L3).later b4)
  have B4 := hide ((unhide B3).trans (b4.mono (unhide L3).le))
  have SY4 := hide (synced1 (unhide L4))
  clear b4 EN3
  go_wp2_with fail
  refine (unhide SY4).mono ?_
  rintro e w5 ⟨rfl, b5⟩
  have L5 := hide ((unhide L4).later b5)
  have B5 := hide ((unhide B4).trans (b5.mono (unhide L4).le))
  have FL5 := hide (flush1 (unhide L5))
  clear b5 SY4
  go_wp2_with fail
  refine (unhide FL5).mono ?_
  rintro e w6 ⟨rfl, S6, l6, bl6⟩
  have L6 := hide l6
  have B6 := hide ((unhide B5).trans bl6)
  have CR := dcrash_any l6.disk 0
  rw [crash_same] at CR
  have CR6 := hide CR
  clear l6 bl6 CR FL5
  go_wp2_with fail
  refine (unhide CR6).mono ?_
  rintro e w7 ⟨rfl, g7⟩
  obtain ⟨S7, l7, bl7⟩ := (unhide L6).went g7
  have O7 := hide (open1 (B := db) l7.disk l7.sB l7.le (by omega))
  have B7 := hide ((unhide B6).trans bl7)
  clear l7 bl7 g7 CR6
  go_wp2_with fail
  refine (unhide O7).mono ?_
  rintro e w8 ⟨lb8, S8, gs8, cap8, v8, a8, c8, rfl, l8, bl8⟩
  have L8 := hide l8
  have B8 := hide ((unhide B7).trans bl8)
  have EN8 := hide (endC l8 w8 (Below.refl _ _))
  clear l8 bl8 O7
  go_wp2_with fail
  refine (unhide EN8).mono ?_
  rintro e w9 ⟨rfl, b9⟩
  have L9 := hide ((unhide L8).later b9)
  have B9 := hide ((unhide B8).trans (b9.mono (unhide L8).le))
  have RD9 := hide (read1 (unhide L9))
  clear b9 EN8
  go_wp2_with fail
  refine (unhide RD9).mono ?_
  rintro e w10 ⟨a10, c10, rfl, b10⟩
  have B10 := hide ((unhide B9).trans (b10.mono (unhide L9).le))
  clear b10 RD9
  go_wp2
  go_returns
  exact ⟨rfl, by rw [unhide HDB]; exact unhide B10⟩
end Go.Proofs.YtkcoeofbobkaoabGreatDoor


namespace Go.Proofs.YtkcoeofbobkaoabGreatDoor
open Go.RowKit
set_option linter.unusedVariables false

theorem put_nil (b : Bt) (a : Option Addr) (cap : Nat) (w : World) : Calls Tryz.prog 18 #[.pointer none, bv b a cap] w fun e w' => e = .returned (.int .i64 5) ∧ Below w.heap.size w w' := by
  obtain ⟨base, epoch, pid, pep, seq, txn, ctl, com, vs⟩ := b
  have UO : Hid (∀ W, Calls Tryz.prog 50 #[.pointer none] W fun e w' => e = .returned (.bool true) ∧ w' = W) := fun W => unopened_nil W
  go_enter Tryz.func18, Tryz.ntmps18
  go_wp2_with fail
  refine (unhide UO _).mono ?_
  rintro e w1 ⟨rfl, rfl⟩
  go_wp2
  go_returns
  exact ⟨rfl, (Below.refl _ _).alloc (Nat.le_refl _) _⟩
theorem flush_nil (w : World) : Calls Tryz.prog 19 #[.pointer none] w fun e w' => e = .returned (.int .i64 5) ∧ w' = w := by
  have UO := hide (unopened_nil w)
  go_enter Tryz.func19, Tryz.ntmps19
  go_wp2_with fail
  refine (unhide UO).mono ?_
  rintro e w1 ⟨rfl, rfl⟩
  go_wp2
  go_returns
  exact ⟨rfl, rfl⟩
theorem trunc_nil (n : Int) (w : World) : Calls Tryz.prog 20 #[.pointer none, .int .i64 n] w fun e w' => e = .returned (.int .i64 5) ∧ w' = w := by
  have UO := hide (unopened_nil w)
  go_enter Tryz.func20, Tryz.ntmps20
  go_wp2_with fail
  refine (unhide UO).mono ?_
  rintro e w1 ⟨rfl, rfl⟩
  go_wp2
  go_returns
  exact ⟨rfl, rfl⟩
theorem drop_nil (n : Int) (w : World) : Calls Tryz.prog 21 #[.pointer none, .int .i64 n] w fun e w' => e = .returned (.int .i64 5) ∧ w' = w := by
  have UO := hide (unopened_nil w)
  go_enter Tryz.func21, Tryz.ntmps21
  go_wp2_with fail
  refine (unhide UO).mono ?_
  rintro e w1 ⟨rfl, rfl⟩
  go_wp2
  go_returns
  exact ⟨rfl, rfl⟩
theorem read_nil (n m : Int) (w : World) : Calls Tryz.prog 16 #[.pointer none, .int .i64 n, .int .i64 m] w fun e w' => e = .returned (.slice none 0 0) ∧ Below w.heap.size w w' := by
  go_enter Tryz.func16, Tryz.ntmps16
  go_wp2
  go_returns
  exact ⟨rfl, ((Below.refl _ _).alloc (Nat.le_refl _) _).alloc (by simp) _⟩
theorem start_nil (w : World) : Calls Tryz.prog 22 #[.pointer none] w fun e w' => e = .returned (.int .i64 0) ∧ w' = w := by
  go_enter Tryz.func22, Tryz.ntmps22
  go_wp2
  go_returns
  exact ⟨rfl, rfl⟩
theorem synced_nil (w : World) : Calls Tryz.prog 23 #[.pointer none] w fun e w' => e = .returned (.int .i64 0) ∧ w' = w := by
  go_enter Tryz.func23, Tryz.ntmps23
  go_wp2
  go_returns
  exact ⟨rfl, rfl⟩
theorem segments_nil (w : World) : Calls Tryz.prog 24 #[.pointer none] w fun e w' => e = .returned (.slice none 0 0) ∧ w' = w := by
  go_enter Tryz.func24, Tryz.ntmps24
  go_wp2
  go_returns
  exact ⟨rfl, rfl⟩
set_option maxRecDepth 100000 in
set_option maxHeartbeats 2000000 in
theorem segNone_walk (b : Bt) (a : Option Addr) (cap : Nat) (n : Int) (w : World) :
    Calls Tryz.prog 4 #[bv b a cap, .int .i64 n] w fun e w' => e = .returned (.bool true) ∧ Below w.heap.size w w' := by
  have PN : Hid (∀ W, Calls Tryz.prog 18 #[.pointer none, bv b a cap] W fun e w' => e = .returned (.int .i64 5) ∧ Below W.heap.size W w') := fun W => put_nil b a cap W
  have BX : Hid (Box (w.alloc (.cells #[.int .i64 b.base, .int .i64 b.epoch, .int .u64 (b.pid : Int), .int .i64 b.pep, .int .i64 b.seq, .bool b.txn, .bool b.ctl, .bool b.com, .slice a b.vs.length cap] 29)) w.heap.size b a cap) := Box.new w b a cap
  have BA : Hid (Below w.heap.size w (w.alloc (.cells #[.int .i64 b.base, .int .i64 b.epoch, .int .u64 (b.pid : Int), .int .i64 b.pep, .int .i64 b.seq, .bool b.txn, .bool b.ctl, .bool b.com, .slice a b.vs.length cap] 29))) := (Below.refl _ _).alloc (Nat.le_refl _) _
  obtain ⟨base, epoch, pid, pep, seq, txn, ctl, com, vs⟩ := b
  simp only at BX BA PN ⊢
  go_enter Tryz.func4, Tryz.ntmps4
  go_wp2_with fail
  generalize w.alloc (.cells #[.int .i64 base, .int .i64 epoch, .int .u64 (pid : Int), .int .i64 pep, .int .i64 seq, .bool txn, .bool ctl, .bool com, .slice a vs.length cap] 29) = W at *
  refine (open_nil _ W).mono ?_
  rintro e w0 ⟨rfl, rfl⟩
  have AW := hide (awake8_any w0)
  go_wp2_with fail
  refine (unhide AW).mono ?_
  rintro e w1 ⟨rfl, b1⟩
  obtain ⟨k0, k1, k2, k3, k4, k5, k6, k7, k8⟩ := ((unhide BX).later b1).cells
  simp only at k0 k1 k2 k3 k4 k5 k6 k7 k8
  have B1 := hide ((unhide BA).trans (b1.mono (unhide BA).size))
  clear b1 AW BX
  go_wp2_with fail
  refine (unhide PN w1).mono ?_
  rintro e w2 ⟨rfl, b2⟩
  have B2 := hide ((unhide B1).trans (b2.mono (unhide B1).size))
  clear b2 k0 k1 k2 k3 k4 k5 k6 k7 k8 PN
  go_wp2_with fail
  refine (flush_nil w2).mono ?_
  rintro e w3 ⟨rfl, rfl⟩
  go_wp2_with fail
  refine (read_nil n n w3).mono ?_
  rintro e w4 ⟨rfl, b4⟩
  have B4 := hide ((unhide B2).trans (b4.mono (unhide B2).size))
  clear b4
  go_wp2_with fail
  refine (trunc_nil n w4).mono ?_
  rintro e w5 ⟨rfl, rfl⟩
  go_wp2_with fail
  refine (drop_nil n w5).mono ?_
  rintro e w6 ⟨rfl, rfl⟩
  go_wp2_with fail
  refine (start_nil w6).mono ?_
  rintro e w7 ⟨rfl, rfl⟩
  go_wp2_with fail
  refine (end_nil w7).mono ?_
  rintro e w8 ⟨rfl, rfl⟩
  go_wp2_with fail
  refine (synced_nil w8).mono ?_
  rintro e w9 ⟨rfl, rfl⟩
  go_wp2_with fail
  refine (segments_nil w9).mono ?_
  rintro e w10 ⟨rfl, rfl⟩
  go_wp2
  go_returns
  exact ⟨rfl, unhide B4⟩
end Go.Proofs.YtkcoeofbobkaoabGreatDoor
