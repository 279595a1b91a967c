/-
  Same of layers 3 and 11 at two that are alike; the statements' own copy of a packet. Conditions: lengths are below 2^63.
-/
import Derived.Test.YtgpfkedihgoohaaNta
namespace Go.Proofs.Ytgpfkedihgoohaa
open Go.RowKit
set_option linter.unusedVariables false

set_option maxRecDepth 100000 in
set_option maxHeartbeats 2000000 in
theorem same03_any (w : World) (a c : Option Addr) (ca cc : Nat) (l : List Nat) (ha : LAt w a l) (hc : LAt w c l) (hl : l.length ≤ 9223372036854775807) :
    Calls Try.prog 29 #[.slice a l.length ca, .slice c l.length cc] w fun e w' => e = .returned (.bool true) ∧ ∃ n, w' = w.drewN n := by
  have HA := hide ha
  have HC := hide hc
  clear ha hc
  go_enter Try.func29, Try.ntmps29
  go_wp2_with fail
  go_loopw [5] (fun i wr => ∃ k n : Nat, k ≤ l.length ∧ i = .int .i64 k ∧ wr = w.drewN n) (fun i _ => l.length - (intOf i).toNat)
  case atStart => exact ⟨0, 0, Nat.zero_le _, rfl, rfl⟩
  case round =>
    obtain ⟨k, n, hk, rfl, rfl⟩ := hrel
    by_cases h8 : k < l.length
    · obtain ⟨b1, o1, rfl, _, e1, _⟩ := (unhide HA).cell h8
      obtain ⟨b2, o2, rfl, _, e2, _⟩ := (unhide HC).cell h8
      have h8' : (k : Int) < (l.length : Int) := by omega
      generalize l.getD k 0 = x at *
      go_wp2_with fail
      go_quiet (fail)
      go_wp2
      go_roundw
      case rel => exact ⟨k + 1, n + nq, by omega, by go_num, by simp⟩
      case measure => simp [intOf]; omega
    · obtain rfl : k = l.length := by omega
      go_wp2
      go_returns
      exact ⟨rfl, n, rfl⟩
set_option maxRecDepth 100000 in
set_option maxHeartbeats 1000000 in
theorem same11_any {w : World} {p q : Pk} (hp : PIn w p) (hq : PIn w q) (he : p.abs = q.abs) : Calls Try.prog 14 #[pkV p, pkV q] w fun e w' => e = .returned (.bool true) ∧ Below w.heap.size w w' := by
  obtain ⟨fr, to, a, c, l⟩ := p
  obtain ⟨fr', to', a', c', l'⟩ := q
  simp only [Pk.abs, Pa.mk.injEq] at he
  obtain ⟨rfl, rfl, rfl⟩ := he
  have hA : Below w.heap.size w (w.alloc (.cells #[.int .i64 fr, .int .i64 to, .slice a l.length c] 33)) := (Below.refl _ _).alloc (Nat.le_refl _) _
  have hB : Below w.heap.size w ((w.alloc (.cells #[.int .i64 fr, .int .i64 to, .slice a l.length c] 33)).alloc (.cells #[.int .i64 fr, .int .i64 to, .slice a' l.length c'] 33)) := hA.alloc (by simp) _
  have G0 : ((w.alloc (.cells #[.int .i64 fr, .int .i64 to, .slice a l.length c] 33)).alloc (.cells #[.int .i64 fr, .int .i64 to, .slice a' l.length c'] 33)).heap[w.heap.size]? = some (.cells #[.int .i64 fr, .int .i64 to, .slice a l.length c] 33) := heap_old _ (heap_new _ _)
  have G1 : ((w.alloc (.cells #[.int .i64 fr, .int .i64 to, .slice a l.length c] 33)).alloc (.cells #[.int .i64 fr, .int .i64 to, .slice a' l.length c'] 33)).heap[w.heap.size + 1]? = some (.cells #[.int .i64 fr, .int .i64 to, .slice a' l.length c'] 33) := by
    have := heap_new (w.alloc (.cells #[.int .i64 fr, .int .i64 to, .slice a l.length c] 33)) (.cells #[.int .i64 fr, .int .i64 to, .slice a' l.length c'] 33)
    rw [World.size_alloc] at this
    exact this
  have x0 : ((w.alloc (.cells #[.int .i64 fr, .int .i64 to, .slice a l.length c] 33)).alloc (.cells #[.int .i64 fr, .int .i64 to, .slice a' l.length c'] 33)).cell? ⟨w.heap.size, 0, none⟩ = some (.int .i64 fr) := by rw [cell_of G0]; rfl
  have x1 : ((w.alloc (.cells #[.int .i64 fr, .int .i64 to, .slice a l.length c] 33)).alloc (.cells #[.int .i64 fr, .int .i64 to, .slice a' l.length c'] 33)).cell? ⟨w.heap.size, 1, none⟩ = some (.int .i64 to) := by rw [cell_of G0]; rfl
  have x2 : ((w.alloc (.cells #[.int .i64 fr, .int .i64 to, .slice a l.length c] 33)).alloc (.cells #[.int .i64 fr, .int .i64 to, .slice a' l.length c'] 33)).cell? ⟨w.heap.size, 2, none⟩ = some (.slice a l.length c) := by rw [cell_of G0]; rfl
  have y0 : ((w.alloc (.cells #[.int .i64 fr, .int .i64 to, .slice a l.length c] 33)).alloc (.cells #[.int .i64 fr, .int .i64 to, .slice a' l.length c'] 33)).cell? ⟨w.heap.size + 1, 0, none⟩ = some (.int .i64 fr) := by rw [cell_of G1]; rfl
  have y1 : ((w.alloc (.cells #[.int .i64 fr, .int .i64 to, .slice a l.length c] 33)).alloc (.cells #[.int .i64 fr, .int .i64 to, .slice a' l.length c'] 33)).cell? ⟨w.heap.size + 1, 1, none⟩ = some (.int .i64 to) := by rw [cell_of G1]; rfl
  have y2 : ((w.alloc (.cells #[.int .i64 fr, .int .i64 to, .slice a l.length c] 33)).alloc (.cells #[.int .i64 fr, .int .i64 to, .slice a' l.length c'] 33)).cell? ⟨w.heap.size + 1, 2, none⟩ = some (.slice a' l.length c') := by rw [cell_of G1]; rfl
  have K := hide (same03_any _ a a' c c' l (hp.at_.later hB) (hq.at_.later hB) (by have := hp.in_.l; simp only at this; omega))
  have HB := hide hB
  clear hA hB G0 G1 hp hq
  simp only [pkV, pkS]
  generalize l.length = m at *
  go_enter Try.func14, Try.ntmps14
  go_wp2_with fail
  generalize (w.alloc (.cells #[.int .i64 fr, .int .i64 to, .slice a m c] 33)).alloc (.cells #[.int .i64 fr, .int .i64 to, .slice a' m c'] 33) = W at *
  refine (unhide K).mono ?_
  rintro e w1 ⟨rfl, n, rfl⟩
  clear K
  go_wp2
  go_returns
  exact ⟨rfl, below_drewN3 (unhide HB) n⟩

set_option maxRecDepth 100000 in
set_option maxHeartbeats 1000000 in
theorem lown_any {w : World} {p : Pk} (h : PIn w p) : Calls Try.prog 11 #[pkV p] w fun e w' => OwnPost w p.abs e w' := by
  obtain ⟨fr, to, a, c, l⟩ := p
  obtain ⟨h1, h2, h3⟩ := h
  simp only at h1 h2
  have hl := h3.l
  simp only at hl
  have hA : Below w.heap.size w (w.alloc (.cells #[.int .i64 fr, .int .i64 to, .slice a l.length c] 33)) := (Below.refl _ _).alloc (Nat.le_refl _) _
  have hB : Below w.heap.size w ((w.alloc (.cells #[.int .i64 fr, .int .i64 to, .slice a l.length c] 33)).alloc (.cells #[.int .i64 0, .int .i64 0, .slice none 0 0] 33)) := hA.alloc (by simp) _
  have hC : Below w.heap.size w (((w.alloc (.cells #[.int .i64 fr, .int .i64 to, .slice a l.length c] 33)).alloc (.cells #[.int .i64 0, .int .i64 0, .slice none 0 0] 33)).alloc (.cells #[] 5)) := hB.alloc (by simp; omega) _
  have G0 : Hid ((((w.alloc (.cells #[.int .i64 fr, .int .i64 to, .slice a l.length c] 33)).alloc (.cells #[.int .i64 0, .int .i64 0, .slice none 0 0] 33)).alloc (.cells #[] 5)).heap[w.heap.size]? = some (.cells #[.int .i64 fr, .int .i64 to, .slice a l.length c] 33)) := heap_old _ (heap_old _ (heap_new _ _))
  have G1 : Hid ((((w.alloc (.cells #[.int .i64 fr, .int .i64 to, .slice a l.length c] 33)).alloc (.cells #[.int .i64 0, .int .i64 0, .slice none 0 0] 33)).alloc (.cells #[] 5)).heap[w.heap.size + 1]? = some (.cells #[.int .i64 0, .int .i64 0, .slice none 0 0] 33)) := by
    have := heap_new (w.alloc (.cells #[.int .i64 fr, .int .i64 to, .slice a l.length c] 33)) (.cells #[.int .i64 0, .int .i64 0, .slice none 0 0] 33)
    rw [World.size_alloc] at this
    exact heap_old _ this
  have Z : Hid ((((w.alloc (.cells #[.int .i64 fr, .int .i64 to, .slice a l.length c] 33)).alloc (.cells #[.int .i64 0, .int .i64 0, .slice none 0 0] 33)).alloc (.cells #[] 5)).heap.size = w.heap.size + 3) := by show _ = _; simp
  have R0 : Hid (Row (((w.alloc (.cells #[.int .i64 fr, .int .i64 to, .slice a l.length c] 33)).alloc (.cells #[.int .i64 0, .int .i64 0, .slice none 0 0] 33)).alloc (.cells #[] 5)) (.slice (some ⟨w.heap.size + 1 + 1, 0, none⟩) 0 0) []) := by
    have := Row.lit ((w.alloc (.cells #[.int .i64 fr, .int .i64 to, .slice a l.length c] 33)).alloc (.cells #[.int .i64 0, .int .i64 0, .slice none 0 0] 33)) [] (by simp) #[] rfl (Nat.zero_le _)
    simp only [World.size_alloc, List.length_nil] at this
    exact this
  have SRC := hide (h1.later hC)
  have HL : ([] : List Nat).length + l.length ≤ 140737488355328 := by simpa using hl
  have k2 : (((w.alloc (.cells #[.int .i64 fr, .int .i64 to, .slice a l.length c] 33)).alloc (.cells #[.int .i64 0, .int .i64 0, .slice none 0 0] 33)).alloc (.cells #[] 5)).cell? ⟨w.heap.size, 2, none⟩ = some (.slice a l.length c) := by rw [cell_of (unhide G0)]; rfl
  have HC := hide hC
  have H3 := hide h3
  clear h1 h3 hA hB hC
  have FX : Hid (∀ v1 w1, Row w1 v1 ([] ++ l) → Touch (fun k => (Value.slice (some ⟨w.heap.size + 1 + 1, 0, none⟩) 0 0).ownBlock = some k) (((w.alloc (.cells #[.int .i64 fr, .int .i64 to, .slice a l.length c] 33)).alloc (.cells #[.int .i64 0, .int .i64 0, .slice none 0 0] 33)).alloc (.cells #[] 5)) w1 → Moved (((w.alloc (.cells #[.int .i64 fr, .int .i64 to, .slice a l.length c] 33)).alloc (.cells #[.int .i64 0, .int .i64 0, .slice none 0 0] 33)).alloc (.cells #[] 5)) (.slice (some ⟨w.heap.size + 1 + 1, 0, none⟩) 0 0) v1 →
      ∃ a' c', v1 = .slice a' l.length c' ∧ (w1.cell? ⟨w.heap.size, 0, none⟩ = some (.int .i64 fr) ∧ w1.cell? ⟨w.heap.size, 1, none⟩ = some (.int .i64 to) ∧ w1.cell? ⟨w.heap.size, 2, none⟩ = some (.slice a l.length c) ∧ w1.frozen? ⟨w.heap.size, 2, none⟩ = false) ∧
        (w1.cell? ⟨w.heap.size + 1, 0, none⟩ = some (.int .i64 0) ∧ w1.cell? ⟨w.heap.size + 1, 1, none⟩ = some (.int .i64 0) ∧ w1.cell? ⟨w.heap.size + 1, 2, none⟩ = some (.slice none 0 0)) ∧ (w1.frozen? ⟨w.heap.size + 1, 0, none⟩ = false ∧ w1.frozen? ⟨w.heap.size + 1, 1, none⟩ = false ∧ w1.frozen? ⟨w.heap.size + 1, 2, none⟩ = false) ∧
        Hid (((((w1.setCell ⟨w.heap.size, 2, none⟩ (.slice a' l.length c')).setCell ⟨w.heap.size + 1, 0, none⟩ (.int .i64 fr)).setCell ⟨w.heap.size + 1, 1, none⟩ (.int .i64 to)).setCell ⟨w.heap.size + 1, 2, none⟩ (.slice a' l.length c')).heap[w.heap.size + 1]? = some (.cells #[.int .i64 fr, .int .i64 to, .slice a' l.length c'] 33) ∧ OwnPost w ⟨fr, to, l⟩ (.returned (.agg #[.int .i64 fr, .int .i64 to, .slice a' l.length c'])) ((((w1.setCell ⟨w.heap.size, 2, none⟩ (.slice a' l.length c')).setCell ⟨w.heap.size + 1, 0, none⟩ (.int .i64 fr)).setCell ⟨w.heap.size + 1, 1, none⟩ (.int .i64 to)).setCell ⟨w.heap.size + 1, 2, none⟩ (.slice a' l.length c')))) := fun v1 w1 r1 t1 m1 => by
    rw [List.nil_append] at r1
    obtain ⟨a', c', rfl, _⟩ := r1.parts
    have hS : ∀ k, (Value.slice (some ⟨w.heap.size + 1 + 1, 0, none⟩) 0 0).ownBlock = some k → k = w.heap.size + 2 := fun k hk => by
      have : w.heap.size + 1 + 1 = k := by simpa [Value.ownBlock] using hk
      omega
    have g0 := t1.keep (unhide G0) (fun e => by have := hS _ e; omega)
    have g1 := t1.keep (unhide G1) (fun e => by have := hS _ e; omega)
    have n1 : ∀ k, (Value.slice a' l.length c').ownBlock = some k → w.heap.size + 2 ≤ k := fun k hk => by
      rcases m1 k hk with e | e
      · have := hS _ e; omega
      · rw [unhide Z] at e; omega
    refine ⟨a', c', rfl, ⟨by rw [cell_of g0]; rfl, by rw [cell_of g0]; rfl, by rw [cell_of g0]; rfl, frozen_of g0 2⟩, ⟨by rw [cell_of g1]; rfl, by rw [cell_of g1]; rfl, by rw [cell_of g1]; rfl⟩, ⟨frozen_of g1 0, frozen_of g1 1, frozen_of g1 2⟩, ?_⟩
    have ts := touch_set w1 w.heap.size 2 (.slice a' l.length c')
    have gg := ts.keep g1 (show ¬ w.heap.size + 1 = w.heap.size by omega)
    have T : Touch (fun k => k = w.heap.size ∨ k = w.heap.size + 1) w1 ((((w1.setCell ⟨w.heap.size, 2, none⟩ (.slice a' l.length c')).setCell ⟨w.heap.size + 1, 0, none⟩ (.int .i64 fr)).setCell ⟨w.heap.size + 1, 1, none⟩ (.int .i64 to)).setCell ⟨w.heap.size + 1, 2, none⟩ (.slice a' l.length c')) :=
      ((((Touch.refl _ w1).setCell (p := ⟨w.heap.size, 2, none⟩) (.inl rfl) _).setCell (p := ⟨w.heap.size + 1, 0, none⟩) (.inr rfl) _).setCell (p := ⟨w.heap.size + 1, 1, none⟩) (.inr rfl) _).setCell (p := ⟨w.heap.size + 1, 2, none⟩) (.inr rfl) _
    have bb : Below w.heap.size w w1 := below_touch (unhide HC) t1 (unhide HC).size (fun k hk => by have := hS k hk; omega)
    refine ⟨set3 gg _ _ _, ⟨fr, to, a', c', l⟩, rfl, rfl, ⟨r1.keep T (fun k hk e => by have := n1 k hk; omega), unhide H3⟩, fun k hk => by have := n1 k hk; omega, below_touch bb T bb.size (fun k hk => by omega)⟩
  clear G0 G1 Z HC H3 hl
  simp only [pkV, pkS]
  go_enter Try.func11, Try.ntmps11
  go_wp2_with (at_builtin; refine wpList_row _ rfl (.tmp 3) (.tmp 5) rfl (.slice (some ⟨w.heap.size + 1 + 1, 0, none⟩) 0 0) [] rfl (unhide R0) _ _ l rfl (unhide SRC) h2 HL ?_; intro v1 w1 r1 t1 m1; obtain ⟨a', c', rfl, ⟨x0, x1, x2, x3⟩, ⟨y0, y1, y2⟩, ⟨z0, z1, z2⟩, FF⟩ := unhide FX v1 w1 r1 t1 m1; clear FX r1 t1 m1 R0 SRC h2 HL k2)
  obtain ⟨vg, vf⟩ := unhide FF
  generalize (((w1.setCell ⟨w.heap.size, 2, none⟩ (.slice a' l.length c')).setCell ⟨w.heap.size + 1, 0, none⟩ (.int .i64 fr)).setCell ⟨w.heap.size + 1, 1, none⟩ (.int .i64 to)).setCell ⟨w.heap.size + 1, 2, none⟩ (.slice a' l.length c') = V at *
  have v0 := cell_of vg 0
  have v1 := cell_of vg 1
  have v2 := cell_of vg 2
  simp only [List.getElem?_toArray, List.getElem?_cons_zero, List.getElem?_cons_succ] at v0 v1 v2
  refine bodyPost_ret (by simp [results, Try.results11, go_sem, v0, v1, v2]; try rfl) rfl ?_
  exact vf
end Go.Proofs.Ytgpfkedihgoohaa
