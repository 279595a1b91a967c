/-
  The document's cache of layer 10: Assign. Conditions: the cache is one; at most 8 * 10^12 epochs.
-/
import Derived.Test.YtfpcocagifmpbaaEr1
namespace Go.Proofs.Ytfpcocagifmpbaa
open Go.RowKit
set_option linter.unusedVariables false

/-- Between the two appends. -/
structure Rc1 (B : Nat) (w wr : World) (rb : Nat) (u1 u2 : Value) (l : List Pr) (p : Pr) : Prop where
  box : wr.heap[rb]? = some (.cells #[u1, u2] 28)
  r1 : Own wr 3 u1 (fsC (l ++ [p]))
  r2 : Own wr 3 u2 (snC l)
  n1 : New w u1
  n2 : New w u2
  ap : ∀ k, u1.ownBlock = some k → u2.ownBlock ≠ some k
  tc : Touch (· = rb) w wr
section
variable {B : Nat} {w : World} {rb : Nat} {v1 v2 : Value} {l : List Pr} {p : Pr}
theorem rc_step1 {w2 w3 : World} {u3 : Value} {o : Obj} (h : RcAt B w2 rb v1 v2 l) (t : Touch (· = rb) w w2) (hrb : rb < w.heap.size) (n1 : New w v1) (n2 : New w v2) (o3 : Own w3 3 u3 (fsC l ++ [.int .i64 p.1])) (t3 : Touch (fun k => v1.ownBlock = some k) (w2.alloc o) w3) (m3 : Moved (w2.alloc o) v1 u3) :
    Rc1 B w (w3.setCell ⟨rb, 0, none⟩ u3) rb u3 v2 l p ∧ w3.heap[rb]? = some (.cells #[v1, v2] 28) := by
  have hA : Below w2.heap.size w2 (w2.alloc o) := (Below.refl _ _).alloc (Nat.le_refl _) _
  have h2 := h.later hA
  have hb3 := t3.keep h2.box h2.ne1
  have ts := touch_set w3 rb 0 u3
  have nu : New w u3 := fun k hk => by
    rcases m3 k hk with e | e
    · exact n1 k e
    · have := t.size; simp at e; omega
  refine ⟨⟨heap_set hb3 0 u3, ?_, ?_, nu, n2, fun k hk e => ?_, ?_⟩, hb3⟩
  · have : Own w3 3 u3 (fsC (l ++ [p])) := by simpa using o3
    exact this.keep ts (fun k hk e => by have := nu k hk; omega)
  · exact (h2.r2.keep t3 (fun k hk e => h.ap k e hk)).keep ts (fun k hk e => by have := n2 k hk; omega)
  · rcases m3 k hk with e2 | e2
    · exact h.ap k e2 e
    · have := h2.r2.lt k e; omega
  · exact touch_new t (((Touch.of_below (S := fun k => k = rb ∨ v1.ownBlock = some k) hA).trans (t3.mono (fun k hk => .inr hk))).trans (ts.mono (fun k hk => .inl hk))) (fun k hk => by
      rcases hk with e | e
      · exact .inl e
      · exact .inr (n1 k e))
theorem rc_step2 {w2 w3 : World} {u1 u2 u3 : Value} {o : Obj} (h : Rc1 B w w2 rb u1 u2 l p) (hrb : rb < w.heap.size) (hlo : B ≤ rb) (hB : B ≤ w.heap.size) (o3 : Own w3 3 u3 (snC l ++ [.int .i64 p.2])) (t3 : Touch (fun k => u2.ownBlock = some k) (w2.alloc o) w3) (m3 : Moved (w2.alloc o) u2 u3) :
    (RcAt B (w3.setCell ⟨rb, 1, none⟩ u3) rb u1 u3 (l ++ [p]) ∧ Touch (· = rb) w (w3.setCell ⟨rb, 1, none⟩ u3)) ∧ w3.heap[rb]? = some (.cells #[u1, u2] 28) := by
  have hA : Below w2.heap.size w2 (w2.alloc o) := (Below.refl _ _).alloc (Nat.le_refl _) _
  have hb2 := below_keep hA h.box
  have hb3 := t3.keep hb2 (fun e => by have := h.n2 rb e; omega)
  have ts := touch_set w3 rb 1 u3
  have hsz := h.tc.size
  have nu : New w u3 := fun k hk => by
    rcases m3 k hk with e | e
    · exact h.n2 k e
    · simp at e; omega
  refine ⟨⟨⟨heap_set hb3 1 u3, ?_, ?_, fun k hk e => ?_, hlo, fun k hk => Nat.le_trans hB (h.n1 k hk), fun k hk => Nat.le_trans hB (nu k hk)⟩, ?_⟩, hb3⟩
  · exact ((h.r1.later hA).keep t3 (fun k hk e => h.ap k hk e)).keep ts (fun k hk e => by have := h.n1 k hk; omega)
  · have : Own w3 3 u3 (snC (l ++ [p])) := by simpa using o3
    exact this.keep ts (fun k hk e => by have := nu k hk; omega)
  · rcases m3 k e with e2 | e2
    · exact h.ap k hk e2
    · have := (h.r1.later hA).lt k hk; omega
  · exact touch_new h.tc (((Touch.of_below (S := fun k => k = rb ∨ u2.ownBlock = some k) hA).trans (t3.mono (fun k hk => .inr hk))).trans (ts.mono (fun k hk => .inl hk))) (fun k hk => by
      rcases hk with e | e
      · exact .inl e
      · exact .inr (h.n2 k e))

set_option maxRecDepth 100000 in
set_option maxHeartbeats 2000000 in
theorem rassign_go (h : RcAt B w rb v1 v2 l) (hn : l.length ≤ 8000000000000) (hB : B ≤ w.heap.size) (ep a : Int) (h1 : ¬ ep < 0) (h2 : ¬ a < 0) (hgo : ∀ k (hk : l.length = k + 1), (l[k]'(by omega)).1 < ep) :
    Calls Try.prog 12 #[.pointer (some ⟨rb, 0, none⟩), .int .i64 ep, .int .i64 a] w fun e w' => RcPost B w rb (.int .i64 0) (cutE a l ++ [(ep, a)]) e w' := by
  have k1 := h.cell1
  have hlt := h.lt
  have hlo := h.lo
  obtain ⟨a1, c1, a2, c2, rfl, rfl, hmax, hc⟩ := h.cells
  unfold maxLen at hmax
  have CU := hide (rcut_any h hn hB a)
  have CL : Hid ((cutE a l).length ≤ 8000000000000) := Nat.le_trans (List.length_filter_le _ _) hn
  have LC : Hid (l.length = 0 ∨ ∃ k g1 E, l.length = k + 1 ∧ a1 = some ⟨g1, 0, none⟩ ∧ w.cell? ⟨g1, k, none⟩ = some (.int .i64 E) ∧ E < ep) := by
    by_cases h0 : l.length = 0
    · exact .inl h0
    · obtain ⟨k, hk⟩ : ∃ k, l.length = k + 1 := ⟨l.length - 1, by omega⟩
      obtain ⟨g1, g2, e1, e2, _, _, y1, _⟩ := hc k (by omega)
      exact .inr ⟨k, g1, _, hk, e1, y1, hgo k hk⟩
  clear h hc hgo
  generalize cutE a l = l2 at *
  have hl2 := unhide CL
  clear CL
  rcases unhide LC with h0 | ⟨k, g1, E, hk, rfl, y1, hE⟩
  · have hz : ¬ (0 : Int) < (l.length : Int) := by omega
    clear LC
    generalize l.length = n at *
    go_enter Try.func12, Try.ntmps12
    go_wp2_with fail
    refine (unhide CU).mono ?_
    rintro e w2 ⟨rfl, u1, u2, r2, t2, n1, n2⟩
    have q1 := r2.cell1
    obtain ⟨b1, d1, hu1⟩ := own_shape r2.r1
    obtain ⟨b2, d2, hu2⟩ := own_shape r2.r2
    rw [List.length_map] at hu1 hu2
    subst hu1 hu2
    have O1 := hide (r2.r1.later ((Below.refl w2.heap.size w2).alloc (Nat.le_refl _) (.cells #[.int .i64 ep] 3)))
    have S1 : Hid (∀ w3 u3, Own w3 3 u3 (fsC l2 ++ [.int .i64 ep]) → Touch (fun k => (Value.slice b1 l2.length d1).ownBlock = some k) (w2.alloc (.cells #[.int .i64 ep] 3)) w3 → Moved (w2.alloc (.cells #[.int .i64 ep] 3)) (.slice b1 l2.length d1) u3 → Rc1 B w (w3.setCell ⟨rb, 0, none⟩ u3) rb u3 (.slice b2 l2.length d2) l2 (ep, a) ∧ w3.heap[rb]? = some (.cells #[.slice b1 l2.length d1, .slice b2 l2.length d2] 28)) := fun w3 u3 o3 t3 m3 => rc_step1 (p := (ep, a)) r2 t2 hlt n1 n2 o3 t3 m3
    have hrb2 : rb < w2.heap.size := Nat.lt_of_lt_of_le hlt t2.size
    clear r2 t2 n1 n2 CU
    go_wp2_with (at_builtin; refine wpList_i1 _ rfl (.tmp 54) (.tmp 56) rfl (.slice b1 l2.length d1) (fsC l2) rfl (unhide O1) w2.heap.size ep rfl (by rw [cell_of (heap_new _ _)]; rfl) (by rw [List.length_map]; exact hl2) ?_)
    intro u3 w3 o3 t3 m3
    obtain ⟨R1, hb3⟩ := unhide S1 w3 u3 o3 t3 m3
    obtain ⟨b3, d3, hu3⟩ := own_shape o3
    rw [List.length_append, List.length_map, List.length_singleton] at hu3
    subst hu3
    have z3 := frozen_of hb3 0
    have y3 : w3.cell? ⟨rb, 0, none⟩ = some (.slice b1 l2.length d1) := by rw [cell_of hb3]; rfl
    have q2 : (w3.setCell ⟨rb, 0, none⟩ (.slice b3 (l2.length + 1) d3)).cell? ⟨rb, 1, none⟩ = some (.slice b2 l2.length d2) := by rw [cell_of R1.box]; rfl
    have hs3 : (w3.setCell ⟨rb, 0, none⟩ (.slice b3 (l2.length + 1) d3)).heap.size = w3.heap.size := by simp
    have O2 := hide (R1.r2.later ((Below.refl _ (w3.setCell ⟨rb, 0, none⟩ (.slice b3 (l2.length + 1) d3))).alloc (Nat.le_refl _) (.cells #[.int .i64 a] 3)))
    have C2 : Hid (((w3.setCell ⟨rb, 0, none⟩ (.slice b3 (l2.length + 1) d3)).alloc (.cells #[.int .i64 a] 3)).cell? ⟨w3.heap.size, 0, none⟩ = some (.int .i64 a)) := by
      have := heap_new (w3.setCell ⟨rb, 0, none⟩ (.slice b3 (l2.length + 1) d3)) (.cells #[.int .i64 a] 3)
      rw [hs3] at this
      show _ = _
      rw [cell_of this]; rfl
    have S2 : Hid (∀ w5 u5, Own w5 3 u5 (snC l2 ++ [.int .i64 a]) → Touch (fun k => (Value.slice b2 l2.length d2).ownBlock = some k) ((w3.setCell ⟨rb, 0, none⟩ (.slice b3 (l2.length + 1) d3)).alloc (.cells #[.int .i64 a] 3)) w5 → Moved ((w3.setCell ⟨rb, 0, none⟩ (.slice b3 (l2.length + 1) d3)).alloc (.cells #[.int .i64 a] 3)) (.slice b2 l2.length d2) u5 → (RcAt B (w5.setCell ⟨rb, 1, none⟩ u5) rb (.slice b3 (l2.length + 1) d3) u5 (l2 ++ [(ep, a)]) ∧ Touch (· = rb) w (w5.setCell ⟨rb, 1, none⟩ u5)) ∧ w5.heap[rb]? = some (.cells #[.slice b3 (l2.length + 1) d3, .slice b2 l2.length d2] 28)) := fun w5 u5 o5 t5 m5 => rc_step2 R1 hlt hlo hB o5 t5 m5
    have hrb3 : rb < w3.heap.size := lt_of_heap hb3
    clear R1 hb3 o3 t3 m3 S1 O1 q1 hs3
    go_wp2_with (at_builtin; refine wpList_i1 _ rfl (.tmp 64) (.tmp 66) rfl (.slice b2 l2.length d2) (snC l2) rfl (unhide O2) w3.heap.size a rfl (unhide C2) (by rw [List.length_map]; exact hl2) ?_)
    intro u5 w5 o5 t5 m5
    obtain ⟨R2, hb5⟩ := unhide S2 w5 u5 o5 t5 m5
    obtain ⟨b5, d5, hu5⟩ := own_shape o5
    rw [List.length_append, List.length_map, List.length_singleton] at hu5
    subst hu5
    have z5 := frozen_of hb5 1
    have y5 : w5.cell? ⟨rb, 1, none⟩ = some (.slice b2 l2.length d2) := by rw [cell_of hb5]; rfl
    have F : Hid (RcPost B w rb (.int .i64 0) (l2 ++ [(ep, a)]) (.returned (.int .i64 0)) (w5.setCell ⟨rb, 1, none⟩ (.slice b5 (l2.length + 1) d5))) := ⟨rfl, _, _, R2⟩
    clear R2 hb5 o5 t5 m5 S2 O2 C2 y3 z3 q2
    go_wp2
    go_returns
    exact unhide F
  · have hz : (0 : Int) < (l.length : Int) := by omega
    have hz2 : IntKind.i64.wrap ((l.length : Int) - 1) = (k : Int) := by rw [show (l.length : Int) - 1 = (k : Int) by omega]; exact wrap_low (by omega) (by omega)
    have hz3 : (0 : Int) ≤ (k : Int) := by omega
    have hz4 : (k : Int) < (l.length : Int) := by omega
    have hE2 : ¬ ep < E := by omega
    have hE3 : ¬ E = ep := by omega
    clear LC hE hk
    generalize l.length = n at *
    go_enter Try.func12, Try.ntmps12
    go_wp2_with fail
    refine (unhide CU).mono ?_
    rintro e w2 ⟨rfl, u1, u2, r2, t2, n1, n2⟩
    have q1 := r2.cell1
    obtain ⟨b1, d1, hu1⟩ := own_shape r2.r1
    obtain ⟨b2, d2, hu2⟩ := own_shape r2.r2
    rw [List.length_map] at hu1 hu2
    subst hu1 hu2
    have O1 := hide (r2.r1.later ((Below.refl w2.heap.size w2).alloc (Nat.le_refl _) (.cells #[.int .i64 ep] 3)))
    have S1 : Hid (∀ w3 u3, Own w3 3 u3 (fsC l2 ++ [.int .i64 ep]) → Touch (fun k => (Value.slice b1 l2.length d1).ownBlock = some k) (w2.alloc (.cells #[.int .i64 ep] 3)) w3 → Moved (w2.alloc (.cells #[.int .i64 ep] 3)) (.slice b1 l2.length d1) u3 → Rc1 B w (w3.setCell ⟨rb, 0, none⟩ u3) rb u3 (.slice b2 l2.length d2) l2 (ep, a) ∧ w3.heap[rb]? = some (.cells #[.slice b1 l2.length d1, .slice b2 l2.length d2] 28)) := fun w3 u3 o3 t3 m3 => rc_step1 (p := (ep, a)) r2 t2 hlt n1 n2 o3 t3 m3
    have hrb2 : rb < w2.heap.size := Nat.lt_of_lt_of_le hlt t2.size
    clear r2 t2 n1 n2 CU
    go_wp2_with (at_builtin; refine wpList_i1 _ rfl (.tmp 54) (.tmp 56) rfl (.slice b1 l2.length d1) (fsC l2) rfl (unhide O1) w2.heap.size ep rfl (by rw [cell_of (heap_new _ _)]; rfl) (by rw [List.length_map]; exact hl2) ?_)
    intro u3 w3 o3 t3 m3
    obtain ⟨R1, hb3⟩ := unhide S1 w3 u3 o3 t3 m3
    obtain ⟨b3, d3, hu3⟩ := own_shape o3
    rw [List.length_append, List.length_map, List.length_singleton] at hu3
    subst hu3
    have z3 := frozen_of hb3 0
    have y3 : w3.cell? ⟨rb, 0, none⟩ = some (.slice b1 l2.length d1) := by rw [cell_of hb3]; rfl
    have q2 : (w3.setCell ⟨rb, 0, none⟩ (.slice b3 (l2.length + 1) d3)).cell? ⟨rb, 1, none⟩ = some (.slice b2 l2.length d2) := by rw [cell_of R1.box]; rfl
    have hs3 : (w3.setCell ⟨rb, 0, none⟩ (.slice b3 (l2.length + 1) d3)).heap.size = w3.heap.size := by simp
    have O2 := hide (R1.r2.later ((Below.refl _ (w3.setCell ⟨rb, 0, none⟩ (.slice b3 (l2.length + 1) d3))).alloc (Nat.le_refl _) (.cells #[.int .i64 a] 3)))
    have C2 : Hid (((w3.setCell ⟨rb, 0, none⟩ (.slice b3 (l2.length + 1) d3)).alloc (.cells #[.int .i64 a] 3)).cell? ⟨w3.heap.size, 0, none⟩ = some (.int .i64 a)) := by
      have := heap_new (w3.setCell ⟨rb, 0, none⟩ (.slice b3 (l2.length + 1) d3)) (.cells #[.int .i64 a] 3)
      rw [hs3] at this
      show _ = _
      rw [cell_of this]; rfl
    have S2 : Hid (∀ w5 u5, Own w5 3 u5 (snC l2 ++ [.int .i64 a]) → Touch (fun k => (Value.slice b2 l2.length d2).ownBlock = some k) ((w3.setCell ⟨rb, 0, none⟩ (.slice b3 (l2.length + 1) d3)).alloc (.cells #[.int .i64 a] 3)) w5 → Moved ((w3.setCell ⟨rb, 0, none⟩ (.slice b3 (l2.length + 1) d3)).alloc (.cells #[.int .i64 a] 3)) (.slice b2 l2.length d2) u5 → (RcAt B (w5.setCell ⟨rb, 1, none⟩ u5) rb (.slice b3 (l2.length + 1) d3) u5 (l2 ++ [(ep, a)]) ∧ Touch (· = rb) w (w5.setCell ⟨rb, 1, none⟩ u5)) ∧ w5.heap[rb]? = some (.cells #[.slice b3 (l2.length + 1) d3, .slice b2 l2.length d2] 28)) := fun w5 u5 o5 t5 m5 => rc_step2 R1 hlt hlo hB o5 t5 m5
    have hrb3 : rb < w3.heap.size := lt_of_heap hb3
    clear R1 hb3 o3 t3 m3 S1 O1 q1 hs3
    go_wp2_with (at_builtin; refine wpList_i1 _ rfl (.tmp 64) (.tmp 66) rfl (.slice b2 l2.length d2) (snC l2) rfl (unhide O2) w3.heap.size a rfl (unhide C2) (by rw [List.length_map]; exact hl2) ?_)
    intro u5 w5 o5 t5 m5
    obtain ⟨R2, hb5⟩ := unhide S2 w5 u5 o5 t5 m5
    obtain ⟨b5, d5, hu5⟩ := own_shape o5
    rw [List.length_append, List.length_map, List.length_singleton] at hu5
    subst hu5
    have z5 := frozen_of hb5 1
    have y5 : w5.cell? ⟨rb, 1, none⟩ = some (.slice b2 l2.length d2) := by rw [cell_of hb5]; rfl
    have F : Hid (RcPost B w rb (.int .i64 0) (l2 ++ [(ep, a)]) (.returned (.int .i64 0)) (w5.setCell ⟨rb, 1, none⟩ (.slice b5 (l2.length + 1) d5))) := ⟨rfl, _, _, R2⟩
    clear R2 hb5 o5 t5 m5 S2 O2 C2 y3 z3 q2
    go_wp2
    go_returns
    exact unhide F
set_option maxRecDepth 100000 in
set_option maxHeartbeats 2000000 in
theorem rassign_any (h : RcAt B w rb v1 v2 l) (hn : l.length ≤ 8000000000000) (hB : B ≤ w.heap.size) (ep a : Int) :
    Calls Try.prog 12 #[.pointer (some ⟨rb, 0, none⟩), .int .i64 ep, .int .i64 a] w fun e w' => RcPost B w rb (.int .i64 (asgE ep a l).1) (asgE ep a l).2 e w' := by
  by_cases hneg : ep < 0 ∨ a < 0
  · rw [asg_neg hneg]
    have F : Hid (RcPost B w rb (.int .i64 1) l (.returned (.int .i64 1)) w) := ⟨rfl, v1, v2, h, Touch.refl _ _⟩
    clear h
    by_cases h1 : ep < 0
    · clear hneg
      go_enter Try.func12, Try.ntmps12
      go_wp2
      go_returns
      exact unhide F
    · have h2 : a < 0 := by omega
      clear hneg
      go_enter Try.func12, Try.ntmps12
      go_wp2
      go_returns
      exact unhide F
  · have h1 : ¬ ep < 0 := by omega
    have h2 : ¬ a < 0 := by omega
    by_cases hgo : ∀ k (hk : l.length = k + 1), (l[k]'(by omega)).1 < ep
    · have hG : asgE ep a l = (0, cutE a l ++ [(ep, a)]) := by
        by_cases h0 : l.length = 0
        · have : l = [] := List.eq_nil_of_length_eq_zero h0
          subst this
          exact asg_go h1 h2 (L3 := false) rfl (fun h => by cases h)
        · obtain ⟨k, hk⟩ : ∃ k, l.length = k + 1 := ⟨l.length - 1, by omega⟩
          exact asg_go h1 h2 (lastE_at hk) (fun _ => hgo k hk)
      rw [hG]
      exact rassign_go h hn hB ep a h1 h2 hgo
    · have hx : ∃ k, ∃ hk : l.length = k + 1, ep ≤ (l[k]'(by omega)).1 := by
        by_cases h0 : l.length = 0
        · exact absurd (fun k hk => by omega) hgo
        · obtain ⟨k, hk⟩ : ∃ k, l.length = k + 1 := ⟨l.length - 1, by omega⟩
          refine ⟨k, hk, ?_⟩
          by_cases h' : ep ≤ (l[k]'(by omega)).1
          · exact h'
          · exact absurd (fun k' hk' => by obtain rfl : k' = k := by omega
                                           omega) hgo
      clear hgo
      obtain ⟨k, hk, hle⟩ := hx
      have k1 := h.cell1
      have hlt := h.lt
      have hL := lastE_at hk
      have HH := hide h
      obtain ⟨a1, c1, a2, c2, rfl, rfl, hmax, hc⟩ := h.cells
      obtain ⟨g1, g2, rfl, rfl, _, _, y1, _⟩ := hc k (by omega)
      unfold maxLen at hmax
      clear h hc
      have hz : (0 : Int) < (l.length : Int) := by omega
      have hz2 : IntKind.i64.wrap ((l.length : Int) - 1) = (k : Int) := by rw [show (l.length : Int) - 1 = (k : Int) by omega]; exact wrap_low (by omega) (by omega)
      have hz3 : (0 : Int) ≤ (k : Int) := by omega
      have hz4 : (k : Int) < (l.length : Int) := by omega
      by_cases hlw : ep < (l[k]'(by omega)).1
      · rw [asg_low h1 h2 hL hlw]
        have F : Hid (RcPost B w rb (.int .i64 5) l (.returned (.int .i64 5)) w) := ⟨rfl, _, _, unhide HH, Touch.refl _ _⟩
        clear HH hL hle
        generalize (l[k]'(by omega)).1 = E at *
        go_enter Try.func12, Try.ntmps12
        go_wp2
        go_returns
        exact unhide F
      · have heq : ep = (l[k]'(by omega)).1 := by omega
        rw [heq, asg_same (by omega) h2 hL, ← heq]
        have F : Hid (RcPost B w rb (.int .i64 0) l (.returned (.int .i64 0)) w) := ⟨rfl, _, _, unhide HH, Touch.refl _ _⟩
        rw [← heq] at y1
        clear HH hL hle heq hlw
        go_enter Try.func12, Try.ntmps12
        go_wp2
        go_returns
        exact unhide F
end
end Go.Proofs.Ytfpcocagifmpbaa
