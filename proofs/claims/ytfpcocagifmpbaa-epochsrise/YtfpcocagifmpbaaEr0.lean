/-
  The document's cache of layer 10: two rows of numbers. Last, End. Conditions: the cache is one.
-/
import Derived.Test.YtfpcocagifmpbaaEc3
namespace Go.Proofs.Ytfpcocagifmpbaa
open Go.RowKit
set_option linter.unusedVariables false

abbrev fsC (l : List Pr) : List Value := l.map (fun p => Value.int .i64 p.1)
abbrev snC (l : List Pr) : List Value := l.map (fun p => Value.int .i64 p.2)
structure RcAt (B : Nat) (w : World) (rb : Nat) (v1 v2 : Value) (l : List Pr) : Prop where
  box : w.heap[rb]? = some (.cells #[v1, v2] 28)
  r1 : Own w 3 v1 (fsC l)
  r2 : Own w 3 v2 (snC l)
  ap : ∀ k, v1.ownBlock = some k → v2.ownBlock ≠ some k
  lo : B ≤ rb
  n1 : ∀ k, v1.ownBlock = some k → B ≤ k
  n2 : ∀ k, v2.ownBlock = some k → B ≤ k
section
variable {B : Nat} {w w' : World} {rb : Nat} {v1 v2 : Value} {l : List Pr}
theorem own_heap {e : TypeId} {v : Value} {xs : List Value} (h : Own w e v xs) {k : Nat} (hk : v.ownBlock = some k) : ∃ cs, w.heap[k]? = some (.cells cs e) := by
  have : Wide w e 1 v xs.length xs := h
  exact this.heap hk
theorem own_ne {e t : TypeId} {v : Value} {xs : List Value} (h : Own w e v xs) {b : Nat} {cs : Array Value} (hb : w.heap[b]? = some (.cells cs t)) (hne : t ≠ e) : v.ownBlock ≠ some b := fun he => by
  obtain ⟨cs', hc⟩ := own_heap h he
  rw [hb] at hc
  exact hne (Obj.cells.inj (Option.some.inj hc)).2.1
theorem RcAt.lt (h : RcAt B w rb v1 v2 l) : rb < w.heap.size := lt_of_heap h.box
theorem RcAt.ne1 (h : RcAt B w rb v1 v2 l) : v1.ownBlock ≠ some rb := own_ne h.r1 h.box (by decide)
theorem RcAt.ne2 (h : RcAt B w rb v1 v2 l) : v2.ownBlock ≠ some rb := own_ne h.r2 h.box (by decide)
theorem RcAt.keep {S : Nat → Prop} (h : RcAt B w rb v1 v2 l) (t : Touch S w w') (h1 : ¬ S rb) (h2 : ∀ k, v1.ownBlock = some k → ¬ S k) (h3 : ∀ k, v2.ownBlock = some k → ¬ S k) : RcAt B w' rb v1 v2 l := ⟨t.keep h.box h1, h.r1.keep t h2, h.r2.keep t h3, h.ap, h.lo, h.n1, h.n2⟩
theorem RcAt.later (h : RcAt B w rb v1 v2 l) (hb : Below w.heap.size w w') : RcAt B w' rb v1 v2 l := ⟨below_keep hb h.box, h.r1.later hb, h.r2.later hb, h.ap, h.lo, h.n1, h.n2⟩
theorem RcAt.cell1 (h : RcAt B w rb v1 v2 l) : w.cell? ⟨rb, 0, none⟩ = some v1 := by rw [cell_of h.box]; rfl
theorem RcAt.cell2 (h : RcAt B w rb v1 v2 l) : w.cell? ⟨rb, 1, none⟩ = some v2 := by rw [cell_of h.box]; rfl
theorem RcAt.frz (h : RcAt B w rb v1 v2 l) (j : Nat) : w.frozen? ⟨rb, j, none⟩ = false := frozen_of h.box j
/-- The rows' values and cells. -/
theorem RcAt.cells (h : RcAt B w rb v1 v2 l) : ∃ a1 c1 a2 c2, v1 = .slice a1 l.length c1 ∧ v2 = .slice a2 l.length c2 ∧ l.length ≤ maxLen ∧ ∀ i (hi : i < l.length), ∃ g1 g2, a1 = some ⟨g1, 0, none⟩ ∧ a2 = some ⟨g2, 0, none⟩ ∧ g1 < w.heap.size ∧ g2 < w.heap.size ∧ w.cell? ⟨g1, i, none⟩ = some (.int .i64 l[i].1) ∧ w.cell? ⟨g2, i, none⟩ = some (.int .i64 l[i].2) := by
  obtain ⟨a1, c1, e1, m1, m2, _, _, p1⟩ := h.r1.parts
  obtain ⟨a2, c2, e2, m3, m4, _, _, p2⟩ := h.r2.parts
  rw [List.length_map] at e1 e2 m1 m3
  refine ⟨a1, c1, a2, c2, e1, e2, by omega, fun i hi => ?_⟩
  obtain ⟨g1, q1, q2, q3, _⟩ := p1 i (by rw [List.length_map]; exact hi)
  obtain ⟨g2, s1, s2, s3, _⟩ := p2 i (by rw [List.length_map]; exact hi)
  refine ⟨g1, g2, q1, s1, q2, s2, ?_, ?_⟩
  · rw [q3]; simp [hi]
  · rw [s3]; simp [hi]
end

section
variable {B : Nat} {w : World} {rb : Nat} {v1 v2 : Value} {l : List Pr}
set_option maxRecDepth 100000 in
set_option maxHeartbeats 1000000 in
theorem rlast_any (h : RcAt B w rb v1 v2 l) :
    Calls Try.prog 20 #[.pointer (some ⟨rb, 0, none⟩)] w fun e w' => AnsPost w (tup (lastE l)) e w' := by
  have k1 := h.cell1
  have k2 := h.cell2
  obtain ⟨a1, c1, a2, c2, rfl, rfl, hmax, hc⟩ := h.cells
  unfold maxLen at hmax
  by_cases h0 : 0 < l.length
  · obtain ⟨k, hk⟩ : ∃ k, l.length = k + 1 := ⟨l.length - 1, by omega⟩
    obtain ⟨g1, g2, rfl, rfl, hg1, hg2, y1, y2⟩ := hc k (by omega)
    have LE := hide (lastE_at hk)
    generalize (l[k]'(by omega)).1 = E at *
    generalize (l[k]'(by omega)).2 = A at *
    generalize lastE l = R at *
    clear h hc
    generalize l.length = n at *
    have hn2 : ¬ (n : Int) = 0 := by omega
    have hn3 : (k : Int) < (n : Int) := by omega
    have hn4 : (0 : Int) ≤ (k : Int) := by omega
    have hn5 : IntKind.i64.wrap ((n : Int) - 1) = (k : Int) := by rw [show (n : Int) - 1 = (k : Int) by omega]; exact wrap_low (by omega) (by omega)
    clear hk
    go_enter Try.func20, Try.ntmps20
    go_wp2_with fail
    go_quiet (fail)
    go_wp2
    go_returns
    exact AnsPost.mk (by rw [unhide LE]; rfl) (below_drewN3 (Below.refl _ _) _)
  · have hl : l = [] := List.eq_nil_of_length_eq_zero (by omega)
    subst hl
    clear h hc
    simp only [List.length_nil] at k1 k2
    go_enter Try.func20, Try.ntmps20
    go_wp2
    go_returns
    exact ⟨rfl, Below.refl _ _⟩

/-- Epochs above the one that is asked for are passed by. -/
theorem endR_skip (l : List Pr) (ep en : Int) : ∀ d k, k + d = l.length → (∀ j (hj : j < l.length), k ≤ j → ep < l[j].1) → endE l ep en = endR ep (l.take k).reverse (if h : k < l.length then (l[k]'h).2 else en) := by
  intro d
  induction d with
  | zero =>
    intro k hk _
    obtain rfl : k = l.length := by omega
    rw [dif_neg (by omega), List.take_length]; rfl
  | succ d ih =>
    intro k hk h
    have hk' : k < l.length := by omega
    rw [ih (k + 1) (by omega) (fun j hj hkj => h j hj (by omega)), endR_step hk', if_neg (by have := h k hk' (Nat.le_refl _); omega), dif_pos hk']
theorem endE_none {l : List Pr} {ep en : Int} (h : ∀ j (hj : j < l.length), ep < l[j].1) : endE l ep en = (0, 0, false) := by
  rw [endR_skip l ep en l.length 0 (by omega) (fun j hj _ => h j hj)]; rfl
theorem endE_some {l : List Pr} {ep en : Int} {b : Nat} (hb : b < l.length) (h1 : (l[b]'hb).1 ≤ ep) (h : ∀ j (hj : j < l.length), b < j → ep < l[j].1) : endE l ep en = ((l[b]'hb).1, if h : b + 1 < l.length then (l[b + 1]'h).2 else en, true) := by
  rw [endR_skip l ep en (l.length - (b + 1)) (b + 1) (by omega) (fun j hj hbj => h j hj (by omega)), endR_step hb, if_pos h1]
/-- What the loop of the document's End knows. -/
def Best (l : List Pr) (ep : Int) (k : Nat) (b : Int) : Prop :=
  (b = -1 ∧ ∀ j (hj : j < l.length), j < k → ep < l[j].1) ∨ ∃ (i : Nat) (hi : i < l.length), b = (i : Int) ∧ i < k ∧ l[i].1 ≤ ep ∧ ∀ j (hj : j < l.length), i < j → j < k → ep < l[j].1
set_option maxRecDepth 100000 in
set_option maxHeartbeats 2000000 in
theorem rend_any (h : RcAt B w rb v1 v2 l) (ep en : Int) :
    Calls Try.prog 16 #[.pointer (some ⟨rb, 0, none⟩), .int .i64 ep, .int .i64 en] w fun e w' => AnsPost w (tup (endE l ep en)) e w' := by
  have k1 := h.cell1
  have k2 := h.cell2
  obtain ⟨a1, c1, a2, c2, rfl, rfl, hmax, hc⟩ := h.cells
  unfold maxLen at hmax
  have HC := hide hc
  clear h hc
  go_enter Try.func16, Try.ntmps16
  go_wp2_with fail
  go_loopw [9, 10] (fun bv pl wr => ∃ (k : Nat) (b : Int), k ≤ l.length ∧ bv = .int .i64 b ∧ pl = .int .i64 (k : Int) ∧ Best l ep k b ∧ wr = w) (fun _ pl _ => l.length - (intOf pl).toNat)
  case atStart => exact ⟨0, -1, Nat.zero_le _, rfl, rfl, .inl ⟨rfl, fun j hj h => by omega⟩, rfl⟩
  case round =>
    obtain ⟨k, b, hk, rfl, rfl, hB, rfl⟩ := hrel
    have HB := hide hB
    clear hB
    by_cases hkl : k < l.length
    · have hkl' : (k : Int) < (l.length : Int) := by omega
      have hz : (0 : Int) ≤ (k : Int) := by omega
      obtain ⟨g1, g2, rfl, rfl, hg1, hg2, y1, y2⟩ := unhide HC k hkl
      have hw1 : IntKind.i64.wrap ((k : Int) + 1) = (k : Int) + 1 := wrap_low (by omega) (by omega)
      by_cases hE : (l[k]'hkl).1 ≤ ep
      · have NX : Hid (Best l ep (k + 1) (k : Int)) := .inr ⟨k, hkl, rfl, by omega, hE, fun j hj h1 h2 => by omega⟩
        clear HB HC y2
        generalize (l[k]'hkl).1 = E at *
        go_wp2
        go_roundw
        case rel => exact ⟨k + 1, _, by omega, rfl, by go_num, unhide NX, trivial⟩
        case measure => simp [intOf]; omega
      · have NX : Hid (Best l ep (k + 1) b) := by
          rcases unhide HB with ⟨e1, e2⟩ | ⟨i, hi, e1, e2, e3, e4⟩
          · exact .inl ⟨e1, fun j hj h1 => by
              by_cases e : j = k
              · subst e; omega
              · exact e2 j hj (by omega)⟩
          · exact .inr ⟨i, hi, e1, by omega, e3, fun j hj h1 h2 => by
              by_cases e : j = k
              · subst e; omega
              · exact e4 j hj h1 (by omega)⟩
        clear HB HC y2
        generalize (l[k]'hkl).1 = E at *
        go_wp2
        go_roundw
        case rel => exact ⟨k + 1, _, by omega, rfl, by go_num, unhide NX, trivial⟩
        case measure => simp [intOf]; omega
    · have hkl' : ¬ (k : Int) < (l.length : Int) := by omega
      obtain rfl : k = l.length := by omega
      rcases unhide HB with ⟨rfl, e2⟩ | ⟨i, hi, rfl, e2, e3, e4⟩
      · have F : Hid (AnsPost wr (tup (endE l ep en)) (.returned (tup (0, 0, false))) wr) := AnsPost.mk (by rw [endE_none (fun j hj => e2 j hj hj)]) (Below.refl _ _)
        clear HB HC e2
        go_wp2
        go_returns
        exact unhide F
      · have EE := hide (endE_some (en := en) hi e3 (fun j hj h1 => e4 j hj h1 hj))
        have hi0 : ¬ (i : Int) < 0 := by omega
        have hi1 : (0 : Int) ≤ (i : Int) := by omega
        have hi2 : (i : Int) < (l.length : Int) := by omega
        have hw1 : IntKind.i64.wrap ((i : Int) + 1) = (i : Int) + 1 := wrap_low (by omega) (by omega)
        obtain ⟨g1, g2, rfl, rfl, hg1, hg2, y1, y2⟩ := unhide HC i hi
        by_cases hn : i + 1 < l.length
        · obtain ⟨g3, g4, q1, q2, _, _, y3, y4⟩ := unhide HC (i + 1) hn
          injection q2 with q2; injection q2 with q2; subst q2
          rw [dif_pos hn] at EE
          have F : Hid (AnsPost wr (tup (endE l ep en)) (.returned (tup ((l[i]'hi).1, (l[i + 1]'hn).2, true))) wr) := AnsPost.mk (by rw [unhide EE]) (Below.refl _ _)
          have hn' : (i : Int) + 1 < (l.length : Int) := by omega
          have hi3 : (0 : Int) ≤ (i : Int) + 1 := by omega
          have ht : ((i : Int) + 1).toNat = i + 1 := by omega
          clear EE HB HC e4 e3 q1 y3 y2
          generalize (l[i]'hi).1 = E at *
          generalize (l[i + 1]'hn).2 = A at *
          go_wp2
          go_returns
          exact unhide F
        · rw [dif_neg hn] at EE
          have F : Hid (AnsPost wr (tup (endE l ep en)) (.returned (tup ((l[i]'hi).1, en, true))) wr) := AnsPost.mk (by rw [unhide EE]) (Below.refl _ _)
          have hn' : ¬ (i : Int) + 1 < (l.length : Int) := by omega
          clear EE HB HC e4 e3 y2
          generalize (l[i]'hi).1 = E at *
          go_wp2
          go_returns
          exact unhide F
end
end Go.Proofs.Ytfpcocagifmpbaa
