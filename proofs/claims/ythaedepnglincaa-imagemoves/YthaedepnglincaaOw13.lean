/-
  A command's own copy. Conditions: the command as it is read.
-/
import Derived.Test.YthaedepnglincaaPay13
namespace Go.Proofs.Ythaedepnglincaa
open Go.RowKit
set_option linter.unusedVariables false

theorem set6 {X : World} {z : Nat} {T : TypeId} {c0 c1 c2 c3 c4 c5 : Value} (v0 v1 v2 v3 v4 v5 : Value) (h : X.heap[z]? = some (.cells #[c0, c1, c2, c3, c4, c5] T)) :
    ((((((X.setCell ⟨z, 0, none⟩ v0).setCell ⟨z, 1, none⟩ v1).setCell ⟨z, 2, none⟩ v2).setCell ⟨z, 3, none⟩ v3).setCell ⟨z, 4, none⟩ v4).setCell ⟨z, 5, none⟩ v5).heap[z]? = some (.cells #[v0, v1, v2, v3, v4, v5] T) ∧
    Touch (· = z) X ((((((X.setCell ⟨z, 0, none⟩ v0).setCell ⟨z, 1, none⟩ v1).setCell ⟨z, 2, none⟩ v2).setCell ⟨z, 3, none⟩ v3).setCell ⟨z, 4, none⟩ v4).setCell ⟨z, 5, none⟩ v5) := by
  have q0 := heap_set h 0 v0
  have q1 := heap_set q0 1 v1
  have q2 := heap_set q1 2 v2
  have q3 := heap_set q2 3 v3
  have q4 := heap_set q3 4 v4
  have q5 := heap_set q4 5 v5
  refine ⟨by simpa using q5, (((((touch_set _ _ _ _).trans (touch_set _ _ _ _)).trans (touch_set _ _ _ _)).trans (touch_set _ _ _ _)).trans (touch_set _ _ _ _)).trans (touch_set _ _ _ _)⟩
section
variable {w : World}
set_option maxHeartbeats 4000000 in
theorem own_any {c : Cm} (hc : CGot w c) :
    Calls Try.prog 8 #[.agg (cmA c)] w fun e w' => ∃ a k, e = .returned (.agg #[.int .i64 c.kd, .int .i64 c.nd, .int .i64 c.pt, .int .i64 c.ep, .int .i64 c.ve, .slice a c.l.length k]) ∧ IL w' (.slice a c.l.length k) c.l ∧ New w (.slice a c.l.length k) ∧ Below w.heap.size w w' := by
  have HC := hide hc
  have hlen := hc.len
  have hcap := hc.cap
  have LI := hide hc.cin.li
  obtain ⟨kd, nd, pt, ep, ve, a, k, l⟩ := c
  unfold cmA
  simp only at hlen hcap LI ⊢
  clear hc HC
  go_enter Try.func8, Try.ntmps8
  have b1 := (Below.refl w.heap.size w).alloc (Nat.le_refl _) (.cells #[.int .i64 kd, .int .i64 nd, .int .i64 pt, .int .i64 ep, .int .i64 ve, .slice a l.length k] 33)
  have b2 := b1.alloc b1.size (.cells #[.int .i64 0, .int .i64 0, .int .i64 0, .int .i64 0, .int .i64 0, .slice none 0 0] 33)
  have b3 := b2.alloc b2.size (.cells #[] 3)
  have B3 := hide b3
  have HB : Hid ((((w.alloc (.cells #[.int .i64 kd, .int .i64 nd, .int .i64 pt, .int .i64 ep, .int .i64 ve, .slice a l.length k] 33)).alloc (.cells #[.int .i64 0, .int .i64 0, .int .i64 0, .int .i64 0, .int .i64 0, .slice none 0 0] 33)).alloc (.cells #[] 3)).heap[w.heap.size]? = some (.cells #[.int .i64 kd, .int .i64 nd, .int .i64 pt, .int .i64 ep, .int .i64 ve, .slice a l.length k] 33)) := hide (heap_old _ (heap_old _ (heap_new _ _)))
  have HZ : Hid ((((w.alloc (.cells #[.int .i64 kd, .int .i64 nd, .int .i64 pt, .int .i64 ep, .int .i64 ve, .slice a l.length k] 33)).alloc (.cells #[.int .i64 0, .int .i64 0, .int .i64 0, .int .i64 0, .int .i64 0, .slice none 0 0] 33)).alloc (.cells #[] 3)).heap[w.heap.size + 1]? = some (.cells #[.int .i64 0, .int .i64 0, .int .i64 0, .int .i64 0, .int .i64 0, .slice none 0 0] 33)) := hide (heap_old _ (by have := heap_new (w.alloc (.cells #[.int .i64 kd, .int .i64 nd, .int .i64 pt, .int .i64 ep, .int .i64 ve, .slice a l.length k] 33)) (.cells #[.int .i64 0, .int .i64 0, .int .i64 0, .int .i64 0, .int .i64 0, .slice none 0 0] 33); simpa using this))
  have HL : Hid (IL (((w.alloc (.cells #[.int .i64 kd, .int .i64 nd, .int .i64 pt, .int .i64 ep, .int .i64 ve, .slice a l.length k] 33)).alloc (.cells #[.int .i64 0, .int .i64 0, .int .i64 0, .int .i64 0, .int .i64 0, .slice none 0 0] 33)).alloc (.cells #[] 3)) (.slice (some ⟨w.heap.size + 2, 0, none⟩) 0 0) []) := hide (by
    have := World.ownsRow_lit (base := 0) (e := 3) (size := 1) ((w.alloc (.cells #[.int .i64 kd, .int .i64 nd, .int .i64 pt, .int .i64 ep, .int .i64 ve, .slice a l.length k] 33)).alloc (.cells #[.int .i64 0, .int .i64 0, .int .i64 0, .int .i64 0, .int .i64 0, .slice none 0 0] 33)) #[] 0 (Nat.zero_le _) (by simp) rfl
    have e1 : ((w.alloc (.cells #[.int .i64 kd, .int .i64 nd, .int .i64 pt, .int .i64 ep, .int .i64 ve, .slice a l.length k] 33)).alloc (.cells #[.int .i64 0, .int .i64 0, .int .i64 0, .int .i64 0, .int .i64 0, .slice none 0 0] 33)).heap.size = w.heap.size + 2 := by simp
    rw [e1] at this
    exact this)
  have LX := hide ((unhide LI).later b3)
  clear b1 b2 b3 LI
  go_wp2_with (at_builtin; refine wpList_ints _ rfl (.tmp 3) (.tmp 5) rfl _ [] rfl (unhide HL) a k l rfl (unhide LX) hcap (by simp; omega) ?_; intro v3 w3 r3 t3 m3; obtain ⟨a3, k3, e3, _⟩ := r3.iat; simp only [List.nil_append] at e3 r3; subst e3; have T3 := hide t3; have M3 := hide m3; have R3 := hide r3; have H3 := hide (t3.keep (unhide HB) (fun e => absurd (Option.some.inj e : w.heap.size + 2 = w.heap.size) (by omega))); have Z3 := hide (t3.keep (unhide HZ) (fun e => absurd (Option.some.inj e : w.heap.size + 2 = w.heap.size + 1) (by omega))); have g0 := cell_of (unhide H3) 0; have g1 := cell_of (unhide H3) 1; have g2 := cell_of (unhide H3) 2; have g3 := cell_of (unhide H3) 3; have g4 := cell_of (unhide H3) 4; have g5 := cell_of (unhide H3) 5; have gf := frozen_of (unhide H3) 5; have j0 := cell_of (unhide Z3) 0; have j1 := cell_of (unhide Z3) 1; have j2 := cell_of (unhide Z3) 2; have j3 := cell_of (unhide Z3) 3; have j4 := cell_of (unhide Z3) 4; have j5 := cell_of (unhide Z3) 5; have jf := fun j => frozen_of (unhide Z3) j; simp at g0 g1 g2 g3 g4 g5 j0 j1 j2 j3 j4 j5; clear r3 t3 m3)
  have t4 := touch_set w3 w.heap.size 5 (.slice a3 l.length k3)
  obtain ⟨S1, S2⟩ := set6 (.int .i64 kd) (.int .i64 nd) (.int .i64 pt) (.int .i64 ep) (.int .i64 ve) (.slice a3 l.length k3) (t4.keep (unhide Z3) (by omega))
  have NB : ∀ k, (Value.slice a3 l.length k3).ownBlock = some k → w.heap.size + 2 ≤ k := fun k hk => by
    rcases unhide M3 k hk with e | e
    · have : w.heap.size + 2 = k := Option.some.inj e
      omega
    · simp at e
      omega
  have R4 := hide (((unhide R3).keep t4 (fun k hk e => by have := NB k hk; omega)).keep S2 (fun k hk e => by have := NB k hk; omega))
  have hs3 := (unhide T3).size
  have B4 := hide (below_touch (below_touch (below_touch (unhide B3) (unhide T3) (unhide B3).size (fun k hk => by have : w.heap.size + 2 = k := Option.some.inj hk; omega)) t4 (by have := (unhide B3).size; omega) (fun k hk => by omega)) S2 (by have := (unhide B3).size; have := t4.size; omega) (fun k hk => by omega))
  generalize (((((((w3.setCell ⟨w.heap.size, 5, none⟩ (.slice a3 l.length k3)).setCell ⟨w.heap.size + 1, 0, none⟩ (.int .i64 kd)).setCell ⟨w.heap.size + 1, 1, none⟩ (.int .i64 nd)).setCell ⟨w.heap.size + 1, 2, none⟩ (.int .i64 pt)).setCell ⟨w.heap.size + 1, 3, none⟩ (.int .i64 ep)).setCell ⟨w.heap.size + 1, 4, none⟩ (.int .i64 ve)).setCell ⟨w.heap.size + 1, 5, none⟩ (.slice a3 l.length k3)) = Y at *
  have w0 := cell_of S1 0
  have w1 := cell_of S1 1
  have w2 := cell_of S1 2
  have w4 := cell_of S1 3
  have w5 := cell_of S1 4
  have w6 := cell_of S1 5
  simp at w0 w1 w2 w4 w5 w6
  refine bodyPost_ret (by simp [results, Try.results8, go_sem, w0, w1, w2, w4, w5, w6]; try rfl) rfl ?_
  exact ⟨a3, k3, rfl, unhide R4, fun k hk => by have := NB k hk; omega, unhide B4⟩
end
end Go.Proofs.Ythaedepnglincaa
