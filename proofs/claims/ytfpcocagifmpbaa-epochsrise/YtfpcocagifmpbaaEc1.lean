/-
  epochs' Cache: End, Cut. Conditions: the cache is one; its epochs rise (Cut).
-/
import Derived.Test.YtfpcocagifmpbaaEc0
namespace Go.Proofs.Ytfpcocagifmpbaa
open Go.RowKit
set_option linter.unusedVariables false

section
variable {B : Nat} {w : World} {cb : Nat} {v : Value} {l : List Pr}
theorem end_nil10 (p q : Int) (w : World) : Calls Try.prog 15 #[.pointer none, .int .i64 p, .int .i64 q] w fun e w' => AnsPost w (tup (0, 0, false)) e w' := by
  go_enter Try.func15, Try.ntmps15
  go_wp2
  go_returns
  exact ⟨rfl, Below.refl _ _⟩
theorem cut_nil10 (p : Int) (w : World) : Calls Try.prog 13 #[.pointer none, .int .i64 p] w fun e w' => e = .returned (.tuple #[]) ∧ w' = w := by
  go_enter Try.func13, Try.ntmps13
  go_wp2
  go_returns
  exact ⟨rfl, rfl⟩
theorem assign_nil10 (p q : Int) (w : World) : Calls Try.prog 11 #[.pointer none, .int .i64 p, .int .i64 q] w fun e w' => e = .returned (.int .i64 5) ∧ w' = w := by
  go_enter Try.func11, Try.ntmps11
  go_wp2
  go_returns
  exact ⟨rfl, rfl⟩

theorem endR_step {l : List Pr} {k : Nat} (hk : k < l.length) (ep en : Int) : endR ep (l.take (k + 1)).reverse en = if (l[k]).1 ≤ ep then ((l[k]).1, en, true) else endR ep (l.take k).reverse (l[k]).2 := by
  rw [List.take_succ_eq_append_getElem hk, List.reverse_append]
  rfl
set_option maxRecDepth 100000 in
set_option maxHeartbeats 1000000 in
theorem end_any (h : CaAt B w cb v l) (ep en : Int) :
    Calls Try.prog 15 #[.pointer (some ⟨cb, 0, none⟩), .int .i64 ep, .int .i64 en] w fun e w' => AnsPost w (tup (endE l ep en)) e w' := by
  have c0 := h.cell
  obtain ⟨a, cap, rfl, hcap, hmax, hcells⟩ := h.cells
  unfold maxLen at hmax
  have hlt := h.lt
  have hc : ∀ i (hi : i < l.length), ∃ g, a = some ⟨g, 0, none⟩ ∧ g < w.heap.size ∧ w.cell? ⟨g, i * 2, none⟩ = some (.int .i64 l[i].1) ∧ w.cell? ⟨g, i * 2 + 1, none⟩ = some (.int .i64 l[i].2) := fun i hi => by
    obtain ⟨g, h1, h2, h3⟩ := hcells (by omega)
    exact ⟨g, h1, h2, h3 i hi⟩
  have HC := hide hc
  clear h hcells hc
  have hn5 : IntKind.i64.wrap ((l.length : Int) - 1) = (l.length : Int) - 1 := by
    simp [IntKind.wrap, IntKind.bits, IntKind.signed]; omega
  go_enter Try.func15, Try.ntmps15
  go_wp2_with fail
  go_loopw [2, 9] (fun en' pl wr => ∃ (k : Nat) (e2 : Int), k ≤ l.length ∧ en' = .int .i64 e2 ∧ pl = .int .i64 ((k : Int) - 1) ∧ endR ep (l.take k).reverse e2 = endE l ep en ∧ Below w.heap.size w wr) (fun _ pl _ => (intOf pl + 1).toNat)
  case atStart => exact ⟨l.length, en, Nat.le_refl _, rfl, rfl, by rw [List.take_length]; rfl, Below.refl _ _⟩
  case round =>
    obtain ⟨k, e2, hk, rfl, rfl, hR, bl⟩ := hrel
    have HR := hide hR
    have BL := hide bl
    have hcw : wr.cell? ⟨cb, 0, none⟩ = some (.slice a l.length cap) := (bl.cell (p := ⟨cb, 0, none⟩) hlt).trans c0
    have hcl : cb < wr.heap.size := Nat.lt_of_lt_of_le hlt bl.size
    clear hR bl c0
    cases k with
    | zero =>
      have hz : ¬ (0 : Int) ≤ ((0 : Nat) : Int) - 1 := by omega
      have F : Hid (AnsPost w (tup (endE l ep en)) (.returned (tup (0, 0, false))) wr) := AnsPost.mk (by rw [← unhide HR]; rfl) (unhide BL)
      clear HR BL HC
      go_wp2
      go_returns
      exact unhide F
    | succ k =>
      obtain ⟨g, rfl, hg, y0', y1'⟩ := unhide HC k (by omega)
      have y0 := ((unhide BL).cell (p := ⟨g, k * 2, none⟩) hg).trans y0'
      have y1 := ((unhide BL).cell (p := ⟨g, k * 2 + 1, none⟩) hg).trans y1'
      have HS := hide (endR_step (l := l) (k := k) (by omega) ep e2)
      clear y0' y1' HC
      have hkn : (k : Int) < (l.length : Int) := by omega
      rw [show ((k + 1 : Nat) : Int) - 1 = (k : Int) by omega]
      have hz : (0 : Int) ≤ (k : Int) := by omega
      generalize (l[k]'(by omega)).1 = E at *
      generalize (l[k]'(by omega)).2 = A at *
      have hw1 : IntKind.i64.wrap ((k : Int) - 1) = (k : Int) - 1 := by
        simp [IntKind.wrap, IntKind.bits, IntKind.signed]; omega
      have BA : Hid (Below w.heap.size w (wr.alloc (.cells #[.int .i64 E, .int .i64 A] 52))) := (unhide BL).alloc (unhide BL).size _
      by_cases hE : E ≤ ep
      · have F : Hid (AnsPost w (tup (endE l ep en)) (.returned (tup (E, e2, true))) (wr.alloc (.cells #[.int .i64 E, .int .i64 A] 52))) := AnsPost.mk (by rw [← unhide HR, unhide HS, if_pos hE]) (unhide BA)
        clear HR HS BL BA
        go_wp2
        go_returns
        exact unhide F
      · have F : Hid (endR ep (l.take k).reverse A = endE l ep en) := by show _ = _; rw [← unhide HR, unhide HS, if_neg hE]
        clear HR HS BL
        go_wp2
        go_roundw
        case rel => exact ⟨k, A, by omega, rfl, rfl, unhide F, unhide BA⟩
        case measure => simp [intOf]
end
end Go.Proofs.Ytfpcocagifmpbaa
