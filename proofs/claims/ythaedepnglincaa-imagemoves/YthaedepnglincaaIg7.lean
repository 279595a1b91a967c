/-
  What an image tells: Part, Node, Pids, Counts. Conditions: the image as it lies.
-/
import Derived.Test.YthaedepnglincaaIg5
namespace Go.Proofs.Ythaedepnglincaa
open Go.RowKit Go.Maps
set_option linter.unusedVariables false

theorem touchd (w : World) (n : Nat) : Touch (fun _ => False) w (w.drewN n) := ⟨rfl, rfl, rfl, Nat.le_refl _, fun _ _ _ => rfl⟩
section
variable {w w' : World} {mb : Nat} {m : Im}
theorem node_any (h : ImAt w mb m) {x : Nat} (hx : x < m.ns.length) : Calls Try.prog 10 #[.pointer (some ⟨mb, 0, none⟩), .int .i64 x] w fun e w' => e = .returned (.tuple #[.bool (m.ns[x]).th, .int .i64 (m.ns[x]).tm, .int .u64 (m.ns[x]).bk]) ∧ Below w.heap.size w w' := by
  have hN : isN m.ns.length (x : Int) = true := by simp [isN]; omega
  have K := hide (isNode_eq h (x : Int))
  rw [hN] at K
  obtain ⟨g, cap, e, _, h2, h3, _⟩ := h.nc hx
  have hbig : m.ns.length ≤ 9223372036854775807 := by unfold maxLen at h2; omega
  have hxz : (x : Int) < (m.ns.length : Int) := by omega
  obtain ⟨c0, _⟩ := h.c
  rw [e] at c0
  have d0 := h3 0 (by omega)
  have d1 := h3 1 (by omega)
  have d2 := h3 2 (by omega)
  simp only [ndC, List.getElem?_cons_zero, List.getElem?_cons_succ, Nat.add_zero] at d0 d1 d2
  clear h h3 e hN
  generalize (m.ns[x]).th = q1 at *
  generalize (m.ns[x]).tm = q2 at *
  generalize (m.ns[x]).bk = q3 at *
  clear hx
  generalize m.ns.length = n at *
  go_enter Try.func10, Try.ntmps10
  go_upto_region 4 with (go_at_call 24; refine (unhide K).mono ?_; rintro e w1 ⟨rfl, rfl⟩)
  go_quiet (fail)
  go_wp2
  go_returns
  exact ⟨rfl, below_drewN' ((Below.refl _ _).alloc (Nat.le_refl _) _) _⟩
theorem part_none (h : ImAt w mb m) {x : Int} (hx : isN m.ps.length x = false) : Calls Try.prog 9 #[.pointer (some ⟨mb, 0, none⟩), .int .i64 x] w fun e w' => e = .returned (.tuple #[.agg #[.int .i64 0, .int .i64 0, .int .i64 0, .slice none 0 0, .slice none 0 0, .slice none 0 0], .bool false]) ∧ Below w.heap.size w w' := by
  have b0 := (Below.refl w.heap.size w).alloc (Nat.le_refl _) (.cells #[.int .i64 0, .int .i64 0, .int .i64 0, .slice none 0 0, .slice none 0 0, .slice none 0 0] 30)
  have K := hide (isPart_eq (h.later b0) x)
  rw [hx] at K
  clear h
  go_enter Try.func9, Try.ntmps9
  go_wp2_with (go_at_call 22; refine (unhide K).mono ?_; rintro e w1 ⟨rfl, rfl⟩)
  go_returns
  exact ⟨rfl, b0⟩
end
end Go.Proofs.Ythaedepnglincaa
