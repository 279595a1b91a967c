/-
  What an image tells: Part, Node, Pids, Counts. Conditions: the image as it lies.
-/
import Derived.Test.YtfakjcaolpmkeaaIg5
namespace Go.Proofs.Ytfakjcaolpmkeaa
open Go.RowKit Go.Maps
set_option linter.unusedVariables false

theorem touchd (w : World) (n : Nat) : Touch (fun _ => False) w (w.drewN n) := ⟨rfl, rfl, rfl, Nat.le_refl _, fun _ _ _ => rfl⟩
section
variable {w w' : World} {mb : Nat} {m : Im}
theorem counts_any (h : ImAt w mb m) : Calls Try.prog 12 #[.pointer (some ⟨mb, 0, none⟩)] w fun e w' => e = .returned (.tuple #[.int .i64 m.ns.length, .int .i64 m.ps.length, .int .i64 m.ct]) ∧ Touch (fun _ => False) w w' := by
  obtain ⟨c0, c1, _, c3, _⟩ := h.c
  obtain ⟨a, cap, e, _⟩ := h.nds.parts
  obtain ⟨a', cap', e', _⟩ := h.pts.parts
  rw [e] at c0
  rw [e'] at c1
  clear h e e'
  generalize m.ns.length = n at *
  generalize m.ps.length = p at *
  generalize m.ct = ct at *
  go_enter Try.func12, Try.ntmps12
  go_wp2_with fail
  go_quiet (fail)
  go_wp2
  go_returns
  exact ⟨rfl, touchd _ _⟩
theorem pids_any (h : ImAt w mb m) : Calls Try.prog 13 #[.pointer (some ⟨mb, 0, none⟩)] w fun e w' => e = .returned (.tuple #[.int .u64 m.nx, .int .u64 (1001 - m.nx)]) ∧ Touch (fun _ => False) w w' := by
  obtain ⟨_, _, c2, _⟩ := h.c
  have K := hide (left_any m.pb m.nx 1001 w h.ctr)
  clear h
  go_enter Try.func13, Try.ntmps13
  go_wp2_with (go_at_call 26; refine (unhide K).mono ?_; rintro e w' ⟨rfl, rfl⟩)
  go_returns
  exact ⟨rfl, (Touch.refl _ _).drew⟩
theorem node_any (h : ImAt w mb m) {x : Nat} (hx : x < m.ns.length) : Calls Try.prog 14 #[.pointer (some ⟨mb, 0, none⟩), .int .i64 x] w fun e w' => e = .returned (.tuple #[.bool (m.ns[x]).th, .int .i64 (m.ns[x]).tm, .int .u64 (m.ns[x]).bk]) ∧ Below w.heap.size w w' := by
  have hN : isN m.ns.length (x : Int) = true := by simp [isN]; omega
  have K := hide (isNode_eq h (x : Int))
  rw [hN] at K
  obtain ⟨g, cap, e, _, h2, h3, _⟩ := h.nc hx
  have hbig : m.ns.length ≤ 9223372036854775807 := by unfold maxLen at h2; omega
  have hxz : (x : Int) < (m.ns.length : Int) := by omega
  obtain ⟨c0, _⟩ := h.c
  rw [e] at c0
  have d0 := h3 0 (by omega)
  have d1 := h3 1 (by omega)
  have d2 := h3 2 (by omega)
  simp only [ndC, List.getElem?_cons_zero, List.getElem?_cons_succ, Nat.add_zero] at d0 d1 d2
  clear h h3 e hN
  generalize (m.ns[x]).th = q1 at *
  generalize (m.ns[x]).tm = q2 at *
  generalize (m.ns[x]).bk = q3 at *
  clear hx
  generalize m.ns.length = n at *
  go_enter Try.func14, Try.ntmps14
  go_upto_region 4 with (go_at_call 27; refine (unhide K).mono ?_; rintro e w1 ⟨rfl, rfl⟩)
  go_quiet (fail)
  go_wp2
  go_returns
  exact ⟨rfl, below_drewN' ((Below.refl _ _).alloc (Nat.le_refl _) _) _⟩
theorem part_none (h : ImAt w mb m) {x : Int} (hx : isN m.ps.length x = false) : Calls Try.prog 11 #[.pointer (some ⟨mb, 0, none⟩), .int .i64 x] w fun e w' => e = .returned (.tuple #[.agg #[.int .i64 0, .int .i64 0, .int .i64 0, .slice none 0 0, .slice none 0 0, .slice none 0 0], .bool false]) ∧ Below w.heap.size w w' := by
  have b0 := (Below.refl w.heap.size w).alloc (Nat.le_refl _) (.cells #[.int .i64 0, .int .i64 0, .int .i64 0, .slice none 0 0, .slice none 0 0, .slice none 0 0] 42)
  have K := hide (isPart_eq (h.later b0) x)
  rw [hx] at K
  clear h
  go_enter Try.func11, Try.ntmps11
  go_wp2_with (go_at_call 24; refine (unhide K).mono ?_; rintro e w1 ⟨rfl, rfl⟩)
  go_returns
  exact ⟨rfl, b0⟩
end
end Go.Proofs.Ytfakjcaolpmkeaa
