/-
  awake: a node joins, and leads. No conditions.
-/
import Derived.Test.YtfakjcaolpmkeaaIgc
import Derived.Test.YtfakjcaolpmkeaaIg6
import Derived.Test.YtfakjcaolpmkeaaIg9
namespace Go.Proofs.Ytfakjcaolpmkeaa
open Go.RowKit Go.Maps
set_option linter.unusedVariables false

theorem arnd_02 : arnd 0 2 3 = [0, 1] := by simp [arnd, rawA, List.range, List.range.loop, List.mergeSort]
theorem arnd_12 : arnd 1 2 3 = [1, 2] := by simp [arnd, rawA, List.range, List.range.loop, List.mergeSort]
def cm1 : Cm := ⟨1, 1, 0, 1, 0, none, 0, []⟩
theorem cin_none (w : World) (c : Cm) (h : c.l = []) : CIn w c := ⟨fun i hi => by rw [h] at hi; simp at hi, by rw [h]; simp⟩
theorem far_none (m : Im) (mb : Nat) (c : Cm) (h : c.l = []) : Far m mb c := fun hl => by rw [h] at hl; simp at hl
theorem elect_12 : electQ [⟨false, 0, 0⟩, ⟨true, 1, 0⟩, ⟨false, 0, 0⟩] (newP 3 2 1) = ⟨1, 1, 0, [1, 2], [1, 2], []⟩ := by
  unfold electQ newP
  simp only [arnd_12]
  rfl
theorem join_12 : joinQ [⟨false, 0, 0⟩, ⟨true, 1, 0⟩, ⟨false, 0, 0⟩] 1 (newP 3 2 1) = ⟨1, 1, 0, [1, 2], [1, 2], []⟩ := by
  unfold joinQ
  rw [if_pos (by unfold mustE newP; simp only [arnd_12]; rfl), elect_12]
theorem new_ok : ∀ q ∈ (List.range 2).map (newP 3 2), POk 3 q := by
  intro q hq
  have : q = newP 3 2 0 ∨ q = newP 3 2 1 := by simpa [List.range, List.range.loop] using hq
  rcases this with rfl | rfl
  · exact ⟨by unfold newP; simp only [arnd_02]; intro x hx; simp at hx; rcases hx with rfl | rfl <;> rfl, by unfold newP; simp, by unfold newP; simp⟩
  · exact ⟨by unfold newP; simp only [arnd_12]; intro x hx; simp at hx; rcases hx with rfl | rfl <;> rfl, by unfold newP; simp, by unfold newP; simp⟩
/-- What the first two calls leave. -/
theorem joined13 {w w1 : World} {mb : Nat} {m : Im} (hn : INew w w1 mb m) (ha : m.abs = newI 3 2 2) :
    Calls Try.prog 10 #[.pointer (some ⟨mb, 0, none⟩), .agg #[.int .i64 1, .int .i64 1, .int .i64 0, .int .i64 1, .int .i64 0, .slice none 0 0]] w1 fun e w2 => e = .returned (.int .i64 0) ∧
      Hid (Below w.heap.size w w2) ∧ ∃ m', Hid (ImAt w2 mb m') ∧ ∃ h : 1 < m'.ps.length, (m'.ps[1]).q = ⟨1, 1, 0, [1, 2], [1, 2], []⟩ := by
  obtain ⟨nv, pv, pb, ns, ps, nx, ct⟩ := m
  unfold Im.abs newI at ha
  simp only [Img.mk.injEq] at ha
  obtain ⟨rfl, h2, rfl, rfl⟩ := ha
  have hl : ps.length = 2 := by have := congrArg List.length h2; simpa using this
  have K := does_join (c := cm1) (x := 1) hn.at_ (cin_none w1 cm1 rfl) (far_none _ _ _ rfl) (by simp) (by simp) (by simp only [hl]; rfl) rfl rfl (by simp) (fun p hp => by
    have : p.q ∈ (List.range 2).map (newP 3 2) := by rw [← h2]; exact List.mem_map_of_mem hp
    simpa using new_ok _ this)
  refine K.mono ?_
  rintro e w2 ⟨v, rfl, k1, _⟩
  obtain ⟨rfl, m', t2, e2⟩ := k1 (show (0 : Int) < 1 by decide)
  refine ⟨rfl, hide (below_touch hn.below t2.touch hn.below.size (fun k hk => hn.new k hk)), m', hide t2.at_, ?_⟩
  simp only at e2
  rw [h2] at e2
  have e3 : m'.ps.map Pm.q = [joinQ [⟨false, 0, 0⟩, ⟨true, 1, 0⟩, ⟨false, 0, 0⟩] 1 (newP 3 2 0), joinQ [⟨false, 0, 0⟩, ⟨true, 1, 0⟩, ⟨false, 0, 0⟩] 1 (newP 3 2 1)] := congrArg Img.ps e2
  have hl2 : 1 < m'.ps.length := by have := congrArg List.length e3; simp at this; omega
  refine ⟨hl2, ?_⟩
  have e4 : (m'.ps.map Pm.q)[1]? = some (joinQ [⟨false, 0, 0⟩, ⟨true, 1, 0⟩, ⟨false, 0, 0⟩] 1 (newP 3 2 1)) := by rw [e3]; rfl
  rw [List.getElem?_map, List.getElem?_eq_getElem hl2] at e4
  rw [join_12] at e4
  exact Option.some.inj e4
set_option maxHeartbeats 2000000 in
theorem awake13 (w : World) : Calls Try.prog 6 #[] w fun e w' => e = .returned (.bool true) ∧ Below w.heap.size w w' := by
  have K0 : Hid (Calls Try.prog 4 #[.int .i64 3, .int .i64 2, .int .i64 2] w fun e w' => ∃ mb m, e = .returned (.tuple #[.pointer (some ⟨mb, 0, none⟩), .int .i64 0]) ∧ INew w w' mb m ∧ m.abs = newI 3 2 2) := hide (inew_any (n := 3) (p := 2) (c := 2) (by omega) (by omega) (by omega) (by omega) (by omega) (by omega))
  go_enter Try.func6, Try.ntmps6
  go_wp2_with (first
    | (go_at_call 4; refine (unhide K0).mono ?_; rintro e w1 ⟨mb, m, rfl, q1, q2⟩; have Q1 := hide q1; have Q2 := hide q2; clear q1 q2 K0)
    | (go_at_call 10; refine (joined13 (unhide Q1) (unhide Q2)).mono ?_; rintro e w2 ⟨rfl, B2, m2, I2, hl2, hq⟩; have HQ := hide hq; clear hq Q1 Q2)
    | (go_at_call 11; refine (part_any (x := 1) (unhide I2) hl2 (q := ⟨1, 1, 0, [1, 2], [1, 2], []⟩) (vi := (m2.ps[1]).vi) (vr := (m2.ps[1]).vr) (vt := (m2.ps[1]).vt) (by rw [← unhide HQ]) (by simp) (by simp) (by simp)).mono ?_; rintro e w3 ⟨ui, ur, ut, rfl, td⟩; obtain ⟨a, k, eu, _⟩ := td.li.iat; subst eu; obtain ⟨a4, k4, eu4, _⟩ := td.lr.iat; subst eu4; obtain ⟨a5, k5, eu5, _⟩ := td.lt.iat; subst eu5; have TD := hide td.below; clear td))
  go_returns
  have b3 := (unhide B2).trans ((unhide TD).mono (unhide B2).size)
  exact ⟨rfl, b3.alloc b3.size _⟩
end Go.Proofs.Ytfakjcaolpmkeaa
