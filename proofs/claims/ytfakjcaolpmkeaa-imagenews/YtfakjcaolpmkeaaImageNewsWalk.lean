/-
  The road of ImageNews. No conditions.
-/
import Derived.Test.YtfakjcaolpmkeaaSa13
import Derived.Test.YtfakjcaolpmkeaaNb13
import Derived.Test.YtfakjcaolpmkeaaAw13
namespace Go.Proofs.Ytfakjcaolpmkeaa
open Go.RowKit Go.Maps
set_option linter.unusedVariables false

theorem imageNews_bad (w : World) {n p c : Int} (h : ¬ okN n p c) : Calls Try.prog 3 #[.int .i64 n, .int .i64 p, .int .i64 c] w fun e w' => e = .returned (.bool true) ∧ Below w.heap.size w w' := by
  have K1 := hide (inew_bad w h)
  have K2 := hide (rnew_bad w h)
  clear h
  go_enter Try.func3, Try.ntmps3
  go_wp2_with (first
    | (go_at_call 4; refine (unhide K1).mono ?_; rintro e w1 ⟨rfl, ey⟩; obtain rfl : w = w1 := ey.symm; clear K1)
    | (go_at_call 5; refine (unhide K2).mono ?_; rintro e w1 ⟨rfl, ey⟩; obtain rfl : w = w1 := ey.symm; clear K2)
    | (go_at_call 6; refine (awake13 _).mono ?_; rintro e w2 ⟨rfl, b2⟩; have B2 := hide b2; clear b2))
  go_returns
  exact ⟨rfl, unhide B2⟩
set_option maxHeartbeats 2000000 in
theorem imageNews_good (w : World) {n p c : Nat} (h1 : 1 ≤ n) (h2 : n ≤ 5) (h3 : 1 ≤ p) (h4 : p ≤ 6) (h5 : 1 ≤ c) (h6 : c ≤ n) : Calls Try.prog 3 #[.int .i64 n, .int .i64 p, .int .i64 c] w fun e w' => e = .returned (.bool true) ∧ Below w.heap.size w w' := by
  have K1 := hide (inew_any (w := w) h1 h2 h3 h4 h5 h6)
  have K2 : Hid (∀ W, Calls Try.prog 5 #[.int .i64 n, .int .i64 p, .int .i64 c] W fun e w' => DNewP W n p c e w') := hide (fun W => rnew_any h1 h2 h3 h4 h5 h6)
  have KS : Hid (∀ (w1 w2 w3 : World) (mb rb : Nat) (m : Im) (pv : Value) (ps : List Pm), INew w w1 mb m → m.abs = newI n p c → DN w1 w2 rb n pv ps → ps.map Pm.q = (List.range p).map (newP n c) → Below w2.heap.size w2 w3 → Calls Try.prog 7 #[.pointer (some ⟨mb, 0, none⟩), .pointer (some ⟨rb, 0, none⟩)] w3 fun e w' => e = .returned (.bool true) ∧ Hid (Below w.heap.size w w')) := hide (fun w1 w2 w3 mb rb m pv ps i1 e1 d1 q1 b3 => by
    have b12 : Below w1.heap.size w1 w3 := d1.below.trans (b3.mono d1.below.size)
    have hr : RDat w3 rb m.abs := by rw [e1]; exact (d1.rdat q1).later b3
    have hn : m.ns.length = n := by have := congrArg (fun g => g.ns.length) e1; simpa [Im.abs, newI] using this
    have hp : m.ps.length = p := by have := congrArg (fun g => g.ps.length) e1; simpa [Im.abs, newI] using this
    have hf : ∀ q ∈ m.ps.map Pm.q, q.is.length ≤ 1000000 ∧ q.rs.length ≤ 1000000 ∧ q.ts.length ≤ 1000000 := fun q hq => by
      have e2 : m.ps.map Pm.q = (List.range p).map (newP n c) := congrArg Img.ps e1
      rw [e2] at hq
      obtain ⟨k, _, rfl⟩ := List.mem_map.1 hq
      have hl := arnd_len k c n
      exact ⟨by show (arnd k c n).length ≤ 1000000; omega, by show (arnd k c n).length ≤ 1000000; omega, by simp [newP]⟩
    refine (same13 (i1.at_.later b12) hr (by omega) (by omega) hf).mono ?_
    rintro e w' ⟨rfl, b4⟩
    have b13 := i1.below.trans (b12.mono i1.below.size)
    exact ⟨rfl, hide (b13.trans (b4.mono b13.size))⟩)
  clear h1 h2 h3 h4 h5 h6
  go_enter Try.func3, Try.ntmps3
  go_wp2_with (first
    | (go_at_call 4; refine (unhide K1).mono ?_; rintro e w1 ⟨mb, m, rfl, q1, q2⟩; have Q1 := hide q1; have Q2 := hide q2; clear q1 q2 K1)
    | (go_at_call 5; refine (unhide K2 w1).mono ?_; rintro e w2 ⟨rb, pv, ps, rfl, q3, q4⟩; have Q3 := hide q3; have Q4 := hide q4; clear q3 q4 K2)
    | (go_at_call 6; refine (awake13 _).mono ?_; rintro e w3 ⟨rfl, b3⟩; have B3 := hide b3; clear b3)
    | (go_at_call 7; refine (unhide KS w1 w2 w3 mb rb m pv ps (unhide Q1) (unhide Q2) (unhide Q3) (unhide Q4) (unhide B3)).mono ?_; rintro e w4 ⟨rfl, B4⟩))
  go_returns
  exact ⟨rfl, unhide B4⟩
theorem imageNews_walk (w : World) (n p c : Int) : Calls Try.prog 3 #[.int .i64 n, .int .i64 p, .int .i64 c] w fun e w' => e = .returned (.bool true) ∧ Below w.heap.size w w' := by
  by_cases h : okN n p c
  · obtain ⟨h1, h2, h3, h4, h5, h6⟩ := h
    obtain ⟨a, rfl⟩ := Int.eq_ofNat_of_zero_le (show 0 ≤ n by omega)
    obtain ⟨b, rfl⟩ := Int.eq_ofNat_of_zero_le (show 0 ≤ p by omega)
    obtain ⟨d, rfl⟩ := Int.eq_ofNat_of_zero_le (show 0 ≤ c by omega)
    exact imageNews_good w (by omega) (by omega) (by omega) (by omega) (by omega) (by omega)
  · exact imageNews_bad w h
end Go.Proofs.Ytfakjcaolpmkeaa
