/-
  The statements' own helpers of layer 3: 'awake' answers true; 'take' answers true, and both readers go on alike. Conditions: the bytes are at most 2^47.
-/
import Derived.Test.YtnhociggoagpoaaRd4
namespace Go.Proofs.Ytnhociggoagpoaa
open Go.RowKit
set_option linter.unusedVariables false

theorem WrV.at {w : World} {b : Nat} {v : Value} {l : List Nat} {long : Bool} (h : WrV w (.pointer (some ⟨b, 0, none⟩)) v l long) : WrAt w b v l long := by
  rcases h with ⟨h, _⟩ | ⟨b', h, h'⟩
  · cases h
  · cases h; exact h'
theorem step_below {B : Nat} {pv v v' : Value} {w0 w w' : World} (h : Below B w0 w) (hB : B ≤ w.heap.size) (st : Step pv w v w' v') (hm : ∀ k, Mine pv v k → B ≤ k) : Below B w0 w' := below_touch h st.touch hB hm
theorem mine_new {B b : Nat} {v : Value} {w : World} (hb : B ≤ b) (hv : ∀ k, v.ownBlock = some k → B ≤ k) (_ : w = w) : ∀ k, Mine (.pointer (some ⟨b, 0, none⟩)) v k → B ≤ k := by
  rintro k (e | e)
  · cases e; exact hb
  · exact hv k e
theorem below_drewN' {B : Nat} {w0 w : World} (h : Below B w0 w) (n : Nat) : Below B w0 (w.drewN n) := h.trans ⟨rfl, rfl, rfl, Nat.le_refl _, fun _ _ => rfl⟩
theorem rU_300 : rU [172, 2] ⟨0, 0⟩ = (300, ⟨2, 0⟩) := by simp [rU, numA]
theorem rE_300 : rE [172, 2] ⟨2, 0⟩ = 0 := by simp [rE]
theorem enc_300 : enc 300 = [172, 2] := by rw [enc_ge (by omega), enc_lt (by omega)]

set_option maxRecDepth 100000 in
set_option maxHeartbeats 1000000 in
theorem awake3_any (w : World) :
    Calls Try.prog 10 #[] w fun e w' => e = .returned (.bool true) ∧ Below w.heap.size w w' := by
  go_enter Try.func10, Try.ntmps10
  go_wp2_with fail
  refine (newwriter_any w).mono ?_
  rintro e w1 ⟨rfl, h1, b1⟩
  have K := hide (wuint_any (.pointer (some ⟨w.heap.size, 0, none⟩)) (.slice none 0 0) [] false 300 w1 (.inr ⟨_, rfl, h1⟩) (by omega) (by simp))
  have B1 := hide b1
  clear h1 b1
  go_wp2_with fail
  refine (unhide K).mono ?_
  rintro e w2 ⟨rfl, v2, h2, s2⟩
  have B2 := hide (step_below (unhide B1) (unhide B1).size s2 (mine_new (Nat.le_refl _) (fun k hk => by simp [Value.ownBlock] at hk) (w := w1) rfl))
  rw [enc_300] at h2
  have K2 := hide (out_any w.heap.size v2 [172, 2] w2 h2.at (by simp))
  clear h2 s2 K B1
  go_wp2_with fail
  refine (unhide K2).mono ?_
  rintro e w3 ⟨vo, rfl, r3, n3, b3⟩
  have B3 := hide ((unhide B2).trans (b3.mono (unhide B2).size))
  obtain ⟨ao, co, rfl, l3, _, _, hn3, _, _⟩ := r3.parts
  have K3 := hide (newreader_any w3 ao co [172, 2] l3 hn3 (by simp))
  have L3 := hide l3
  clear n3 b3 K2 r3 l3
  go_wp2_with fail
  refine (unhide K3).mono ?_
  rintro e w4 ⟨b4, a4, c4, rfl, h4, bl4, hb4, _⟩
  have L4 := (unhide L3).later bl4
  obtain ⟨cb, off, rfl, _, q0, _⟩ := L4.cell (i := 0) (by simp)
  obtain ⟨cb', off', e', _, q1, _⟩ := L4.cell (i := 1) (by simp)
  cases e'
  rw [Nat.add_zero] at q0
  have q0' : w4.cell? ⟨cb, off, none⟩ = some (.int .u8 172) := q0
  have q1' : w4.cell? ⟨cb, off + 1, none⟩ = some (.int .u8 2) := q1
  have K4 := ruint_any w4 h4
  rw [rU_300] at K4
  have KK := hide K4
  have hw4 := h4.lt
  have B4 := hide ((unhide B3).trans (bl4.mono (unhide B3).size))
  have hwb : w.heap.size ≤ b4 := Nat.le_trans (unhide B3).size hb4
  clear K4 K3 L3 L4 q0 q1 bl4 h4
  go_wp2_with fail
  refine (unhide KK).mono ?_
  rintro e w5 ⟨rfl, h5, t5⟩
  have K5 := end_any w5 h5
  rw [rE_300] at K5
  have KE := hide K5
  have B5 := hide (below_touch (unhide B4) t5 (unhide B4).size (fun k hk => by omega))
  clear K5 h5 t5 KK
  go_wp2_with fail
  refine (unhide KE).mono ?_
  rintro e w6 ⟨rfl, n, rfl⟩
  go_wp2
  go_returns
  exact ⟨rfl, below_drewN' (unhide B5) n⟩
end Go.Proofs.Ytnhociggoagpoaa
