/-
  What the statements' own marks (penstockref01) do: Turn, Has, Count. Conditions: the block holds 256 marks.
-/
import Derived.Test.YtbojiafnapcgnaaMarks
namespace Go.Proofs.Ytbojiafnapcgnaa
open Go.RowKit

set_option maxRecDepth 100000 in
set_option maxHeartbeats 400000 in
theorem refturn_any (b : Nat) (i : Int) (x : Bool) (f : Nat → Bool) (w : World) (m : MarksAt w b 0 68 none f) :
    Calls Try.prog 22 #[.pointer (some ⟨b, 0, none⟩), .int .i64 i, .bool x] w fun e w' =>
      e = .returned (.bool (markTurns f i x)) ∧ MarksAt w' b 0 68 none (markSet f i x) ∧ Touch (· = b) w w' := by
  by_cases hi : 0 ≤ i ∧ i < 256
  · obtain ⟨n, rfl⟩ := Int.eq_ofNat_of_zero_le hi.1
    have e1 : markSet f n x = upd f n x := by unfold markSet; rw [if_pos hi]; rfl
    have e2 : markTurns f n x = (f n != x) := by unfold markTurns; rw [decide_eq_true hi]; rfl
    rw [e1, e2]
    have hn : n < 256 := by omega
    have hn' : (n : Int) < 256 := by omega
    have c : w.cell? ⟨b, n, none⟩ = some (.bool (f n)) := by have := m.cell hn; rwa [Nat.zero_add] at this
    have z := m.frozen n
    have m1 := m.setMark (by simp) hn x
    rw [Nat.zero_add] at m1
    have M1 := hide m1
    clear m m1 e1 e2 hi
    go_enter Try.func22, Try.ntmps22
    go_wp2
    go_ret
    exact ⟨rfl, unhide M1, touch_set _ _ _ _⟩
  · have e1 : markSet f i x = f := by unfold markSet; rw [if_neg hi]
    have e2 : markTurns f i x = false := by unfold markTurns; rw [decide_eq_false hi]; rfl
    rw [e1, e2]
    clear e1 e2
    have M := hide m
    clear m
    by_cases h0 : i < 0
    · clear hi
      go_enter Try.func22, Try.ntmps22
      go_wp2
      go_ret
      exact ⟨rfl, unhide M, Touch.refl _ _⟩
    · have h1 : 255 < i := by omega
      clear hi
      go_enter Try.func22, Try.ntmps22
      go_wp2
      go_ret
      exact ⟨rfl, unhide M, Touch.refl _ _⟩

set_option maxRecDepth 100000 in
set_option maxHeartbeats 400000 in
theorem refhas_any (b : Nat) (i : Int) (f : Nat → Bool) (w : World) (m : MarksAt w b 0 68 none f) :
    Calls Try.prog 24 #[.pointer (some ⟨b, 0, none⟩), .int .i64 i] w fun e w' => e = .returned (.bool (markHas f i)) ∧ w' = w := by
  by_cases hi : 0 ≤ i ∧ i < 256
  · obtain ⟨n, rfl⟩ := Int.eq_ofNat_of_zero_le hi.1
    have e2 : markHas f n = f n := by unfold markHas; rw [decide_eq_true hi]; rfl
    rw [e2]
    have hn : n < 256 := by omega
    have hn' : (n : Int) < 256 := by omega
    have c : w.cell? ⟨b, n, none⟩ = some (.bool (f n)) := by have := m.cell hn; rwa [Nat.zero_add] at this
    clear m e2 hi
    go_enter Try.func24, Try.ntmps24
    go_wp2
    go_ret
    exact ⟨rfl, rfl⟩
  · have e2 : markHas f i = false := by unfold markHas; rw [decide_eq_false hi]; rfl
    rw [e2]
    clear e2 m
    by_cases h0 : i < 0
    · clear hi
      go_enter Try.func24, Try.ntmps24
      go_wp2
      go_ret
      exact ⟨rfl, rfl⟩
    · have h1 : 256 ≤ i := by omega
      clear hi
      go_enter Try.func24, Try.ntmps24
      go_wp2
      go_ret
      exact ⟨rfl, rfl⟩

set_option maxRecDepth 100000 in
set_option maxHeartbeats 800000 in
theorem refcount_any (b : Nat) (f : Nat → Bool) (w : World) (m : MarksAt w b 0 68 none f) :
    Calls Try.prog 26 #[.pointer (some ⟨b, 0, none⟩)] w fun e w' => e = .returned (.int .i64 (cnt f 256)) ∧ w' = w := by
  have M1 := hide m
  clear m
  go_enter Try.func26, Try.ntmps26
  go_wp2_with fail
  go_loop [3, 4] (fun c i => ∃ k : Nat, k ≤ 256 ∧ i = .int .i64 k ∧ c = .int .i64 (cnt f k)) (fun _ i => 256 - (intOf i).toNat)
  case atStart => exact ⟨0, Nat.zero_le _, rfl, rfl⟩
  case round =>
    obtain ⟨k, hk, rfl, rfl⟩ := hrel
    have hle := cnt_le f k
    by_cases hlt : k < 256
    · have c1 := (unhide M1).cell hlt
      rw [Nat.zero_add] at c1
      have hs : Hid (cnt f (k + 1) = cnt f k + if f k then 1 else 0) := rfl
      cases hfk : f k
      all_goals
        rw [hfk] at c1 hs
        have HF := hide hfk
        clear hfk
        go_wp2
        go_round
        case rel => exact ⟨k + 1, by omega, by go_num, by rw [unhide hs]; simp⟩
        case measure => simp [intOf]; omega
    · have e : k = 256 := by omega
      subst e
      go_wp2
      go_ret
      exact ⟨rfl, rfl⟩
end Go.Proofs.Ytbojiafnapcgnaa
