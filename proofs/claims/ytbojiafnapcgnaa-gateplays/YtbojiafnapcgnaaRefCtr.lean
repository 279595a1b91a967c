/-
  What the statements' own counter (penstockref01) does: New, Block, Raise. Conditions: its block holds its next number and its limit, the first at most the second.
-/
import Derived.Test.YtbojiafnapcgnaaCtr
namespace Go.Proofs.Ytbojiafnapcgnaa
open Go.RowKit

def refObj (x l : Int) : Obj := .cells #[.int .u64 x, .int .u64 l] 38
structure RefAt (w : World) (b : Nat) (x l : Int) : Prop where
  at_ : w.heap[b]? = some (refObj x l)
  hx : 0 ≤ x
  hl : x ≤ l
  hm : l ≤ 18446744073709551615

theorem RefAt.c0 {w : World} {b : Nat} {x l : Int} (h : RefAt w b x l) : w.cell? ⟨b, 0, none⟩ = some (.int .u64 x) := by rw [cell_of h.at_]; rfl
theorem RefAt.c1 {w : World} {b : Nat} {x l : Int} (h : RefAt w b x l) : w.cell? ⟨b, 1, none⟩ = some (.int .u64 l) := by rw [cell_of h.at_]; rfl
theorem RefAt.f0 {w : World} {b : Nat} {x l : Int} (h : RefAt w b x l) : w.frozen? ⟨b, 0, none⟩ = false := frozen_of h.at_ 0
theorem RefAt.set {w : World} {b : Nat} {x l : Int} (h : RefAt w b x l) (y : Int) (hy : 0 ≤ y) (hl : y ≤ l) : RefAt (w.setCell ⟨b, 0, none⟩ (.int .u64 y)) b y l :=
  ⟨by rw [heap_set h.at_]; rfl, hy, hl, h.hm⟩
theorem RefAt.keep {w w' : World} {b : Nat} {x l : Int} {S : Nat → Prop} (h : RefAt w b x l) (t : Touch S w w') (hs : ¬ S b) : RefAt w' b x l := ⟨t.keep h.at_ hs, h.hx, h.hl, h.hm⟩
theorem RefAt.drew {w : World} {b : Nat} {x l : Int} (h : RefAt w b x l) : RefAt w.drew b x l := ⟨h.at_, h.hx, h.hl, h.hm⟩

theorem refnew_any (f l : Int) (w : World) (h0 : 0 ≤ f) (h1 : 0 ≤ l) (hl : l ≤ 18446744073709551615) :
    Calls Try.prog 10 #[.int .u64 f, .int .u64 l] w fun e w' => e = .returned (.pointer (some ⟨w.heap.size, 0, none⟩)) ∧ RefAt w' w.heap.size (min f l) l ∧ Below w.heap.size w w' := by
  by_cases hd : l < f
  all_goals
    go_enter Try.func10, Try.ntmps10
    go_wp2
    go_ret
    refine ⟨rfl, ⟨?_, by omega, by omega, hl⟩, ?_⟩
    · rw [heap_new]
      exact congrArg some (by unfold refObj; first | rw [show min f l = l from by omega] | rw [show min f l = f from by omega])
    · exact (Below.refl _ _).alloc (Nat.le_refl _) _

theorem refblock_few (b : Nat) (x l n : Int) (w : World) (h0 : w.cell? ⟨b, 0, none⟩ = some (.int .u64 x)) (h1 : w.cell? ⟨b, 1, none⟩ = some (.int .u64 l))
    (hx : 0 ≤ x) (hl : x ≤ l) (hb : l ≤ 18446744073709551615) (hn : n < 1 ∨ (1 ≤ n ∧ l - x < n)) :
    Calls Try.prog 13 #[.pointer (some ⟨b, 0, none⟩), .int .u64 n] w fun e w' => e = .returned (.tuple #[.int .u64 0, .bool false]) ∧ w' = w.drew := by
  rcases hn with hn | ⟨hn, hf⟩
  all_goals
    go_enter Try.func13, Try.ntmps13
    go_wp2
    try go_region
    all_goals
      go_wp2
      go_ret2
      exact ⟨rfl, rfl⟩

theorem refblock_some (b : Nat) (x l n : Int) (w : World) (h0 : w.cell? ⟨b, 0, none⟩ = some (.int .u64 x)) (h1 : w.cell? ⟨b, 1, none⟩ = some (.int .u64 l)) (f0 : w.frozen? ⟨b, 0, none⟩ = false)
    (hx : 0 ≤ x) (hb : l ≤ 18446744073709551615) (hn : 1 ≤ n) (hf : n ≤ l - x) :
    Calls Try.prog 13 #[.pointer (some ⟨b, 0, none⟩), .int .u64 n] w fun e w' => e = .returned (.tuple #[.int .u64 x, .bool true]) ∧ w' = (w.setCell ⟨b, 0, none⟩ (.int .u64 (x + n))).drew := by
  go_enter Try.func13, Try.ntmps13
  go_wp2
  go_region
  all_goals
    go_wp2
    go_ret2
    exact ⟨rfl, rfl⟩

theorem refblock_any (b : Nat) (x l n : Int) (w : World) (h : RefAt w b x l) :
    Calls Try.prog 13 #[.pointer (some ⟨b, 0, none⟩), .int .u64 n] w fun e w' => e = .returned (.tuple #[.int .u64 (blk x l n).2.1, .bool (blk x l n).2.2]) ∧ RefAt w' b (blk x l n).1 l ∧ Touch (· = b) w w' := by
  have := h.hx
  by_cases h1 : 0 < n ∧ n ≤ l - x
  · refine (refblock_some b x l n w h.c0 h.c1 h.f0 h.hx h.hm (by omega) h1.2).mono ?_
    rintro e w' ⟨rfl, rfl⟩
    have e1 : blk x l n = (x + n, x, true) := by unfold blk; rw [if_pos h1]
    exact ⟨by rw [e1], by rw [e1]; exact (h.set _ (by omega) (by omega)).drew, (touch_set _ _ _ _).drew⟩
  · refine (refblock_few b x l n w h.c0 h.c1 h.hx h.hl h.hm (by omega)).mono ?_
    rintro e w' ⟨rfl, rfl⟩
    have e1 : blk x l n = (x, 0, false) := by unfold blk; rw [if_neg h1]
    exact ⟨by rw [e1], by rw [e1]; exact h.drew, (Touch.refl _ _).drew⟩

theorem refraise_low (b : Nat) (x l t : Int) (w : World) (h0 : w.cell? ⟨b, 0, none⟩ = some (.int .u64 x)) (h1 : w.cell? ⟨b, 1, none⟩ = some (.int .u64 l)) (ht : t ≤ x ∨ l ≤ x) :
    Calls Try.prog 16 #[.pointer (some ⟨b, 0, none⟩), .int .u64 t] w fun e w' => e = .returned (.tuple #[]) ∧ w' = w := by
  by_cases hd : l < t
  all_goals
    go_enter Try.func16, Try.ntmps16
    go_wp2
    go_end0
    exact ⟨rfl, rfl⟩

theorem refraise_up (b : Nat) (x l t : Int) (w : World) (h0 : w.cell? ⟨b, 0, none⟩ = some (.int .u64 x)) (h1 : w.cell? ⟨b, 1, none⟩ = some (.int .u64 l)) (f0 : w.frozen? ⟨b, 0, none⟩ = false) (ht : x < t) (hl : x < l) :
    Calls Try.prog 16 #[.pointer (some ⟨b, 0, none⟩), .int .u64 t] w fun e w' => e = .returned (.tuple #[]) ∧ w' = w.setCell ⟨b, 0, none⟩ (.int .u64 (if l < t then l else t)) := by
  by_cases hd : l < t
  all_goals
    go_enter Try.func16, Try.ntmps16
    go_wp2
    go_end0
    exact ⟨rfl, by simp⟩

theorem refraise_any (b : Nat) (x l t : Int) (w : World) (h : RefAt w b x l) :
    Calls Try.prog 16 #[.pointer (some ⟨b, 0, none⟩), .int .u64 t] w fun e w' => e = .returned (.tuple #[]) ∧ RefAt w' b (max x (min t l)) l ∧ Touch (· = b) w w' := by
  have hx := h.hx
  have hl := h.hl
  by_cases ht : t ≤ x ∨ l ≤ x
  · refine (refraise_low b x l t w h.c0 h.c1 ht).mono ?_
    rintro e w' ⟨rfl, rfl⟩
    have e1 : max x (min t l) = x := by omega
    exact ⟨rfl, by rw [e1]; exact h, Touch.refl _ _⟩
  · refine (refraise_up b x l t w h.c0 h.c1 h.f0 (by omega) (by omega)).mono ?_
    rintro e w' ⟨rfl, rfl⟩
    have e1 : (if l < t then l else t) = max x (min t l) := by split <;> omega
    rw [e1]
    exact ⟨rfl, h.set _ (by omega) (by omega), touch_set _ _ _ _⟩
end Go.Proofs.Ytbojiafnapcgnaa
