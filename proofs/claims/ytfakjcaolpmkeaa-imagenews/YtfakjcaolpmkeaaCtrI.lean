/-
  What each method of gate.Counter does in the run of one goroutine: Block, Left, New. Conditions: the counter's block holds its next number and its limit, the first at most the second.
-/
import Derived.Test.YtfakjcaolpmkeaaProg
import Derived.Test.YtfakjcaolpmkeaaBase
import Derived.WalkKit
import Derived.Laws.LoneSync
import Derived.Laws.Pointers
import Derived.WalkLawsBesides
namespace Go.Proofs.Ytfakjcaolpmkeaa
open Go.RowKit

theorem load_any (b off : Nat) (x : Int) (w : World) (h0 : w.cell? ⟨b, off, none⟩ = some (.int .u64 x)) :
    Calls Try.prog 44 #[.pointer (some ⟨b, off, none⟩)] w fun e w' => e = .returned (.int .u64 x) ∧ w' = w := by
  have hl := run_call_load (P := Try.prog) Try.func60 (by kernel_rfl) (by kernel_rfl) (by kernel_rfl) .u64 (by kernel_rfl) h0
  go_enter Try.func44, Try.ntmps44
  go_wp2
  go_ret
  exact ⟨rfl, rfl⟩

theorem cas_any (b off : Nat) (x y : Int) (w : World) (h0 : w.cell? ⟨b, off, none⟩ = some (.int .u64 x)) (f0 : w.frozen? ⟨b, off, none⟩ = false) :
    Calls Try.prog 59 #[.pointer (some ⟨b, off, none⟩), .int .u64 x, .int .u64 y] w fun e w' => e = .returned (.bool true) ∧ w' = w.setCell ⟨b, off, none⟩ (.int .u64 y) := by
  have hl := run_call_cas_hit (P := Try.prog) Try.func67 (by kernel_rfl) (by kernel_rfl) (by kernel_rfl) .u64 (by kernel_rfl) (y := y) h0 f0
  go_enter Try.func59, Try.ntmps59
  go_wp2
  go_ret
  exact ⟨rfl, rfl⟩

theorem store_any (b off : Nat) (x y : Int) (w : World) (h0 : w.cell? ⟨b, off, none⟩ = some (.int .u64 x)) (f0 : w.frozen? ⟨b, off, none⟩ = false) :
    Calls Try.prog 16 #[.pointer (some ⟨b, off, none⟩), .int .u64 y] w fun e w' => e = .returned (.tuple #[]) ∧ w' = w.setCell ⟨b, off, none⟩ (.int .u64 y) := by
  have hl := run_call_store (P := Try.prog) Try.func29 (by kernel_rfl) (by kernel_rfl) (by kernel_rfl) (by kernel_rfl) (k := .u64) (y := y) h0 f0
  go_enter Try.func16, Try.ntmps16
  go_wp2
  go_end0
  exact ⟨rfl, rfl⟩

theorem block_nil (n : Int) (w : World) :
    Calls Try.prog 43 #[.pointer none, .int .u64 n] w fun e w' => e = .returned (.tuple #[.int .u64 0, .bool false]) ∧ w' = w := by
  go_enter Try.func43, Try.ntmps43
  go_wp2
  go_ret2
  exact ⟨rfl, rfl⟩

theorem block_zero (b off : Nat) (w : World) :
    Calls Try.prog 43 #[.pointer (some ⟨b, off, none⟩), .int .u64 0] w fun e w' => e = .returned (.tuple #[.int .u64 0, .bool false]) ∧ w' = w := by
  go_enter Try.func43, Try.ntmps43
  go_wp2
  go_ret2
  exact ⟨rfl, rfl⟩

theorem block_few (b off : Nat) (x l n : Int) (w : World) (h0 : w.cell? ⟨b, off, none⟩ = some (.int .u64 x)) (h1 : w.cell? ⟨b, off + 1, none⟩ = some (.int .u64 l))
    (hx : 0 ≤ x) (hl : x ≤ l) (hb : l ≤ 18446744073709551615) (hn : 0 < n) (hf : l - x < n) :
    Calls Try.prog 43 #[.pointer (some ⟨b, off, none⟩), .int .u64 n] w fun e w' => e = .returned (.tuple #[.int .u64 0, .bool false]) ∧ w' = w := by
  have hne : (n == 0) = false := by simp; omega
  go_enter Try.func43, Try.ntmps43
  go_wp2
  refine wp_loop_rounds 1 ?_
  rw [rounds_succ]
  go_wp2_with (go_at_call 44; refine (load_any _ _ _ _ h0).mono ?_; rintro e w' ⟨rfl, rfl⟩)
  go_ret2
  exact ⟨rfl, rfl⟩

theorem block_some (b off : Nat) (x l n : Int) (w : World) (h0 : w.cell? ⟨b, off, none⟩ = some (.int .u64 x)) (h1 : w.cell? ⟨b, off + 1, none⟩ = some (.int .u64 l)) (f0 : w.frozen? ⟨b, off, none⟩ = false)
    (hx : 0 ≤ x) (hb : l ≤ 18446744073709551615) (hn : 0 < n) (hf : n ≤ l - x) :
    Calls Try.prog 43 #[.pointer (some ⟨b, off, none⟩), .int .u64 n] w fun e w' => e = .returned (.tuple #[.int .u64 x, .bool true]) ∧ w' = w.setCell ⟨b, off, none⟩ (.int .u64 (x + n)) := by
  have hne : (n == 0) = false := by simp; omega
  go_enter Try.func43, Try.ntmps43
  go_wp2
  refine wp_loop_rounds 1 ?_
  rw [rounds_succ]
  go_wp2_with (first | (go_at_call 44; refine (load_any _ _ _ _ h0).mono ?_; rintro e w' ⟨rfl, rfl⟩) | (go_at_call 59; refine (cas_any _ _ _ _ _ h0 f0).mono ?_; rintro e w' ⟨rfl, rfl⟩))
  go_ret2
  exact ⟨rfl, rfl⟩

/-- What a counter's block holds: its next number and its limit. -/
def ctrObj (x l : Int) : Obj := .cells #[.int .u64 x, .int .u64 l] 65
structure CtrAt (w : World) (b : Nat) (x l : Int) : Prop where
  at_ : w.heap[b]? = some (ctrObj x l)
  hx : 0 ≤ x
  hl : x ≤ l
  hm : l ≤ 18446744073709551615

theorem CtrAt.c0 {w : World} {b : Nat} {x l : Int} (h : CtrAt w b x l) : w.cell? ⟨b, 0, none⟩ = some (.int .u64 x) := by rw [cell_of h.at_]; rfl
theorem CtrAt.c1 {w : World} {b : Nat} {x l : Int} (h : CtrAt w b x l) : w.cell? ⟨b, 0 + 1, none⟩ = some (.int .u64 l) := by rw [cell_of h.at_]; rfl
theorem CtrAt.f0 {w : World} {b : Nat} {x l : Int} (h : CtrAt w b x l) : w.frozen? ⟨b, 0, none⟩ = false := frozen_of h.at_ 0
theorem CtrAt.set {w : World} {b : Nat} {x l : Int} (h : CtrAt w b x l) (y : Int) (hy : 0 ≤ y) (hl : y ≤ l) : CtrAt (w.setCell ⟨b, 0, none⟩ (.int .u64 y)) b y l :=
  ⟨by rw [heap_set h.at_]; rfl, hy, hl, h.hm⟩
theorem CtrAt.keep {w w' : World} {b : Nat} {x l : Int} {S : Nat → Prop} (h : CtrAt w b x l) (t : Touch S w w') (hs : ¬ S b) : CtrAt w' b x l := ⟨t.keep h.at_ hs, h.hx, h.hl, h.hm⟩
theorem CtrAt.drew {w : World} {b : Nat} {x l : Int} (h : CtrAt w b x l) : CtrAt w.drew b x l := ⟨h.at_, h.hx, h.hl, h.hm⟩

/-- What Block answers: the next number behind it, the first number given out, and whether. -/
def blk (x l n : Int) : Int × Int × Bool := if 0 < n ∧ n ≤ l - x then (x + n, x, true) else (x, 0, false)

theorem block_any (b : Nat) (x l n : Int) (w : World) (h : CtrAt w b x l) (hn : 0 ≤ n) :
    Calls Try.prog 43 #[.pointer (some ⟨b, 0, none⟩), .int .u64 n] w fun e w' => e = .returned (.tuple #[.int .u64 (blk x l n).2.1, .bool (blk x l n).2.2]) ∧ CtrAt w' b (blk x l n).1 l ∧ Touch (· = b) w w' := by
  by_cases h0 : n = 0
  · subst h0
    refine (block_zero b 0 w).mono ?_
    rintro e w' ⟨rfl, rfl⟩
    exact ⟨by simp [blk], by simpa [blk] using h, Touch.refl _ _⟩
  · by_cases h1 : n ≤ l - x
    · refine (block_some b 0 x l n w h.c0 h.c1 h.f0 h.hx h.hm (by omega) h1).mono ?_
      rintro e w' ⟨rfl, rfl⟩
      have e1 : blk x l n = (x + n, x, true) := by unfold blk; rw [if_pos ⟨by omega, h1⟩]
      have := h.hx
      exact ⟨by rw [e1], by rw [e1]; exact h.set _ (by omega) (by omega), touch_set _ _ _ _⟩
    · refine (block_few b 0 x l n w h.c0 h.c1 h.hx h.hl h.hm (by omega) (by omega)).mono ?_
      rintro e w' ⟨rfl, rfl⟩
      have e1 : blk x l n = (x, 0, false) := by unfold blk; rw [if_neg (by omega)]
      exact ⟨by rw [e1], by rw [e1]; exact h, Touch.refl _ _⟩

theorem left_nil (w : World) :
    Calls Try.prog 26 #[.pointer none] w fun e w' => e = .returned (.tuple #[.int .u64 0, .int .u64 0]) ∧ w' = w := by
  go_enter Try.func26, Try.ntmps26
  go_wp2
  go_ret2
  exact ⟨rfl, rfl⟩

theorem left_any (b : Nat) (x l : Int) (w : World) (h : CtrAt w b x l) :
    Calls Try.prog 26 #[.pointer (some ⟨b, 0, none⟩)] w fun e w' => e = .returned (.tuple #[.int .u64 x, .int .u64 (l - x)]) ∧ w' = w.drew := by
  have c0 := h.c0
  have c1 := h.c1
  have hx := h.hx
  have hl := h.hl
  have hm := h.hm
  clear h
  go_enter Try.func26, Try.ntmps26
  go_wp2_with (go_at_call 44; refine (load_any _ _ _ _ c0).mono ?_; rintro e w' ⟨rfl, rfl⟩)
  go_region
  all_goals
    go_wp2
    go_ret2
    exact ⟨rfl, rfl⟩

theorem new_any (f l : Int) (w : World) (h0 : 0 ≤ f) (h1 : 0 ≤ l) (hl : l ≤ 18446744073709551615) :
    Calls Try.prog 8 #[.int .u64 f, .int .u64 l] w fun e w' => e = .returned (.pointer (some ⟨w.heap.size, 0, none⟩)) ∧ CtrAt w' w.heap.size (min f l) l ∧ Below w.heap.size w w' := by
  by_cases hd : l < f
  all_goals
    go_enter Try.func8, Try.ntmps8
    go_wp2_with (go_at_call 16; refine (store_any _ _ 0 _ _ (by simp) (by simp)).mono ?_; rintro e w' ⟨rfl, rfl⟩)
    go_ret
    refine ⟨rfl, ⟨?_, by omega, by omega, hl⟩, ?_⟩
    · rw [heap_new]
      exact congrArg some (by unfold ctrObj; first | rw [show min f l = l from by omega] | rw [show min f l = f from by omega])
    · exact (Below.refl _ _).alloc (Nat.le_refl _) _
end Go.Proofs.Ytfakjcaolpmkeaa
