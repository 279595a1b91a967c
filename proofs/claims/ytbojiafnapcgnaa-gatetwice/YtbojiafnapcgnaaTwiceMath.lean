/-
  Marks that are set one after the other and cleared again: how many there are. Plain mathematics: no Go text is read here. No conditions.
-/
import Derived.Test.YtbojiafnapcgnaaMarks
namespace Go.Proofs.Ytbojiafnapcgnaa
open Go.RowKit

theorem cnt_congr (f h : Nat → Bool) (m : Nat) (e : ∀ j, j < m → f j = h j) : cnt f m = cnt h m := by
  induction m with
  | zero => rfl
  | succ m ih => simp only [cnt]; rw [ih (fun j hj => e j (by omega)), e m (by omega)]

theorem cnt_upd (f : Nat → Bool) (i : Nat) (x : Bool) (m : Nat) (h : i < m) : cnt (upd f i x) m + (if f i then 1 else 0) = cnt f m + (if x then 1 else 0) := by
  induction m with
  | zero => omega
  | succ m ih =>
    simp only [cnt]
    by_cases e : i = m
    · subst e
      have e1 : cnt (upd f i x) i = cnt f i := cnt_congr _ _ _ (fun j hj => by unfold upd; rw [if_neg (by omega)])
      have e2 : upd f i x i = x := by unfold upd; rw [if_pos rfl]
      rw [e1, e2]; omega
    · have e2 : upd f i x m = f m := by unfold upd; rw [if_neg (by omega)]
      rw [e2]
      have := ih (by omega)
      omega

theorem cnt_none (f : Nat → Bool) (m : Nat) (h : ∀ j, j < m → f j = false) : cnt f m = 0 := by
  induction m with
  | zero => rfl
  | succ m ih => simp only [cnt]; rw [ih (fun j hj => h j (by omega)), h m (by omega)]; rfl

/-- The marks behind the first k settings. -/
def seen (g : Nat → Int) : Nat → Nat → Bool
  | 0 => fun _ => false
  | k + 1 => upd (seen g k) (g k).toNat true
/-- Whether x is none of the first k. -/
def frst (g : Nat → Int) (x : Int) : Nat → Bool
  | 0 => true
  | k + 1 => frst g x k && (g k != x)
/-- The marks f behind k clearings. -/
def cleared (g : Nat → Int) (f : Nat → Bool) : Nat → Nat → Bool
  | 0 => f
  | k + 1 => upd (cleared g f k) (g k).toNat false

theorem seen_frst (g : Nat → Int) (k : Nat) (h : ∀ i, i < k → 0 ≤ g i) (x : Int) (hx : 0 ≤ x) : seen g k x.toNat = !frst g x k := by
  induction k with
  | zero => rfl
  | succ k ih =>
    have ih' := ih (fun i hi => h i (by omega))
    have h0 := h k (by omega)
    simp only [seen, frst, upd]
    by_cases e : g k = x
    · subst e; simp
    · have : x.toNat ≠ (g k).toNat := by omega
      rw [if_neg this, ih']
      have e2 : (g k != x) = true := by simpa using e
      rw [e2]; simp

theorem seen_mem (g : Nat → Int) (k j : Nat) (h : seen g k j = true) : ∃ i, i < k ∧ (g i).toNat = j := by
  induction k with
  | zero => simp [seen] at h
  | succ k ih =>
    simp only [seen, upd] at h
    by_cases e : j = (g k).toNat
    · exact ⟨k, by omega, e.symm⟩
    · rw [if_neg e] at h
      obtain ⟨i, hi, hj⟩ := ih h
      exact ⟨i, by omega, hj⟩

theorem cleared_out (g : Nat → Int) (f : Nat → Bool) (k i : Nat) (h : i < k) : cleared g f k (g i).toNat = false := by
  induction k with
  | zero => omega
  | succ k ih =>
    simp only [cleared, upd]
    by_cases e : (g i).toNat = (g k).toNat
    · rw [if_pos e]
    · rw [if_neg e]
      by_cases e2 : i = k
      · subst e2; exact absurd rfl e
      · exact ih (by omega)

theorem cleared_off (g : Nat → Int) (f : Nat → Bool) (k j : Nat) (h : f j = false) : cleared g f k j = false := by
  induction k with
  | zero => exact h
  | succ k ih => simp only [cleared, upd]; split <;> simp_all

theorem cleared_all (g : Nat → Int) (n j : Nat) : cleared g (seen g n) n j = false := by
  cases h : seen g n j with
  | false => exact cleared_off g _ n j h
  | true =>
    obtain ⟨i, hi, rfl⟩ := seen_mem g n j h
    exact cleared_out g _ n i hi

theorem cnt_end (g : Nat → Int) (n : Nat) : cnt (cleared g (seen g n) n) 256 = 0 := cnt_none _ _ (fun j _ => cleared_all g n j)

theorem set_in (f : Nat → Bool) (x : Int) (h0 : 0 ≤ x) (h1 : x ≤ 255) (b : Bool) : markSet f x b = upd f x.toNat b := by unfold markSet; rw [if_pos (by omega)]
theorem turns_in (f : Nat → Bool) (x : Int) (h0 : 0 ≤ x) (h1 : x ≤ 255) (b : Bool) : markTurns f x b = (f x.toNat != b) := by unfold markTurns; rw [decide_eq_true (by omega)]; rfl
end Go.Proofs.Ytbojiafnapcgnaa
