/-
  The forms of layer 3 as plain functions on lists, and that what is laid is taken. No Go text is read here. No conditions.
-/
import Derived.Test.YtfbnkeflgddcmaaBase
namespace Go.Proofs.Ytfbnkeflgddcmaa
set_option linter.unusedVariables false

/-- A whole number's form. -/
def enc (n : Nat) : List Nat := if n < 128 then [n] else (n % 128 + 128) :: enc (n / 128)
termination_by n
decreasing_by omega

theorem enc_lt {n : Nat} (h : n < 128) : enc n = [n] := by rw [enc, if_pos h]
theorem enc_ge {n : Nat} (h : ¬ n < 128) : enc n = (n % 128 + 128) :: enc (n / 128) := by rw [enc, if_neg h]
theorem enc_pos (n : Nat) : 0 < (enc n).length := by
  by_cases h : n < 128
  · rw [enc_lt h]; simp
  · rw [enc_ge h]; simp
theorem enc_bytes (n : Nat) : ∀ x ∈ enc n, x < 256 := by
  induction n using Nat.strongRecOn with
  | _ n ih =>
    intro x hx
    by_cases h : n < 128
    · rw [enc_lt h] at hx; simp at hx; omega
    · rw [enc_ge h] at hx
      rcases List.mem_cons.1 hx with e | e
      · omega
      · exact ih (n / 128) (by omega) x e
theorem enc_len (k : Nat) : ∀ n, n < 128 ^ (k + 1) → (enc n).length ≤ k + 1 := by
  induction k with
  | zero => intro n h; rw [enc_lt (by simpa using h)]; simp
  | succ k ih =>
    intro n h
    by_cases hc : n < 128
    · rw [enc_lt hc]; simp
    · rw [enc_ge hc, List.length_cons]
      have := ih (n / 128) (by rw [Nat.pow_succ] at h; exact Nat.div_lt_of_lt_mul (by omega))
      omega
theorem enc_len10 {n : Nat} (h : n < 18446744073709551616) : (enc n).length ≤ 10 := enc_len 9 n (by omega)
theorem enc_few (n : Nat) : ∀ k, (enc n).length = k + 2 → 128 ^ (k + 1) ≤ n := by
  induction n using Nat.strongRecOn with
  | _ n ih =>
    intro k h
    by_cases hc : n < 128
    · rw [enc_lt hc] at h; simp at h
    · rw [enc_ge hc, List.length_cons] at h
      cases k with
      | zero => omega
      | succ k =>
        have := ih (n / 128) (by omega) k (by omega)
        rw [Nat.pow_succ]
        omega
theorem enc_mono (n : Nat) : ∀ m, n ≤ m → (enc n).length ≤ (enc m).length := by
  induction n using Nat.strongRecOn with
  | _ n ih =>
    intro m h
    by_cases hc : n < 128
    · rw [enc_lt hc]; have := enc_pos m; simp; omega
    · rw [enc_ge hc, enc_ge (show ¬ m < 128 by omega)]
      have := ih (n / 128) (by omega) (m / 128) (Nat.div_le_div_right h)
      simp; omega

/-- The whole number at the front: it, how many bytes it has, and the error's number. -/
def numA : List Nat → Nat → Nat → Nat × Nat × Nat
  | [], _, _ => (0, 0, 6)
  | x :: r, k, acc => if (k = 9 ∧ 1 < x) ∨ (0 < k ∧ x = 0) then (0, 0, 7) else if x < 128 then (acc + x * 128 ^ k, k + 1, 0) else numA r (k + 1) (acc + (x - 128) * 128 ^ k)

theorem numA_bad {x : Nat} (r : List Nat) {k : Nat} (acc : Nat) (h : (k = 9 ∧ 1 < x) ∨ (0 < k ∧ x = 0)) : numA (x :: r) k acc = (0, 0, 7) := by rw [numA, if_pos h]
theorem numA_last {x : Nat} (r : List Nat) {k : Nat} (acc : Nat) (h : ¬ ((k = 9 ∧ 1 < x) ∨ (0 < k ∧ x = 0))) (hx : x < 128) : numA (x :: r) k acc = (acc + x * 128 ^ k, k + 1, 0) := by rw [numA, if_neg h, if_pos hx]
theorem numA_more {x : Nat} (r : List Nat) {k : Nat} (acc : Nat) (h : ¬ ((k = 9 ∧ 1 < x) ∨ (0 < k ∧ x = 0))) (hx : ¬ x < 128) : numA (x :: r) k acc = numA r (k + 1) (acc + (x - 128) * 128 ^ k) := by rw [numA, if_neg h, if_neg hx]

theorem pow9 : (128 : Nat) ^ 9 = 9223372036854775808 := by decide

theorem numA_enc (n : Nat) : ∀ (k acc : Nat) (r : List Nat), n * 128 ^ k < 18446744073709551616 → (0 < k → 0 < n) → k ≤ 9 → numA (enc n ++ r) k acc = (acc + n * 128 ^ k, k + (enc n).length, 0) := by
  induction n using Nat.strongRecOn with
  | _ n ih =>
    intro k acc r h h0 hk
    have h9 : k = 9 → n ≤ 1 := by rintro rfl; rw [pow9] at h; omega
    by_cases hc : n < 128
    · rw [enc_lt hc, List.singleton_append, numA_last r acc (by omega) hc]; simp
    · rw [enc_ge hc, List.cons_append, numA_more _ _ (by omega) (by omega), ih (n / 128) (by omega) (k + 1) _ r ?_ (by omega) (by omega), List.length_cons]
      · have e : n % 128 * 128 ^ k + n / 128 * 128 ^ (k + 1) = n * 128 ^ k := by
          rw [Nat.pow_succ, Nat.mul_comm (128 ^ k) 128, ← Nat.mul_assoc, ← Nat.add_mul]
          congr 1; omega
        simp only [Nat.add_sub_cancel]
        refine Prod.ext ?_ (Prod.ext ?_ rfl)
        · show acc + n % 128 * 128 ^ k + n / 128 * 128 ^ (k + 1) = acc + n * 128 ^ k
          omega
        · show k + 1 + _ = k + (_ + 1)
          omega
      · rw [Nat.pow_succ, Nat.mul_comm (128 ^ k) 128, ← Nat.mul_assoc]
        refine Nat.lt_of_le_of_lt (Nat.mul_le_mul_right _ ?_) h
        omega

/-- What is said of a number that was taken: its bytes are there, and others behind don't matter. -/
theorem numA_ok (t : List Nat) : ∀ (k acc : Nat) (u : List Nat), k ≤ 9 → (numA t k acc).2.2 = 0 → numA (t ++ u) k acc = numA t k acc ∧ k < (numA t k acc).2.1 ∧ (numA t k acc).2.1 ≤ k + t.length ∧ (numA t k acc).2.1 ≤ 10 := by
  induction t with
  | nil => intro k acc u hk h; simp [numA] at h
  | cons x r ih =>
    intro k acc u hk h
    by_cases hb : (k = 9 ∧ 1 < x) ∨ (0 < k ∧ x = 0)
    · rw [numA_bad r acc hb] at h; simp at h
    · by_cases hx : x < 128
      · rw [List.cons_append, numA_last (r ++ u) acc hb hx, numA_last r acc hb hx]
        exact ⟨rfl, Nat.lt_succ_self _, by simp, by simp; omega⟩
      · have h9 : k ≠ 9 := by omega
        rw [numA_more r acc hb hx] at h ⊢
        rw [List.cons_append, numA_more (r ++ u) acc hb hx]
        obtain ⟨e1, e2, e3, e4⟩ := ih (k + 1) (acc + (x - 128) * 128 ^ k) u (by omega) h
        exact ⟨e1, by omega, by simp; omega, e4⟩

/-- A number is below 2^64, and its error is one of three. -/
theorem numA_fits (t : List Nat) : ∀ (k acc : Nat), k ≤ 9 → (∀ x ∈ t, x < 256) → acc < 128 ^ k → (numA t k acc).1 < 18446744073709551616 := by
  induction t with
  | nil => intro k acc hk _ _; simp [numA]
  | cons x r ih =>
    intro k acc hk hy ha
    by_cases hb : (k = 9 ∧ 1 < x) ∨ (0 < k ∧ x = 0)
    · rw [numA_bad r acc hb]; simp
    · by_cases hx : x < 128
      · rw [numA_last r acc hb hx]
        show acc + x * 128 ^ k < _
        by_cases h9 : k = 9
        · subst h9
          rw [pow9] at ha ⊢
          omega
        · have h1 : x * 128 ^ k ≤ 127 * 128 ^ k := Nat.mul_le_mul_right _ (by omega)
          have h2 : (128 : Nat) ^ (k + 1) ≤ 128 ^ 9 := Nat.pow_le_pow_right (by omega) (by omega)
          rw [Nat.pow_succ, pow9] at h2
          omega
      · have h9 : k ≠ 9 := by omega
        rw [numA_more r acc hb hx]
        refine ih _ _ (by omega) (fun y hy' => hy y (List.mem_cons_of_mem _ hy')) ?_
        have hxx := hy x (List.mem_cons_self ..)
        have h1 : (x - 128) * 128 ^ k ≤ 127 * 128 ^ k := Nat.mul_le_mul_right _ (by omega)
        rw [Nat.pow_succ]
        omega

theorem numA_err (t : List Nat) : ∀ (k acc : Nat), (numA t k acc).2.2 ≤ 7 := by
  induction t with
  | nil => intro k acc; simp [numA]
  | cons x r ih =>
    intro k acc
    rw [numA]
    split
    · simp
    · split
      · simp
      · exact ih _ _

/-- Numbers with a sign. -/
def zig (i : Int) : Nat := if 0 ≤ i then (2 * i).toNat else (-2 * i - 1).toNat
def zag (n : Nat) : Int := if n % 2 = 0 then ((n / 2 : Nat) : Int) else -((n / 2 : Nat) : Int) - 1
theorem zag_zig (i : Int) : zag (zig i) = i := by
  unfold zag zig
  by_cases h : 0 ≤ i
  · rw [if_pos h, if_pos (by omega)]; omega
  · rw [if_neg h, if_neg (by omega)]; omega
theorem zig_lt {i : Int} (h1 : -9223372036854775808 ≤ i) (h2 : i < 9223372036854775808) : zig i < 18446744073709551616 := by
  unfold zig; split <;> omega
theorem zig_pos {i : Int} (h : 0 ≤ i) : (zig i : Int) = 2 * i := by unfold zig; rw [if_pos h]; omega
theorem zig_neg {i : Int} (h : ¬ 0 ≤ i) : (zig i : Int) = -2 * i - 1 := by unfold zig; rw [if_neg h]; omega
theorem zag_even {n : Nat} (h : n % 2 = 0) : zag n = ((n / 2 : Nat) : Int) := by unfold zag; rw [if_pos h]
theorem zag_odd {n : Nat} (h : n % 2 = 1) : zag n = -((n / 2 : Nat) : Int) - 1 := by unfold zag; rw [if_neg (by omega)]
theorem zag_fits {n : Nat} (h : n < 18446744073709551616) : -9223372036854775808 ≤ zag n ∧ zag n < 9223372036854775808 := by
  unfold zag; split <;> omega

/-- Four bytes. -/
def fix (n : Nat) : List Nat := [n % 256, n / 256 % 256, n / 65536 % 256, n / 16777216 % 256]
def unfix (t : List Nat) (at_ : Nat) : Nat := t.getD at_ 0 + 256 * t.getD (at_ + 1) 0 + 65536 * t.getD (at_ + 2) 0 + 16777216 * t.getD (at_ + 3) 0

/-- A reader's state: the place, and the first error. -/
structure Rst where
  pl : Nat
  er : Nat

def rU (t : List Nat) (s : Rst) : Nat × Rst := if s.er = 0 then (if (numA (t.drop s.pl) 0 0).2.2 = 0 then ((numA (t.drop s.pl) 0 0).1, ⟨s.pl + (numA (t.drop s.pl) 0 0).2.1, 0⟩) else (0, ⟨s.pl, (numA (t.drop s.pl) 0 0).2.2⟩)) else (0, s)
def rI (t : List Nat) (s : Rst) : Int × Rst := (zag (rU t s).1, (rU t s).2)
def rF (t : List Nat) (s : Rst) : Bool × Rst := if 1 < (rU t s).1 then (false, ⟨(rU t s).2.pl, 7⟩) else ((rU t s).1 == 1, (rU t s).2)
def rX (t : List Nat) (s : Rst) : Nat × Rst := if s.er = 0 then (if s.pl + 4 ≤ t.length then (unfix t s.pl, ⟨s.pl + 4, 0⟩) else (0, ⟨s.pl, 6⟩)) else (0, s)
def rB (t : List Nat) (s : Rst) : List Nat × Rst :=
  if (rU t s).2.er = 0 then (if 4096 < (rU t s).1 then ([], ⟨(rU t s).2.pl, 2⟩) else if (rU t s).2.pl + (rU t s).1 ≤ t.length then ((t.drop (rU t s).2.pl).take (rU t s).1, ⟨(rU t s).2.pl + (rU t s).1, 0⟩) else ([], ⟨(rU t s).2.pl, 6⟩)) else ([], (rU t s).2)
def rNs (t : List Nat) : Nat → Rst → List Int → List Int × Rst
  | 0, s, l => (l, s)
  | k + 1, s, l => if (rI t s).2.er = 0 then rNs t k (rI t s).2 (l ++ [(rI t s).1]) else ([], (rI t s).2)
def rL (t : List Nat) (s : Rst) : List Int × Rst :=
  if (rU t s).2.er = 0 then (if 4096 < (rU t s).1 then ([], ⟨(rU t s).2.pl, 2⟩) else rNs t (rU t s).1 (rU t s).2 []) else ([], (rU t s).2)

/-- What a kind of call makes of the state. -/
def rK (t : List Nat) (k : Int) (s : Rst) : Rst := if k = 0 then (rU t s).2 else if k = 1 then (rI t s).2 else if k = 2 then (rF t s).2 else if k = 3 then (rX t s).2 else if k = 4 then (rB t s).2 else (rL t s).2

theorem rU_stop {t : List Nat} {s : Rst} (h : s.er ≠ 0) : rU t s = (0, s) := by unfold rU; rw [if_neg h]
theorem rU_err {t : List Nat} {s : Rst} (h : s.er = 0) (he : (numA (t.drop s.pl) 0 0).2.2 ≠ 0) : rU t s = (0, ⟨s.pl, (numA (t.drop s.pl) 0 0).2.2⟩) := by unfold rU; rw [if_pos h, if_neg he]
theorem rU_ok {t : List Nat} {s : Rst} (h : s.er = 0) (he : (numA (t.drop s.pl) 0 0).2.2 = 0) : rU t s = ((numA (t.drop s.pl) 0 0).1, ⟨s.pl + (numA (t.drop s.pl) 0 0).2.1, 0⟩) := by unfold rU; rw [if_pos h, if_pos he]
theorem rU_pl {t : List Nat} {s : Rst} (h : s.pl ≤ t.length) : (rU t s).2.pl ≤ t.length := by
  by_cases h0 : s.er = 0
  · by_cases he : (numA (t.drop s.pl) 0 0).2.2 = 0
    · rw [rU_ok h0 he]
      have := (numA_ok (t.drop s.pl) 0 0 [] (by omega) he).2.2.1
      rw [List.length_drop] at this
      show s.pl + _ ≤ _
      omega
    · rw [rU_err h0 he]; exact h
  · rw [rU_stop h0]; exact h
theorem rU_fits {t : List Nat} {s : Rst} (hb : ∀ x ∈ t, x < 256) : (rU t s).1 < 18446744073709551616 := by
  by_cases h0 : s.er = 0
  · by_cases he : (numA (t.drop s.pl) 0 0).2.2 = 0
    · rw [rU_ok h0 he]; exact numA_fits _ _ _ (by omega) (fun x hx => hb x (List.mem_of_mem_drop hx)) (by simp)
    · rw [rU_err h0 he]; simp
  · rw [rU_stop h0]; simp
theorem rU_er {t : List Nat} {s : Rst} (h : s.er ≤ 7) : (rU t s).2.er ≤ 7 := by
  by_cases h0 : s.er = 0
  · by_cases he : (numA (t.drop s.pl) 0 0).2.2 = 0
    · rw [rU_ok h0 he]; simp
    · rw [rU_err h0 he]; exact numA_err _ _ _
  · rw [rU_stop h0]; exact h
/-- Behind an error the number is 0. -/
theorem rU_zero {t : List Nat} {s : Rst} (h : (rU t s).2.er ≠ 0) : (rU t s).1 = 0 := by
  by_cases h0 : s.er = 0
  · by_cases he : (numA (t.drop s.pl) 0 0).2.2 = 0
    · rw [rU_ok h0 he] at h; simp at h
    · rw [rU_err h0 he]
  · rw [rU_stop h0]
theorem rI_pl {t : List Nat} {s : Rst} (h : s.pl ≤ t.length) : (rI t s).2.pl ≤ t.length := rU_pl h
theorem rI_er {t : List Nat} {s : Rst} (h : s.er ≤ 7) : (rI t s).2.er ≤ 7 := rU_er h
theorem rF_pl {t : List Nat} {s : Rst} (h : s.pl ≤ t.length) : (rF t s).2.pl ≤ t.length := by unfold rF; split <;> exact rU_pl h
theorem rF_er {t : List Nat} {s : Rst} (h : s.er ≤ 7) : (rF t s).2.er ≤ 7 := by
  unfold rF; split
  · simp
  · exact rU_er h
theorem rX_pl {t : List Nat} {s : Rst} (h : s.pl ≤ t.length) : (rX t s).2.pl ≤ t.length := by
  unfold rX; split
  · split
    · assumption
    · exact h
  · exact h
theorem rX_er {t : List Nat} {s : Rst} (h : s.er ≤ 7) : (rX t s).2.er ≤ 7 := by
  unfold rX; split
  · split <;> simp
  · exact h
theorem rB_pl {t : List Nat} {s : Rst} (h : s.pl ≤ t.length) : (rB t s).2.pl ≤ t.length := by
  unfold rB; split
  · split
    · exact rU_pl h
    · split
      · assumption
      · exact rU_pl h
  · exact rU_pl h
theorem rB_er {t : List Nat} {s : Rst} (h : s.er ≤ 7) : (rB t s).2.er ≤ 7 := by
  unfold rB; split
  · split
    · simp
    · split <;> simp
  · exact rU_er h
theorem rNs_pl {t : List Nat} (k : Nat) : ∀ {s : Rst} (l : List Int), s.pl ≤ t.length → (rNs t k s l).2.pl ≤ t.length := by
  induction k with
  | zero => intro s l h; exact h
  | succ k ih =>
    intro s l h
    rw [rNs]; split
    · exact ih _ (rI_pl h)
    · exact rI_pl h
theorem rNs_er {t : List Nat} (k : Nat) : ∀ {s : Rst} (l : List Int), s.er ≤ 7 → (rNs t k s l).2.er ≤ 7 := by
  induction k with
  | zero => intro s l h; exact h
  | succ k ih =>
    intro s l h
    rw [rNs]; split
    · exact ih _ (rI_er h)
    · exact rI_er h
theorem rL_pl {t : List Nat} {s : Rst} (h : s.pl ≤ t.length) : (rL t s).2.pl ≤ t.length := by
  unfold rL; split
  · split
    · exact rU_pl h
    · exact rNs_pl _ _ (rU_pl h)
  · exact rU_pl h
theorem rL_er {t : List Nat} {s : Rst} (h : s.er ≤ 7) : (rL t s).2.er ≤ 7 := by
  unfold rL; split
  · split
    · simp
    · exact rNs_er _ _ (rU_er h)
  · exact rU_er h
theorem rK_pl {t : List Nat} {s : Rst} (k : Int) (h : s.pl ≤ t.length) : (rK t k s).pl ≤ t.length := by
  unfold rK
  repeat' split
  · exact rU_pl h
  · exact rI_pl h
  · exact rF_pl h
  · exact rX_pl h
  · exact rB_pl h
  · exact rL_pl h
theorem rK_er {t : List Nat} {s : Rst} (k : Int) (h : s.er ≤ 7) : (rK t k s).er ≤ 7 := by
  unfold rK
  repeat' split
  · exact rU_er h
  · exact rI_er h
  · exact rF_er h
  · exact rX_er h
  · exact rB_er h
  · exact rL_er h
theorem rF_stop {t : List Nat} {s : Rst} (h : s.er ≠ 0) : rF t s = (false, s) := by unfold rF; rw [rU_stop h]; simp
theorem rX_stop {t : List Nat} {s : Rst} (h : s.er ≠ 0) : rX t s = (0, s) := by unfold rX; rw [if_neg h]
theorem rB_stop {t : List Nat} {s : Rst} (h : s.er ≠ 0) : rB t s = ([], s) := by unfold rB; rw [rU_stop h]; simp [h]
theorem rL_stop {t : List Nat} {s : Rst} (h : s.er ≠ 0) : rL t s = ([], s) := by unfold rL; rw [rU_stop h]; simp [h]
theorem rI_stop {t : List Nat} {s : Rst} (h : s.er ≠ 0) : rI t s = (0, s) := by unfold rI; rw [rU_stop h]; simp [zag]
theorem rK_stop {t : List Nat} {s : Rst} (k : Int) (h : s.er ≠ 0) : rK t k s = s := by
  unfold rK
  rw [rU_stop h, rI_stop h, rF_stop h, rX_stop h, rB_stop h, rL_stop h]
  simp

/-- Bytes behind don't matter to what was taken without an error. -/
theorem drop_front {t : List Nat} (u : List Nat) {k : Nat} (h : k ≤ t.length) : (t ++ u).drop k = t.drop k ++ u := by
  rw [List.drop_append_of_le_length h]
theorem rU_more {t : List Nat} {s : Rst} (u : List Nat) (hp : s.pl ≤ t.length) (he : (rU t s).2.er = 0) : rU (t ++ u) s = rU t s := by
  by_cases h0 : s.er = 0
  · by_cases hn : (numA (t.drop s.pl) 0 0).2.2 = 0
    · have := (numA_ok (t.drop s.pl) 0 0 u (by omega) hn).1
      rw [← drop_front u hp] at this
      rw [rU_ok h0 hn, rU_ok h0 (by rw [this]; exact hn), this]
    · rw [rU_err h0 hn] at he; exact absurd he hn
  · rw [rU_stop h0, rU_stop h0]
theorem rI_more {t : List Nat} {s : Rst} (u : List Nat) (hp : s.pl ≤ t.length) (he : (rI t s).2.er = 0) : rI (t ++ u) s = rI t s := by
  unfold rI; rw [rU_more u hp he]
theorem rNs_more {t : List Nat} (u : List Nat) (k : Nat) : ∀ {s : Rst} (l : List Int), s.pl ≤ t.length → (rNs t k s l).2.er = 0 → rNs (t ++ u) k s l = rNs t k s l := by
  induction k with
  | zero => intro s l _ _; rfl
  | succ k ih =>
    intro s l hp he
    rw [rNs] at he
    split at he
    · rename_i hz
      rw [rNs, rNs, rI_more u hp hz, if_pos hz, if_pos hz]
      exact ih _ (rI_pl hp) he
    · rename_i hz; exact absurd he hz
theorem rK_more {t : List Nat} {s : Rst} (u : List Nat) (k : Int) (hp : s.pl ≤ t.length) (he : (rK t k s).er = 0) : rK (t ++ u) k s = rK t k s := by
  unfold rK at he ⊢
  by_cases k0 : k = 0
  · simp only [if_pos k0] at he ⊢; rw [rU_more u hp he]
  · simp only [if_neg k0] at he ⊢
    by_cases k1 : k = 1
    · simp only [if_pos k1] at he ⊢; rw [rI_more u hp he]
    · simp only [if_neg k1] at he ⊢
      by_cases k2 : k = 2
      · simp only [if_pos k2] at he ⊢
        unfold rF at he ⊢
        by_cases hx : 1 < (rU t s).1
        · rw [if_pos hx] at he; simp at he
        · rw [if_neg hx] at he ⊢
          rw [rU_more u hp he, if_neg hx]
      · simp only [if_neg k2] at he ⊢
        by_cases k3 : k = 3
        · simp only [if_pos k3] at he ⊢
          unfold rX at he ⊢
          by_cases h0 : s.er = 0
          · rw [if_pos h0] at he ⊢
            by_cases h4 : s.pl + 4 ≤ t.length
            · rw [if_pos h0, if_pos h4, if_pos (by simp; omega)]
            · rw [if_neg h4] at he; simp at he
          · rw [if_neg h0] at he; exact absurd he h0
        · simp only [if_neg k3] at he ⊢
          by_cases k4 : k = 4
          · simp only [if_pos k4] at he ⊢
            unfold rB at he ⊢
            by_cases hz : (rU t s).2.er = 0
            · rw [rU_more u hp hz, if_pos hz] at *
              by_cases h1 : 4096 < (rU t s).1
              · rw [if_pos h1] at he; simp at he
              · rw [if_neg h1] at he ⊢
                by_cases h2 : (rU t s).2.pl + (rU t s).1 ≤ t.length
                · rw [if_pos hz, if_neg h1, if_pos h2, if_pos (by simp; omega)]
                · rw [if_neg h2] at he; simp at he
            · rw [if_neg hz] at he; exact absurd he hz
          · simp only [if_neg k4] at he ⊢
            unfold rL at he ⊢
            by_cases hz : (rU t s).2.er = 0
            · rw [rU_more u hp hz, if_pos hz] at *
              by_cases h1 : 4096 < (rU t s).1
              · rw [if_pos h1] at he; simp at he
              · rw [if_neg h1] at he ⊢
                rw [if_pos hz, if_neg h1, rNs_more u _ _ (rU_pl hp) he]
            · rw [if_neg hz] at he; exact absurd he hz

/-- What is laid in a call. -/
structure OpV where
  kind : Int
  n : Nat
  i : Int
  is : Bool
  bs : List Nat
  ls : List Int

def encL (l : List Int) : List Nat := l.flatMap (fun i => enc (zig i))
def encOp (o : OpV) : List Nat := if o.kind = 0 then enc o.n else if o.kind = 1 then enc (zig o.i) else if o.kind = 2 then [o.is.toNat] else if o.kind = 3 then fix (o.n % 4294967296) else if o.kind = 4 then enc o.bs.length ++ o.bs else enc o.ls.length ++ encL o.ls

structure OpV.Fits (o : OpV) : Prop where
  n : o.n < 18446744073709551616
  i1 : -9223372036854775808 ≤ o.i
  i2 : o.i < 9223372036854775808
  bs : ∀ x ∈ o.bs, x < 256
  ls : ∀ x ∈ o.ls, -9223372036854775808 ≤ x ∧ x < 9223372036854775808

theorem rU_enc {t u : List Nat} {n : Nat} {s : Rst} (h0 : s.er = 0) (hd : t.drop s.pl = enc n ++ u) (hn : n < 18446744073709551616) : rU t s = (n, ⟨s.pl + (enc n).length, 0⟩) := by
  have h := numA_enc n 0 0 u (by simpa using hn) (by omega) (by omega)
  rw [← hd] at h
  rw [rU_ok h0 (by rw [h]), h]
  simp
theorem rI_enc {t u : List Nat} {i : Int} {s : Rst} (h0 : s.er = 0) (hd : t.drop s.pl = enc (zig i) ++ u) (h1 : -9223372036854775808 ≤ i) (h2 : i < 9223372036854775808) : rI t s = (i, ⟨s.pl + (enc (zig i)).length, 0⟩) := by
  unfold rI
  rw [rU_enc h0 hd (zig_lt h1 h2), zag_zig]
theorem drop_next {t x u : List Nat} {k : Nat} (h : t.drop k = x ++ u) : t.drop (k + x.length) = u := by
  rw [← List.drop_drop, h]
  exact List.drop_left
theorem drop_len {t x : List Nat} {k : Nat} (h : t.drop k = x) (hx : 0 < x.length) : k + x.length = t.length := by
  have := congrArg List.length h
  rw [List.length_drop] at this
  omega
theorem rNs_enc {t u : List Nat} (l : List Int) : ∀ {s : Rst} (acc : List Int), s.er = 0 → t.drop s.pl = encL l ++ u → (∀ x ∈ l, -9223372036854775808 ≤ x ∧ x < 9223372036854775808) → rNs t l.length s acc = (acc ++ l, ⟨s.pl + (encL l).length, 0⟩) := by
  induction l with
  | nil => intro s acc h0 _ _; cases s; simp_all [rNs, encL]
  | cons i l ih =>
    intro s acc h0 hd hl
    have hi := hl i (List.mem_cons_self ..)
    have e : encL (i :: l) = enc (zig i) ++ encL l := by simp [encL]
    rw [e, List.append_assoc] at hd
    have hr := rI_enc h0 hd hi.1 hi.2
    rw [List.length_cons, rNs, hr, if_pos rfl, ih (acc ++ [i]) rfl (drop_next hd) (fun x hx => hl x (List.mem_cons_of_mem _ hx)), e]
    simp; omega
theorem rK_enc {t u : List Nat} {s : Rst} (o : OpV) (h0 : s.er = 0) (hd : t.drop s.pl = encOp o ++ u) (hf : o.Fits) (hb : o.bs.length ≤ 4096) (hl : o.ls.length ≤ 4096) : rK t o.kind s = ⟨s.pl + (encOp o).length, 0⟩ := by
  unfold encOp at hd ⊢
  unfold rK
  by_cases k0 : o.kind = 0
  · simp only [if_pos k0] at hd ⊢; rw [rU_enc h0 hd hf.n]
  · simp only [if_neg k0] at hd ⊢
    by_cases k1 : o.kind = 1
    · simp only [if_pos k1] at hd ⊢; rw [rI_enc h0 hd hf.i1 hf.i2]
    · simp only [if_neg k1] at hd ⊢
      by_cases k2 : o.kind = 2
      · simp only [if_pos k2] at hd ⊢
        have e : [o.is.toNat] = enc o.is.toNat := by rw [enc_lt (by cases o.is <;> simp)]
        rw [e] at hd ⊢
        unfold rF
        rw [rU_enc h0 hd (by cases o.is <;> simp), if_neg (by cases o.is <;> simp)]
      · simp only [if_neg k2] at hd ⊢
        by_cases k3 : o.kind = 3
        · simp only [if_pos k3] at hd ⊢
          have hlen : (fix (o.n % 4294967296)).length = 4 := rfl
          have hh := congrArg List.length hd
          rw [List.length_drop, List.length_append, hlen] at hh
          unfold rX
          rw [if_pos h0, if_pos (by omega), hlen]
        · simp only [if_neg k3] at hd ⊢
          by_cases k4 : o.kind = 4
          · simp only [if_pos k4] at hd ⊢
            rw [List.append_assoc] at hd
            have hr := rU_enc h0 hd (by omega)
            have hd2 := drop_next hd
            have hh := congrArg List.length hd2
            rw [List.length_drop, List.length_append] at hh
            unfold rB
            rw [hr, if_pos rfl, if_neg (by simp; omega)]
            by_cases hz : o.bs.length = 0
            · have : o.bs = [] := List.eq_nil_of_length_eq_zero hz
              rw [this]
              have hp := rU_pl (t := t) (s := s) (by
                have := congrArg List.length hd
                rw [List.length_drop, List.length_append] at this
                have := enc_pos o.bs.length
                omega)
              rw [hr] at hp
              rw [if_pos (by simp [this] at hp ⊢; omega)]
              simp
            · rw [if_pos (by show s.pl + (enc o.bs.length).length + o.bs.length ≤ t.length; omega), List.length_append, Nat.add_assoc]
          · simp only [if_neg k4] at hd ⊢
            rw [List.append_assoc] at hd
            have hr := rU_enc h0 hd (by omega)
            unfold rL
            rw [hr, if_pos rfl, if_neg (by simp; omega), rNs_enc o.ls [] rfl (drop_next hd) hf.ls, List.length_append, Nat.add_assoc]

theorem encL_len (l : List Int) (h : ∀ x ∈ l, -9223372036854775808 ≤ x ∧ x < 9223372036854775808) : (encL l).length ≤ 10 * l.length := by
  induction l with
  | nil => simp [encL]
  | cons i l ih =>
    have e : encL (i :: l) = enc (zig i) ++ encL l := by simp [encL]
    have hi := h i (List.mem_cons_self ..)
    have h1 := enc_len10 (zig_lt hi.1 hi.2)
    have h2 := ih (fun x hx => h x (List.mem_cons_of_mem _ hx))
    rw [e, List.length_append, List.length_cons]
    omega
theorem encOp_len (o : OpV) (hf : o.Fits) (hb : o.bs.length ≤ 1048576) (hl : o.ls.length ≤ 1048576) : (encOp o).length ≤ 10485770 := by
  unfold encOp
  have h1 := enc_len10 hf.n
  have h2 := enc_len10 (zig_lt hf.i1 hf.i2)
  have h3 := enc_len10 (n := o.bs.length) (by omega)
  have h4 := enc_len10 (n := o.ls.length) (by omega)
  have h5 := encL_len o.ls hf.ls
  repeat' split
  all_goals simp [fix]
  all_goals omega
theorem encL_bytes (l : List Int) : ∀ x ∈ encL l, x < 256 := by
  intro x hx
  obtain ⟨i, _, h⟩ := List.mem_flatMap.1 hx
  exact enc_bytes _ x h
theorem fix_bytes (n : Nat) : ∀ x ∈ fix n, x < 256 := by
  intro x hx; simp [fix] at hx; omega
theorem app_bytes {a b : List Nat} (ha : ∀ x ∈ a, x < 256) (hb : ∀ x ∈ b, x < 256) : ∀ x ∈ a ++ b, x < 256 := by
  intro x hx; rcases List.mem_append.1 hx with h | h
  · exact ha x h
  · exact hb x h
theorem encOp_bytes (o : OpV) (hf : o.Fits) : ∀ x ∈ encOp o, x < 256 := by
  unfold encOp
  repeat' split
  · exact enc_bytes _
  · exact enc_bytes _
  · intro x hx; simp at hx; cases h : o.is <;> simp [h] at hx <;> omega
  · exact fix_bytes _
  · exact app_bytes (enc_bytes _) hf.bs
  · exact app_bytes (enc_bytes _) (encL_bytes _)

/-- What the first j calls lay. -/
def laidUp (o : Nat → OpV) : Nat → List Nat
  | 0 => []
  | j + 1 => laidUp o j ++ encOp (o j)
/-- What the first j calls make of a reader's state. -/
def takenUp (t : List Nat) (k : Nat → Int) : Nat → Rst
  | 0 => ⟨0, 0⟩
  | j + 1 => rK t (k j) (takenUp t k j)
theorem laidUp_len (o : Nat → OpV) (j : Nat) (h : ∀ i, i < j → (encOp (o i)).length ≤ 10485770) : (laidUp o j).length ≤ j * 10485770 := by
  induction j with
  | zero => simp [laidUp]
  | succ j ih =>
    have h1 := ih (fun i hi => h i (by omega))
    have h2 := h j (by omega)
    rw [laidUp, List.length_append]
    omega
theorem takenUp_pl (t : List Nat) (k : Nat → Int) (j : Nat) : (takenUp t k j).pl ≤ t.length := by
  induction j with
  | zero => exact Nat.zero_le _
  | succ j ih => exact rK_pl _ ih
theorem takenUp_er (t : List Nat) (k : Nat → Int) (j : Nat) : (takenUp t k j).er ≤ 7 := by
  induction j with
  | zero => exact Nat.zero_le _
  | succ j ih => exact rK_er _ ih
/-- What was laid is taken. -/
theorem taken_laid (o : Nat → OpV) (u : List Nat) (n : Nat) (t : List Nat) (hf : ∀ i, i < n → (o i).Fits ∧ (o i).bs.length ≤ 4096 ∧ (o i).ls.length ≤ 4096) (ht : t = laidUp o n ++ u) : takenUp t (fun i => (o i).kind) n = ⟨(laidUp o n).length, 0⟩ := by
  have key : ∀ (m j : Nat), m + j = n → ∃ v, laidUp o n = laidUp o j ++ v ∧ (0 < m → ∃ v', v = encOp (o j) ++ v') := by
    intro m
    induction m with
    | zero => intro j hj; obtain rfl : j = n := by omega
              exact ⟨[], by simp, by omega⟩
    | succ m ih =>
      intro j hj
      obtain ⟨v, h1, _⟩ := ih (j + 1) (by omega)
      exact ⟨encOp (o j) ++ v, by rw [h1, laidUp, List.append_assoc], fun _ => ⟨v, rfl⟩⟩
  have step : ∀ j, j ≤ n → takenUp t (fun i => (o i).kind) j = ⟨(laidUp o j).length, 0⟩ := by
    intro j
    induction j with
    | zero => intro _; rfl
    | succ j ih =>
      intro hj
      obtain ⟨v, h1, h2⟩ := key (n - j) j (by omega)
      obtain ⟨v', rfl⟩ := h2 (by omega)
      have hd : t.drop (laidUp o j).length = encOp (o j) ++ (v' ++ u) := by
        rw [ht, h1, List.append_assoc, List.drop_left, List.append_assoc]
      rw [takenUp, ih (by omega), rK_enc (o j) rfl hd (hf j hj).1 (hf j hj).2.1 (hf j hj).2.2, laidUp, List.length_append]
  exact step n (Nat.le_refl _)
/-- A beginning does not suffice. -/
theorem taken_cut (o : Nat → OpV) (n k : Nat) (hf : ∀ i, i < n → (o i).Fits ∧ (o i).bs.length ≤ 4096 ∧ (o i).ls.length ≤ 4096) (hk : k < (laidUp o n).length) : (takenUp ((laidUp o n).take k) (fun i => (o i).kind) n).er ≠ 0 := by
  intro he
  have hlen : ((laidUp o n).take k).length = k := by rw [List.length_take]; omega
  have step : ∀ j, j ≤ n → (takenUp ((laidUp o n).take k) (fun i => (o i).kind) j).er = 0 → takenUp (laidUp o n) (fun i => (o i).kind) j = takenUp ((laidUp o n).take k) (fun i => (o i).kind) j := by
    intro j
    induction j with
    | zero => intro _ _; rfl
    | succ j ih =>
      intro hj h0
      have hz : (takenUp ((laidUp o n).take k) (fun i => (o i).kind) j).er = 0 := by
        by_cases hc : (takenUp ((laidUp o n).take k) (fun i => (o i).kind) j).er = 0
        · exact hc
        · rw [takenUp, rK_stop _ hc] at h0; exact h0
      rw [takenUp, takenUp, ih (by omega) hz]
      have := rK_more ((laidUp o n).drop k) ((o j).kind) (takenUp_pl ((laidUp o n).take k) (fun i => (o i).kind) j) h0
      rw [List.take_append_drop] at this
      exact this
  have h1 := step n (Nat.le_refl _) he
  have h2 := taken_laid o [] n (laidUp o n) hf (by simp)
  have h3 := takenUp_pl ((laidUp o n).take k) (fun i => (o i).kind) n
  rw [← h1, h2, hlen] at h3
  exact absurd h3 (by simpa using hk)
end Go.Proofs.Ytfbnkeflgddcmaa
