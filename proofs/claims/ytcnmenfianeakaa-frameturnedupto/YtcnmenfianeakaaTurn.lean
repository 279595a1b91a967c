/-
  A stretch of bits that is turned within a frame's payload, or its sum, shows: plain mathematics on lists. No conditions.
-/
import Derived.Test.YtcnmenfianeakaaSc0
namespace Go.Proofs.Ytcnmenfianeakaa
open Go.RowKit
set_option linter.unusedVariables false

/-- The bits of f are g's, but those of X from k on, as far as the first i of them, are turned. -/
def Turn (g f : Nat → Nat) (k X i len : Nat) : Prop := ∀ p, p < 8 * len → txt f p = (txt g p ^^ (decide (k ≤ p ∧ p < k + i) && X.testBit (p - k)))

theorem Turn.zero (g : Nat → Nat) (k X len : Nat) : Turn g g k X 0 len := fun p _ => by
  have : ¬ (k ≤ p ∧ p < k + 0) := by omega
  rw [decide_eq_false this]; simp

theorem Turn.miss {g f : Nat → Nat} {k X i len : Nat} (h : Turn g f k X i len) (hb : X.testBit i = false) : Turn g f k X (i + 1) len := fun p hp => by
  rw [h p hp]
  by_cases e : p = k + i
  · subst e
    have h1 : ¬ (k ≤ k + i ∧ k + i < k + i) := by omega
    have h2 : k ≤ k + i ∧ k + i < k + (i + 1) := by omega
    rw [decide_eq_false h1, decide_eq_true h2, Nat.add_sub_cancel_left, hb]; rfl
  · have : (k ≤ p ∧ p < k + i) = (k ≤ p ∧ p < k + (i + 1)) := by apply propext; omega
    simp only [this]

theorem Turn.hit {g f : Nat → Nat} {k X i len : Nat} (h : Turn g f k X i len) (hb : X.testBit i = true) : Turn g (upn f ((k + i) / 8) (f ((k + i) / 8) ^^^ 2 ^ ((k + i) % 8))) k X (i + 1) len := fun p hp => by
  have hq : txt (upn f ((k + i) / 8) (f ((k + i) / 8) ^^^ 2 ^ ((k + i) % 8))) p = (txt f p ^^ decide (p = k + i)) := by
    unfold txt upn
    by_cases e : p / 8 = (k + i) / 8
    · rw [if_pos e, Nat.testBit_xor, Nat.testBit_two_pow, e]
      congr 1
      rw [decide_eq_decide]
      omega
    · rw [if_neg e]
      have : ¬ p = k + i := fun h => e (by rw [h])
      rw [decide_eq_false this]; simp
  rw [hq, h p hp]
  by_cases e : p = k + i
  · subst e
    have h1 : ¬ (k ≤ k + i ∧ k + i < k + i) := by omega
    have h2 : k ≤ k + i ∧ k + i < k + (i + 1) := by omega
    rw [decide_eq_false h1, decide_eq_true h2, Nat.add_sub_cancel_left, hb, decide_eq_true rfl]; simp
  · have : (k ≤ p ∧ p < k + i) = (k ≤ p ∧ p < k + (i + 1)) := by apply propext; omega
    rw [decide_eq_false e]
    simp only [this, Bool.xor_false]

theorem Turn.sums {g f : Nat → Nat} {k X len : Nat} (h : Turn g f k X 32 len) (hX : X < 4294967296) (h0 : X ≠ 0) (hk : k + 32 ≤ 8 * len) : mor f 0 len ≠ mor g 0 len := by
  intro e
  unfold mor at e
  have e2 := cpl_inj (reg_lt _ (cpl_lt 0) _) (reg_lt _ (cpl_lt 0) _) e
  exact reg_burst (txt f) (txt g) (cpl 0) k (8 * len) X hX h0 hk (fun i hi => by rw [h i hi]; cases txt g i <;> simp) e2

theorem and_bit32 (x j : Nat) (hx : x < 4294967296) : bits .and .u32 ((x : Int) / 2 ^ j) 1 = (((x.testBit j).toNat : Nat) : Int) := by
  have e : ((x : Int) / 2 ^ j) = ((x / 2 ^ j : Nat) : Int) := by simp
  rw [e, and1 _ (by have : x / 2 ^ j ≤ x := Nat.div_le_self _ _
                    omega), shr_bit]

/-- A list's bytes. -/
def fn (l : List Nat) : Nat → Nat := fun i => l.getD i 0
theorem fn_set {l : List Nat} {q x : Nat} (h : q < l.length) : fn (l.set q x) = upn (fn l) q x := by
  funext i
  unfold fn upn
  by_cases e : i = q
  · subst e; rw [if_pos rfl]; simp [List.getD, h]
  · rw [if_neg e]; simp [List.getD, Ne.symm e]

theorem byte_eq {a b : Nat} (ha : a < 256) (hb : b < 256) (h : ∀ i, i < 8 → a.testBit i = b.testBit i) : a = b := by
  apply Nat.eq_of_testBit_eq
  intro i
  by_cases hi : i < 8
  · exact h i hi
  · have hp : 256 ≤ 2 ^ i := Nat.le_trans (by decide) (Nat.pow_le_pow_right (n := 2) (by omega) (show 8 ≤ i by omega))
    rw [Nat.testBit_lt_two_pow (by omega), Nat.testBit_lt_two_pow (by omega)]

section
variable {g f : Nat → Nat} {K X len : Nat}
theorem Turn.bit (h : Turn g f K X 32 len) {q i : Nat} (hq : q < len) (hi : i < 8) : (f q).testBit i = ((g q).testBit i ^^ (decide (K ≤ 8 * q + i ∧ 8 * q + i < K + 32) && X.testBit (8 * q + i - K))) := by
  have := h (8 * q + i) (by omega)
  unfold txt at this
  rw [show (8 * q + i) / 8 = q by omega, show (8 * q + i) % 8 = i by omega] at this
  exact this
theorem Turn.same (h : Turn g f K X 32 len) {q : Nat} (hq : q < len) (hf : f q < 256) (hg : g q < 256) (ho : 8 * q + 8 ≤ K ∨ K + 32 ≤ 8 * q) : f q = g q := by
  refine byte_eq hf hg (fun i hi => ?_)
  rw [h.bit hq hi]
  have : ¬ (K ≤ 8 * q + i ∧ 8 * q + i < K + 32) := by omega
  rw [decide_eq_false this]; simp
end

theorem unfix_inj {t u : List Nat} {p : Nat} (ht : ∀ i, i < 4 → fn t (p + i) < 256) (hu : ∀ i, i < 4 → fn u (p + i) < 256) (h : unfix t p = unfix u p) : ∀ i, i < 4 → fn t (p + i) = fn u (p + i) := by
  have a0 := ht 0 (by omega)
  have a1 := ht 1 (by omega)
  have a2 := ht 2 (by omega)
  have a3 := ht 3 (by omega)
  have b0 := hu 0 (by omega)
  have b1 := hu 1 (by omega)
  have b2 := hu 2 (by omega)
  have b3 := hu 3 (by omega)
  unfold fn at *
  unfold unfix at h
  rw [Nat.add_zero] at a0 b0
  intro i hi
  match i, hi with
  | 0, _ => rw [Nat.add_zero]; omega
  | 1, _ => omega
  | 2, _ => omega
  | 3, _ => omega
theorem unfix_same {t u : List Nat} {p : Nat} (h : ∀ i, i < 4 → fn t (p + i) = fn u (p + i)) : unfix t p = unfix u p := by
  have h0 := h 0 (by omega)
  have h1 := h 1 (by omega)
  have h2 := h 2 (by omega)
  have h3 := h 3 (by omega)
  unfold fn at *
  rw [Nat.add_zero] at h0
  unfold unfix
  rw [h0, h1, h2, h3]

theorem fn_drop (l : List Nat) (k i : Nat) : fn (l.drop k) i = fn l (k + i) := by unfold fn; simp [List.getD]
theorem fn_take {l : List Nat} {k i : Nat} (h : i < k) : fn (l.take k) i = fn l i := by unfold fn; exact getD_take h
theorem list_eq {a b : List Nat} (hl : a.length = b.length) (h : ∀ i, i < a.length → fn a i = fn b i) : a = b := by
  apply List.ext_getElem hl
  intro i h1 h2
  have := h i h1
  simpa [fn, List.getD, h1, h2] using this
theorem fn_lt {l : List Nat} (h : ∀ x ∈ l, x < 256) {i : Nat} (hi : i < l.length) : fn l i < 256 := by
  have : fn l i = l[i] := by simp [fn, List.getD, hi]
  rw [this]; exact h _ (List.getElem_mem hi)

theorem sm_fn (p : List Nat) : sm p = mor (fn p) 0 p.length := rfl

theorem frames_bytes {ls : List (List Nat)} (h : ∀ p ∈ ls, ∀ x ∈ p, x < 256) : ∀ x ∈ frames ls, x < 256 := by
  induction ls with
  | nil => intro x hx; cases hx
  | cons p r ih =>
    intro x hx
    rcases List.mem_append.1 hx with e | e
    · rcases List.mem_append.1 e with e | e
      · exact fix_bytes _ x e
      · rcases List.mem_append.1 e with e | e
        · exact fix_bytes _ x e
        · exact h p (List.mem_cons_self ..) x e
    · exact ih (fun q hq => h q (List.mem_cons_of_mem _ hq)) x e

/-- What is scanned where a stretch is turned. -/
theorem scan_turn {ls : List (List Nat)} (h4 : ∀ p ∈ ls, p.length ≤ 4096) {c : List Nat} (hcl : c.length = (frames ls).length) (hc : ∀ x ∈ c, x < 256) (hF : ∀ x ∈ frames ls, x < 256) {k K X bit : Nat} (hk : k < ls.length) (hX : X < 4294967296) (h0 : X ≠ 0)
    (hT : Turn (fn (frames ls)) (fn c) K X 32 (frames ls).length)
    (hK : K = 8 * ((frames (ls.take k)).length + 4) ∨ (K = 8 * ((frames (ls.take k)).length + 8) + bit ∧ bit + 32 ≤ 8 * (ls.getD k []).length)) :
    scan c = (ls.take k, (frames (ls.take k)).length, 8) := by
  have hpk := h4 _ (getD_mem_l hk)
  have e1 := take_frames ls k
  rw [drop_cons hk] at e1
  have hlen : (frames ls).length = (frames (ls.take k)).length + (8 + (ls.getD k []).length + (frames (ls.drop (k + 1))).length) := by
    conv => lhs; rw [e1]
    simp [frames, fenc_len]
  have hFR : (frames ls).drop (frames (ls.take k)).length = fenc (ls.getD k []) ++ frames (ls.drop (k + 1)) := by
    conv => lhs; rw [e1]
    rw [List.drop_left]; rfl
  have hFT : (frames ls).take (frames (ls.take k)).length = frames (ls.take k) := by
    conv => lhs; rw [e1]
    rw [List.take_left]
  have hU0 : unfix (frames ls) ((frames (ls.take k)).length + 0) = (ls.getD k []).length := by
    rw [← unfix_drop, hFR]
    unfold fenc
    rw [List.append_assoc]
    exact unfix_fix (by omega) _
  have hU4 : unfix (frames ls) ((frames (ls.take k)).length + 4) = sm (ls.getD k []) := by
    rw [← unfix_drop, hFR]
    unfold fenc
    rw [List.append_assoc, List.append_assoc]
    exact unfix_fix4 _ (sm_lt _) _
  have hPay : ((frames ls).drop ((frames (ls.take k)).length + 8)).take (ls.getD k []).length = ls.getD k [] := by
    rw [← List.drop_drop, hFR]
    have : fenc (ls.getD k []) ++ frames (ls.drop (k + 1)) = (fix (ls.getD k []).length ++ fix (sm (ls.getD k []))) ++ ((ls.getD k []) ++ frames (ls.drop (k + 1))) := by simp [fenc]
    rw [this, show (8 : Nat) = (fix (ls.getD k []).length ++ fix (sm (ls.getD k []))).length from rfl, List.drop_left, List.take_left]
  have ht : ∀ p ∈ ls.take k, p.length ≤ 4096 := fun p hp => h4 p (List.mem_of_mem_take hp)
  generalize hB : (frames (ls.take k)).length = B at *
  generalize hp : ls.getD k [] = p at *
  generalize hrest : (frames (ls.drop (k + 1))).length = R at *
  generalize frames ls = FR at *
  have hKB : 8 * (B + 4) ≤ K := by rcases hK with h | h <;> omega
  have hKE : K + 32 ≤ 8 * (B + 8 + p.length) := by rcases hK with h | h <;> omega
  have same : ∀ q, q < FR.length → (8 * q + 8 ≤ K ∨ K + 32 ≤ 8 * q) → fn c q = fn FR q := fun q hq ho => hT.same hq (fn_lt hc (by omega)) (fn_lt hF hq) ho
  have hct : c.take B = frames (ls.take k) := by
    rw [← hFT]
    apply list_eq
    · rw [List.length_take, List.length_take]; omega
    · intro i hi
      rw [List.length_take] at hi
      rw [fn_take (by omega), fn_take (by omega)]
      exact same i (by omega) (.inl (by omega))
  have hd : dec (c.drop B) = ([], 0, 8) := by
    have hu0 : unfix (c.drop B) 0 = p.length := by
      rw [unfix_drop, ← hU0]
      exact unfix_same (fun i hi => same _ (by omega) (.inl (by omega)))
    refine dec_crc hu0 hpk (by rw [List.length_drop]; omega) ?_
    rw [unfix_drop, List.drop_drop]
    rcases hK with hK | ⟨hK, hbit⟩
    · -- the sum
      have hpay : (c.drop (B + 8)).take p.length = p := by
        apply list_eq
        · simp only [List.length_take, List.length_drop]; omega
        · intro i hi
          simp only [List.length_take, List.length_drop] at hi
          have e : fn p i = fn FR (B + 8 + i) := by
            conv => lhs; rw [← hPay]
            rw [fn_take (by omega), fn_drop]
          rw [fn_take (by omega), fn_drop, e]
          exact same _ (by omega) (.inr (by omega))
      rw [hpay, ← hU4]
      intro e
      have hb := unfix_inj (t := FR) (u := c) (fun i hi => fn_lt hF (by omega)) (fun i hi => fn_lt hc (by omega)) e
      apply h0
      apply Nat.eq_of_testBit_eq
      intro i
      rw [Nat.zero_testBit]
      by_cases hi : i < 32
      · have h1 := hb (i / 8) (by omega)
        have h2 := hT.bit (q := B + 4 + i / 8) (i := i % 8) (by omega) (by omega)
        rw [h1] at h2
        have h3 : K ≤ 8 * (B + 4 + i / 8) + i % 8 ∧ 8 * (B + 4 + i / 8) + i % 8 < K + 32 := by omega
        rw [decide_eq_true h3, show 8 * (B + 4 + i / 8) + i % 8 - K = i by omega] at h2
        cases hx : X.testBit i
        · rfl
        · rw [hx] at h2
          cases hh : (fn c (B + 4 + i / 8)).testBit (i % 8) <;> rw [hh] at h2 <;> cases h2
      · have hp : 4294967296 ≤ 2 ^ i := Nat.le_trans (by decide) (Nat.pow_le_pow_right (n := 2) (by omega) (show 32 ≤ i by omega))
        exact Nat.testBit_lt_two_pow (by omega)
    · -- the payload
      have hs4 : unfix c (B + 4) = sm p := by
        rw [← hU4]
        exact unfix_same (fun i hi => same _ (by omega) (.inl (by omega)))
      rw [hs4, sm_fn, sm_fn]
      have hl : ((c.drop (B + 8)).take p.length).length = p.length := by simp only [List.length_take, List.length_drop]; omega
      rw [hl]
      refine Turn.sums (k := bit) (X := X) ?_ hX h0 hbit
      intro i hi
      have h1 := hT.bit (q := B + 8 + i / 8) (i := i % 8) (by omega) (by omega)
      unfold txt
      have e1 : fn ((c.drop (B + 8)).take p.length) (i / 8) = fn c (B + 8 + i / 8) := by rw [fn_take (by omega), fn_drop]
      have e2 : fn p (i / 8) = fn FR (B + 8 + i / 8) := by
        conv => lhs; rw [← hPay]
        rw [fn_take (by omega), fn_drop]
      rw [e1, e2, h1]
      have e3 : (K ≤ 8 * (B + 8 + i / 8) + i % 8 ∧ 8 * (B + 8 + i / 8) + i % 8 < K + 32) = (bit ≤ i ∧ i < bit + 32) := by apply propext; omega
      have e4 : 8 * (B + 8 + i / 8) + i % 8 - K = i - bit := by omega
      rw [e4]
      simp only [e3]
  have := scan_turned ht (c := c) (by rw [hB]; exact hct) (by rw [hB]; exact hd)
  rw [hB] at this
  exact this
end Go.Proofs.Ytcnmenfianeakaa
