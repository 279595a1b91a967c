/-
  Batches as plain functions on lists: what is wrong with one, its form, what is read off bytes; there and back, cuts, bytes behind. No Go text is read here. No conditions.
-/
import Derived.Test.YtblmondkdcpkaaaZ04

namespace Go.Proofs.Ytblmondkdcpkaaa
set_option linter.unusedVariables false

/-- A batch. -/
structure Bt where
  base : Int
  epoch : Int
  pid : Nat
  pep : Int
  seq : Int
  txn : Bool
  ctl : Bool
  com : Bool
  vs : List (List Nat)
def I64 (i : Int) : Prop := -9223372036854775808 ≤ i ∧ i < 9223372036854775808
structure Bt.Fits (b : Bt) : Prop where
  base : I64 b.base
  epoch : I64 b.epoch
  pid : b.pid < 18446744073709551616
  pep : I64 b.pep
  seq : I64 b.seq

def outB (b : Bt) : Prop := b.base < 0 ∨ b.epoch < 0 ∨ b.pep < 0 ∨ b.seq < 0 ∨ 1000 < b.pep ∨ 1000 < b.pid
def prodB (b : Bt) : Prop := b.pid = 0 ∧ (b.txn = true ∨ b.pep ≠ 0 ∨ b.seq ≠ 0)
def kindB (b : Bt) : Prop := (b.ctl = true ∧ (0 < b.vs.length ∨ b.txn = false ∨ b.pid = 0 ∨ b.seq ≠ 0)) ∨ (b.ctl = false ∧ (b.vs.length = 0 ∨ b.com = true))
def longB (vs : List (List Nat)) : Prop := 16 < vs.length ∨ ∃ v ∈ vs, 64 < v.length
instance (b : Bt) : Decidable (outB b) := by unfold outB; infer_instance
instance (b : Bt) : Decidable (prodB b) := by unfold prodB; infer_instance
instance (b : Bt) : Decidable (kindB b) := by unfold kindB; infer_instance
instance (vs : List (List Nat)) : Decidable (longB vs) := by unfold longB; infer_instance
/-- What is wrong first. -/
def chk (b : Bt) : Nat := if outB b then 1 else if prodB b ∨ kindB b then 7 else if longB b.vs then 2 else 0
theorem chk_le (b : Bt) : chk b ≤ 7 := by
  unfold chk
  split
  · omega
  · split
    · omega
    · split <;> omega
theorem chk_out {b : Bt} (h : outB b) : chk b = 1 := by unfold chk; rw [if_pos h]
theorem chk_form {b : Bt} (h : ¬ outB b) (k : prodB b ∨ kindB b) : chk b = 7 := by unfold chk; rw [if_neg h, if_pos k]
theorem chk_long {b : Bt} (h : ¬ outB b) (k : ¬ (prodB b ∨ kindB b)) (l : longB b.vs) : chk b = 2 := by unfold chk; rw [if_neg h, if_neg k, if_pos l]
theorem chk_ok {b : Bt} (h : ¬ outB b) (k : ¬ (prodB b ∨ kindB b)) (l : ¬ longB b.vs) : chk b = 0 := by unfold chk; rw [if_neg h, if_neg k, if_neg l]
theorem chk_zero {b : Bt} (h : chk b = 0) : b.vs.length ≤ 16 ∧ ∀ v ∈ b.vs, v.length ≤ 64 := by
  unfold chk at h
  split at h
  · omega
  · split at h
    · omega
    · split at h
      · omega
      · rename_i hl
        unfold longB at hl
        refine ⟨by omega, fun v hv => ?_⟩
        have : ¬ 64 < v.length := fun h => hl (.inr ⟨v, hv, h⟩)
        omega

/-- The form. -/
def encVs (vs : List (List Nat)) : List Nat := vs.flatMap (fun v => enc v.length ++ v)
def encB (b : Bt) : List Nat := enc (zig b.base) ++ (enc (zig b.epoch) ++ (enc b.pid ++ (enc (zig b.pep) ++ (enc (zig b.seq) ++ (enc b.txn.toNat ++ (enc b.ctl.toNat ++ (enc b.com.toNat ++ (enc b.vs.length ++ encVs b.vs))))))))
theorem encVs_cons (v : List Nat) (vs : List (List Nat)) : encVs (v :: vs) = (enc v.length ++ v) ++ encVs vs := by simp [encVs]
theorem encVs_take {vs : List (List Nat)} {k : Nat} (h : k < vs.length) : encVs (vs.take (k + 1)) = encVs (vs.take k) ++ (enc (vs.getD k []).length ++ vs.getD k []) := by
  have e : vs.take (k + 1) = vs.take k ++ [vs.getD k []] := by
    rw [List.take_add_one]
    simp [List.getD, h]
  rw [e]; simp [encVs]
theorem drop_at_v {vs : List (List Nat)} {k : Nat} (h : k < vs.length) : vs.drop k = vs.getD k [] :: vs.drop (k + 1) := by
  rw [List.drop_eq_getElem_cons h]
  simp [List.getD, h]
theorem encVs_len (vs : List (List Nat)) (h : ∀ v ∈ vs, v.length ≤ 64) : (encVs vs).length ≤ 74 * vs.length := by
  induction vs with
  | nil => simp [encVs]
  | cons v vs ih =>
    have h1 := h v (List.mem_cons_self ..)
    have h2 := ih (fun x hx => h x (List.mem_cons_of_mem _ hx))
    have h3 := enc_len10 (n := v.length) (by omega)
    rw [encVs_cons, List.length_append, List.length_append, List.length_cons]
    omega
theorem bool_lt (q : Bool) : q.toNat < 18446744073709551616 := by cases q <;> simp
theorem encB_len {b : Bt} (hf : b.Fits) (h : chk b = 0) : (encB b).length ≤ 2000 := by
  obtain ⟨h1, h2⟩ := chk_zero h
  have e1 := enc_len10 (zig_lt hf.base.1 hf.base.2)
  have e2 := enc_len10 (zig_lt hf.epoch.1 hf.epoch.2)
  have e3 := enc_len10 hf.pid
  have e4 := enc_len10 (zig_lt hf.pep.1 hf.pep.2)
  have e5 := enc_len10 (zig_lt hf.seq.1 hf.seq.2)
  have e6 := enc_len10 (bool_lt b.txn)
  have e7 := enc_len10 (bool_lt b.ctl)
  have e8 := enc_len10 (bool_lt b.com)
  have e9 := enc_len10 (n := b.vs.length) (by omega)
  have e10 := encVs_len b.vs h2
  unfold encB
  simp only [List.length_append]
  omega
theorem encB_pos (b : Bt) : 0 < (encB b).length := by
  have := enc_pos (zig b.base)
  unfold encB
  rw [List.length_append]; omega

/-- What is read. -/
def rVs (t : List Nat) (s : Rst) : Nat → List (List Nat) × Rst
  | 0 => ([], s)
  | k + 1 => ((rVs t s k).1 ++ [(rB t (rVs t s k).2).1], (rB t (rVs t s k).2).2)
def h1 (t : List Nat) := rI t ⟨0, 0⟩
def h2 (t : List Nat) := rI t (h1 t).2
def h3 (t : List Nat) := rU t (h2 t).2
def h4 (t : List Nat) := rI t (h3 t).2
def h5 (t : List Nat) := rI t (h4 t).2
def h6 (t : List Nat) := rF t (h5 t).2
def h7 (t : List Nat) := rF t (h6 t).2
def h8 (t : List Nat) := rF t (h7 t).2
def h9 (t : List Nat) := rU t (h8 t).2
def h10 (t : List Nat) := rVs t (h9 t).2 (h9 t).1
theorem h1_eq (t : List Nat) : h1 t = rI t ⟨0, 0⟩ := rfl
theorem h2_eq (t : List Nat) : h2 t = rI t (h1 t).2 := rfl
theorem h3_eq (t : List Nat) : h3 t = rU t (h2 t).2 := rfl
theorem h4_eq (t : List Nat) : h4 t = rI t (h3 t).2 := rfl
theorem h5_eq (t : List Nat) : h5 t = rI t (h4 t).2 := rfl
theorem h6_eq (t : List Nat) : h6 t = rF t (h5 t).2 := rfl
theorem h7_eq (t : List Nat) : h7 t = rF t (h6 t).2 := rfl
theorem h8_eq (t : List Nat) : h8 t = rF t (h7 t).2 := rfl
theorem h9_eq (t : List Nat) : h9 t = rU t (h8 t).2 := rfl
theorem h10_eq (t : List Nat) : h10 t = rVs t (h9 t).2 (h9 t).1 := rfl
def rawB (t : List Nat) : Bt := ⟨(h1 t).1, (h2 t).1, (h3 t).1, (h4 t).1, (h5 t).1, (h6 t).1, (h7 t).1, (h8 t).1, (h10 t).1⟩
def zeroB : Bt := ⟨0, 0, 0, 0, 0, false, false, false, []⟩
def decE (t : List Nat) : Nat := if 16 < (h9 t).1 then 2 else if rE t (h10 t).2 ≠ 0 then rE t (h10 t).2 else chk (rawB t)
def decB (t : List Nat) : Bt := if decE t = 0 then rawB t else zeroB
theorem decE_many {t : List Nat} (h : 16 < (h9 t).1) : decE t = 2 := by unfold decE; rw [if_pos h]
theorem decE_end {t : List Nat} (h : ¬ 16 < (h9 t).1) (k : rE t (h10 t).2 ≠ 0) : decE t = rE t (h10 t).2 := by unfold decE; rw [if_neg h, if_pos k]
theorem decE_chk {t : List Nat} (h : ¬ 16 < (h9 t).1) (k : rE t (h10 t).2 = 0) : decE t = chk (rawB t) := by unfold decE; rw [if_neg h, if_neg (by omega)]
theorem decB_no {t : List Nat} (h : decE t ≠ 0) : decB t = zeroB := by unfold decB; rw [if_neg h]
theorem decB_ok {t : List Nat} (h : decE t = 0) : decB t = rawB t := by unfold decB; rw [if_pos h]
theorem rVs_len (t : List Nat) (s : Rst) (k : Nat) : (rVs t s k).1.length = k := by
  induction k with
  | zero => rfl
  | succ k ih => simp [rVs, ih]
theorem rVs_stop {t : List Nat} {s : Rst} {j : Nat} (h : (rVs t s j).2.er ≠ 0) : ∀ i, (rVs t s (j + i)).2 = (rVs t s j).2 := by
  intro i
  induction i with
  | zero => rfl
  | succ i ih => rw [← Nat.add_assoc, rVs, ih, rB_stop h]
theorem rVs_zero (t : List Nat) (s : Rst) : (rVs t s 0).2 = s := rfl
theorem rVs_err {t : List Nat} {s : Rst} (h : s.er ≠ 0) (k : Nat) : (rVs t s k).2 = s := by
  induction k with
  | zero => rfl
  | succ k ih => rw [rVs, ih, rB_stop h]
theorem rVs_pl {t : List Nat} {s : Rst} (h : s.pl ≤ t.length) (k : Nat) : (rVs t s k).2.pl ≤ t.length := by
  induction k with
  | zero => exact h
  | succ k ih => exact rB_pl ih

/-- A reader without an error, ahead of u. -/
structure Ahead (t : List Nat) (s : Rst) (u : List Nat) : Prop where
  er : s.er = 0
  pl : s.pl ≤ t.length
  rest : t.drop s.pl = u
theorem Ahead.start (t : List Nat) : Ahead t ⟨0, 0⟩ t := ⟨rfl, Nat.zero_le _, rfl⟩
theorem Ahead.step {t x u : List Nat} {s : Rst} (h : Ahead t s (x ++ u)) : Ahead t ⟨s.pl + x.length, 0⟩ u := by
  refine ⟨rfl, ?_, drop_next h.rest⟩
  have := congrArg List.length h.rest
  rw [List.length_drop, List.length_append] at this
  have := h.pl
  show s.pl + x.length ≤ t.length
  omega
theorem Ahead.U {t u : List Nat} {s : Rst} {n : Nat} (h : Ahead t s (enc n ++ u)) (hn : n < 18446744073709551616) : (rU t s).1 = n ∧ Ahead t (rU t s).2 u := by
  rw [rU_enc h.er h.rest hn]; exact ⟨rfl, h.step⟩
theorem Ahead.I {t u : List Nat} {s : Rst} {i : Int} (h : Ahead t s (enc (zig i) ++ u)) (hi : I64 i) : (rI t s).1 = i ∧ Ahead t (rI t s).2 u := by
  rw [rI_enc h.er h.rest hi.1 hi.2]; exact ⟨rfl, h.step⟩
theorem Ahead.F {t u : List Nat} {s : Rst} {q : Bool} (h : Ahead t s (enc q.toNat ++ u)) : (rF t s).1 = q ∧ Ahead t (rF t s).2 u := by
  obtain ⟨e1, e2⟩ := h.U (bool_lt q)
  unfold rF
  rw [if_neg (by rw [e1]; cases q <;> simp)]
  refine ⟨?_, e2⟩
  show ((rU t s).1 == 1) = q
  rw [e1]; cases q <;> rfl
theorem Ahead.B {t u v : List Nat} {s : Rst} (h : Ahead t s ((enc v.length ++ v) ++ u)) (hv : v.length ≤ 4096) : (rB t s).1 = v ∧ Ahead t (rB t s).2 u := by
  rw [List.append_assoc] at h
  obtain ⟨e1, e2⟩ := h.U (by omega)
  have e3 := e2.step
  unfold rB
  rw [if_pos e2.er, if_neg (by rw [e1]; omega), e1, if_pos e3.pl]
  exact ⟨by show (t.drop _).take _ = v; rw [e2.rest, List.take_left], e3⟩
theorem Ahead.Vs {t u : List Nat} {s : Rst} (vs : List (List Nat)) (h : Ahead t s (encVs vs ++ u)) (hv : ∀ v ∈ vs, v.length ≤ 4096) : ∀ k, k ≤ vs.length → (rVs t s k).1 = vs.take k ∧ Ahead t (rVs t s k).2 (encVs (vs.drop k) ++ u) := by
  intro k
  induction k with
  | zero => intro _; exact ⟨by simp [rVs], by simpa [rVs] using h⟩
  | succ k ih =>
    intro hk
    obtain ⟨e1, e2⟩ := ih (by omega)
    rw [drop_at_v (by omega), encVs_cons, List.append_assoc] at e2
    obtain ⟨f1, f2⟩ := e2.B (hv _ (by simp [List.getD, show k < vs.length by omega]))
    refine ⟨?_, f2⟩
    show (rVs t s k).1 ++ [(rB t (rVs t s k).2).1] = _
    rw [e1, f1, List.take_add_one]
    simp [List.getD, show k < vs.length by omega]

/-- What is written is read, with whatever stands behind. -/
theorem read_back {b : Bt} (hf : b.Fits) (hc : chk b = 0) (u : List Nat) : rawB (encB b ++ u) = b ∧ (h9 (encB b ++ u)).1 = b.vs.length ∧ Ahead (encB b ++ u) (h10 (encB b ++ u)).2 u := by
  obtain ⟨hv1, hv2⟩ := chk_zero hc
  have a0 := Ahead.start (encB b ++ u)
  generalize ht : encB b ++ u = t at *
  have e : t = enc (zig b.base) ++ (enc (zig b.epoch) ++ (enc b.pid ++ (enc (zig b.pep) ++ (enc (zig b.seq) ++ (enc b.txn.toNat ++ (enc b.ctl.toNat ++ (enc b.com.toNat ++ (enc b.vs.length ++ (encVs b.vs ++ u))))))))) := by
    rw [← ht]; unfold encB; simp only [List.append_assoc]
  have a0' : Ahead t ⟨0, 0⟩ (enc (zig b.base) ++ (enc (zig b.epoch) ++ (enc b.pid ++ (enc (zig b.pep) ++ (enc (zig b.seq) ++ (enc b.txn.toNat ++ (enc b.ctl.toNat ++ (enc b.com.toNat ++ (enc b.vs.length ++ (encVs b.vs ++ u)))))))))) := by
    rw [← e]; exact a0
  obtain ⟨e1, a1⟩ : (h1 t).1 = b.base ∧ Ahead t (h1 t).2 _ := by rw [h1_eq]; exact a0'.I hf.base
  obtain ⟨e2, a2⟩ : (h2 t).1 = b.epoch ∧ Ahead t (h2 t).2 _ := by rw [h2_eq]; exact a1.I hf.epoch
  obtain ⟨e3, a3⟩ : (h3 t).1 = b.pid ∧ Ahead t (h3 t).2 _ := by rw [h3_eq]; exact a2.U hf.pid
  obtain ⟨e4, a4⟩ : (h4 t).1 = b.pep ∧ Ahead t (h4 t).2 _ := by rw [h4_eq]; exact a3.I hf.pep
  obtain ⟨e5, a5⟩ : (h5 t).1 = b.seq ∧ Ahead t (h5 t).2 _ := by rw [h5_eq]; exact a4.I hf.seq
  obtain ⟨e6, a6⟩ : (h6 t).1 = b.txn ∧ Ahead t (h6 t).2 _ := by rw [h6_eq]; exact a5.F
  obtain ⟨e7, a7⟩ : (h7 t).1 = b.ctl ∧ Ahead t (h7 t).2 _ := by rw [h7_eq]; exact a6.F
  obtain ⟨e8, a8⟩ : (h8 t).1 = b.com ∧ Ahead t (h8 t).2 _ := by rw [h8_eq]; exact a7.F
  obtain ⟨e9, a9⟩ : (h9 t).1 = b.vs.length ∧ Ahead t (h9 t).2 _ := by rw [h9_eq]; exact a8.U (by omega)
  obtain ⟨e10, a10⟩ := a9.Vs b.vs (fun v hv => by have := hv2 v hv; omega) b.vs.length (Nat.le_refl _)
  have f9 : (h9 t).1 = b.vs.length := e9
  have f10 : h10 t = rVs t (h9 t).2 b.vs.length := by unfold h10; rw [f9]
  refine ⟨?_, f9, ?_⟩
  · have g1 : (h1 t).1 = b.base := e1
    have g2 : (h2 t).1 = b.epoch := e2
    have g3 : (h3 t).1 = b.pid := e3
    have g4 : (h4 t).1 = b.pep := e4
    have g5 : (h5 t).1 = b.seq := e5
    have g6 : (h6 t).1 = b.txn := e6
    have g7 : (h7 t).1 = b.ctl := e7
    have g8 : (h8 t).1 = b.com := e8
    have g10 : (h10 t).1 = b.vs := by rw [f10]; exact e10.trans (List.take_length ..)
    unfold rawB
    rw [g1, g2, g3, g4, g5, g6, g7, g8, g10]
  · rw [f10]
    have := a10
    rw [List.drop_length] at this
    exact this
theorem there {b : Bt} (hf : b.Fits) (hc : chk b = 0) : decE (encB b) = 0 ∧ decB (encB b) = b := by
  obtain ⟨e1, e2, e3⟩ := read_back hf hc []
  rw [List.append_nil] at e1 e2 e3
  have hE : rE (encB b) (h10 (encB b)).2 = 0 := by
    have := congrArg List.length e3.rest
    rw [List.length_drop] at this
    simp at this
    unfold rE
    rw [if_neg (by have := e3.pl; omega)]
    exact e3.er
  have hv := (chk_zero hc).1
  have h0 : decE (encB b) = 0 := by rw [decE_chk (by rw [e2]; omega) hE, e1]; exact hc
  exact ⟨h0, by rw [decB_ok h0, e1]⟩
theorem behind {b : Bt} (hf : b.Fits) (hc : chk b = 0) {u : List Nat} (hu : 0 < u.length) : decE (encB b ++ u) = 6 := by
  obtain ⟨e1, e2, e3⟩ := read_back hf hc u
  have hE : rE (encB b ++ u) (h10 (encB b ++ u)).2 = 6 := by
    have := congrArg List.length e3.rest
    rw [List.length_drop] at this
    unfold rE
    rw [if_pos ⟨e3.er, by omega⟩]
  have hv := (chk_zero hc).1
  rw [decE_end (by rw [e2]; omega) (by omega), hE]
theorem encB_inj {a b : Bt} (ha : a.Fits) (hca : chk a = 0) (hb : b.Fits) (hcb : chk b = 0) (h : encB a = encB b) : a = b := by
  rw [← (there ha hca).2, ← (there hb hcb).2, h]

/-- What is read is written. -/
theorem numA_back (t : List Nat) : ∀ (k acc : Nat), k ≤ 9 → (∀ x ∈ t, x < 256) → (numA t k acc).2.2 = 0 → ∃ m u, (0 < k → 0 < m) ∧ (numA t k acc).1 = acc + m * 128 ^ k ∧ t = enc m ++ u ∧ (numA t k acc).2.1 = k + (enc m).length := by
  induction t with
  | nil => intro k acc _ _ h; simp [numA] at h
  | cons x r ih =>
    intro k acc hk hy h
    by_cases hb : (k = 9 ∧ 1 < x) ∨ (0 < k ∧ x = 0)
    · rw [numA_bad r acc hb] at h; simp at h
    · by_cases hx : x < 128
      · rw [numA_last r acc hb hx]
        exact ⟨x, r, by omega, rfl, by rw [enc_lt hx]; rfl, by rw [enc_lt hx]; rfl⟩
      · have h9 : k ≠ 9 := by omega
        rw [numA_more r acc hb hx] at h ⊢
        obtain ⟨m, u, e1, e2, e3, e4⟩ := ih (k + 1) (acc + (x - 128) * 128 ^ k) (by omega) (fun y hy' => hy y (List.mem_cons_of_mem _ hy')) h
        have hm := e1 (by omega)
        have hx2 := hy x (List.mem_cons_self ..)
        have hn : ¬ (x - 128 + 128 * m) < 128 := by omega
        have q1 : (x - 128 + 128 * m) % 128 + 128 = x := by omega
        have q2 : (x - 128 + 128 * m) / 128 = m := by omega
        refine ⟨x - 128 + 128 * m, u, by omega, ?_, ?_, ?_⟩
        · rw [e2, Nat.pow_succ, Nat.add_mul, Nat.mul_comm (128 ^ k) 128, ← Nat.mul_assoc, Nat.mul_comm 128 m]
          omega
        · rw [enc_ge hn, q1, q2, e3]; rfl
        · rw [e4, enc_ge hn, q2, List.length_cons]; omega
theorem zig_zag {n : Nat} : zig (zag n) = n := by
  unfold zig zag
  by_cases h : n % 2 = 0
  · rw [if_pos h, if_pos (by omega)]; omega
  · rw [if_neg h, if_neg (by omega)]; omega
theorem rU_from {t : List Nat} {s : Rst} (h : (rU t s).2.er = 0) : s.er = 0 := by
  by_cases h0 : s.er = 0
  · exact h0
  · rw [rU_stop h0] at h; exact h
theorem rI_from {t : List Nat} {s : Rst} (h : (rI t s).2.er = 0) : s.er = 0 := rU_from h
theorem rF_from {t : List Nat} {s : Rst} (h : (rF t s).2.er = 0) : s.er = 0 := by
  by_cases h0 : s.er = 0
  · exact h0
  · rw [rF_stop h0] at h; exact h
theorem rB_from {t : List Nat} {s : Rst} (h : (rB t s).2.er = 0) : s.er = 0 := by
  by_cases h0 : s.er = 0
  · exact h0
  · rw [rB_stop h0] at h; exact h
section
variable {t u : List Nat} {s : Rst} (hy : ∀ x ∈ t, x < 256)
include hy
theorem Ahead.backU (h : Ahead t s u) (he : (rU t s).2.er = 0) : ∃ u', u = enc (rU t s).1 ++ u' ∧ Ahead t (rU t s).2 u' := by
  by_cases hn : (numA (t.drop s.pl) 0 0).2.2 = 0
  · obtain ⟨m, u', _, e2, e3, e4⟩ := numA_back (t.drop s.pl) 0 0 (by omega) (fun x hx => hy x (List.mem_of_mem_drop hx)) hn
    have e2' : (numA (t.drop s.pl) 0 0).1 = m := by rw [e2]; simp
    have hu : u = enc m ++ u' := by rw [← h.rest]; exact e3
    subst hu
    refine ⟨u', by rw [rU_ok h.er hn, e2'], ?_⟩
    rw [rU_ok h.er hn, e4, Nat.zero_add]
    exact h.step
  · rw [rU_err h.er hn] at he; exact absurd he hn
theorem Ahead.backI (h : Ahead t s u) (he : (rI t s).2.er = 0) : ∃ u', u = enc (zig (rI t s).1) ++ u' ∧ Ahead t (rI t s).2 u' := by
  obtain ⟨u', e1, e2⟩ := h.backU hy he
  exact ⟨u', by unfold rI; rw [zig_zag]; exact e1, e2⟩
theorem Ahead.backF (h : Ahead t s u) (he : (rF t s).2.er = 0) : ∃ u', u = enc (rF t s).1.toNat ++ u' ∧ Ahead t (rF t s).2 u' := by
  unfold rF at he ⊢
  by_cases h1 : 1 < (rU t s).1
  · rw [if_pos h1] at he; simp at he
  · rw [if_neg h1] at he ⊢
    obtain ⟨u', e1, e2⟩ := h.backU hy he
    refine ⟨u', ?_, e2⟩
    have : ((rU t s).1 == 1).toNat = (rU t s).1 := by
      have h01 : (rU t s).1 = 0 ∨ (rU t s).1 = 1 := by omega
      rcases h01 with h | h <;> rw [h] <;> rfl
    show u = enc ((rU t s).1 == 1).toNat ++ u'
    rw [this]; exact e1
theorem Ahead.backB (h : Ahead t s u) (he : (rB t s).2.er = 0) : ∃ u', u = (enc (rB t s).1.length ++ (rB t s).1) ++ u' ∧ Ahead t (rB t s).2 u' := by
  unfold rB at he ⊢
  by_cases hz : (rU t s).2.er = 0
  · obtain ⟨u', e1, e2⟩ := h.backU hy hz
    rw [if_pos hz] at he ⊢
    by_cases hb : 4096 < (rU t s).1
    · rw [if_pos hb] at he; simp at he
    · rw [if_neg hb] at he ⊢
      by_cases hl : (rU t s).2.pl + (rU t s).1 ≤ t.length
      · rw [if_pos hl]
        simp only
        have hlen : ((t.drop (rU t s).2.pl).take (rU t s).1).length = (rU t s).1 := by rw [List.length_take, List.length_drop]; omega
        have hsplit : u' = (t.drop (rU t s).2.pl).take (rU t s).1 ++ (t.drop (rU t s).2.pl).drop (rU t s).1 := by rw [List.take_append_drop]; exact e2.rest.symm
        refine ⟨(t.drop (rU t s).2.pl).drop (rU t s).1, by rw [hlen, List.append_assoc, ← hsplit]; exact e1, rfl, hl, by rw [List.drop_drop]⟩
      · rw [if_neg hl] at he; simp at he
  · rw [if_neg hz] at he; exact absurd he hz
theorem Ahead.backVs (h : Ahead t s u) : ∀ k, (rVs t s k).2.er = 0 → ∃ u', u = encVs (rVs t s k).1 ++ u' ∧ Ahead t (rVs t s k).2 u' := by
  intro k
  induction k with
  | zero => intro _; exact ⟨u, by simp [rVs, encVs], h⟩
  | succ k ih =>
    intro he
    obtain ⟨u1, e1, e2⟩ := ih (rB_from he)
    obtain ⟨u2, e3, e4⟩ := e2.backB hy he
    refine ⟨u2, ?_, e4⟩
    rw [e1, e3]
    simp [rVs, encVs]
end
theorem rE_zero {t : List Nat} {s : Rst} (h : rE t s = 0) (hp : s.pl ≤ t.length) : s.er = 0 ∧ s.pl = t.length := by
  unfold rE at h
  split at h
  · omega
  · omega
theorem and_back {t : List Nat} (hy : ∀ x ∈ t, x < 256) (h : decE t = 0) : chk (rawB t) = 0 ∧ encB (rawB t) = t := by
  unfold decE at h
  by_cases h16 : 16 < (h9 t).1
  · rw [if_pos h16] at h; omega
  · rw [if_neg h16] at h
    by_cases hE : rE t (h10 t).2 = 0
    · rw [if_neg (by omega)] at h
      refine ⟨h, ?_⟩
      have y1 : (h1 t).2.pl ≤ t.length := by rw [h1_eq]; exact rI_pl (Nat.zero_le _)
      have y2 : (h2 t).2.pl ≤ t.length := by rw [h2_eq]; exact rI_pl y1
      have y3 : (h3 t).2.pl ≤ t.length := by rw [h3_eq]; exact rU_pl y2
      have y4 : (h4 t).2.pl ≤ t.length := by rw [h4_eq]; exact rI_pl y3
      have y5 : (h5 t).2.pl ≤ t.length := by rw [h5_eq]; exact rI_pl y4
      have y6 : (h6 t).2.pl ≤ t.length := by rw [h6_eq]; exact rF_pl y5
      have y7 : (h7 t).2.pl ≤ t.length := by rw [h7_eq]; exact rF_pl y6
      have y8 : (h8 t).2.pl ≤ t.length := by rw [h8_eq]; exact rF_pl y7
      have y9 : (h9 t).2.pl ≤ t.length := by rw [h9_eq]; exact rU_pl y8
      have hpl : (h10 t).2.pl ≤ t.length := by rw [h10_eq]; exact rVs_pl y9 _
      obtain ⟨z10, p10⟩ := rE_zero hE hpl
      have z9 : (h9 t).2.er = 0 := by
        by_cases hc : (h9 t).2.er = 0
        · exact hc
        · have z := z10
          rw [h10_eq, rVs_err hc] at z
          exact z
      have z8 : (h8 t).2.er = 0 := by have h := z9; rw [h9_eq] at h; exact rU_from h
      have z7 : (h7 t).2.er = 0 := by have h := z8; rw [h8_eq] at h; exact rF_from h
      have z6 : (h6 t).2.er = 0 := by have h := z7; rw [h7_eq] at h; exact rF_from h
      have z5 : (h5 t).2.er = 0 := by have h := z6; rw [h6_eq] at h; exact rF_from h
      have z4 : (h4 t).2.er = 0 := by have h := z5; rw [h5_eq] at h; exact rI_from h
      have z3 : (h3 t).2.er = 0 := by have h := z4; rw [h4_eq] at h; exact rI_from h
      have z2 : (h2 t).2.er = 0 := by have h := z3; rw [h3_eq] at h; exact rU_from h
      have z1 : (h1 t).2.er = 0 := by have h := z2; rw [h2_eq] at h; exact rI_from h
      obtain ⟨u1, e1, a1⟩ : ∃ u', t = enc (zig (h1 t).1) ++ u' ∧ Ahead t (h1 t).2 u' := by have h := z1; rw [h1_eq] at h ⊢; exact (Ahead.start t).backI hy h
      obtain ⟨u2, e2, a2⟩ : ∃ u', u1 = enc (zig (h2 t).1) ++ u' ∧ Ahead t (h2 t).2 u' := by have h := z2; rw [h2_eq] at h ⊢; exact a1.backI hy h
      obtain ⟨u3, e3, a3⟩ : ∃ u', u2 = enc (h3 t).1 ++ u' ∧ Ahead t (h3 t).2 u' := by have h := z3; rw [h3_eq] at h ⊢; exact a2.backU hy h
      obtain ⟨u4, e4, a4⟩ : ∃ u', u3 = enc (zig (h4 t).1) ++ u' ∧ Ahead t (h4 t).2 u' := by have h := z4; rw [h4_eq] at h ⊢; exact a3.backI hy h
      obtain ⟨u5, e5, a5⟩ : ∃ u', u4 = enc (zig (h5 t).1) ++ u' ∧ Ahead t (h5 t).2 u' := by have h := z5; rw [h5_eq] at h ⊢; exact a4.backI hy h
      obtain ⟨u6, e6, a6⟩ : ∃ u', u5 = enc (h6 t).1.toNat ++ u' ∧ Ahead t (h6 t).2 u' := by have h := z6; rw [h6_eq] at h ⊢; exact a5.backF hy h
      obtain ⟨u7, e7, a7⟩ : ∃ u', u6 = enc (h7 t).1.toNat ++ u' ∧ Ahead t (h7 t).2 u' := by have h := z7; rw [h7_eq] at h ⊢; exact a6.backF hy h
      obtain ⟨u8, e8, a8⟩ : ∃ u', u7 = enc (h8 t).1.toNat ++ u' ∧ Ahead t (h8 t).2 u' := by have h := z8; rw [h8_eq] at h ⊢; exact a7.backF hy h
      obtain ⟨u9, e9, a9⟩ : ∃ u', u8 = enc (h9 t).1 ++ u' ∧ Ahead t (h9 t).2 u' := by have h := z9; rw [h9_eq] at h ⊢; exact a8.backU hy h
      obtain ⟨u10, e10, a10⟩ : ∃ u', u9 = encVs (h10 t).1 ++ u' ∧ Ahead t (h10 t).2 u' := by have h := z10; rw [h10_eq] at h ⊢; exact a9.backVs hy _ h
      have hu : u10 = [] := by
        rw [← a10.rest]
        exact List.drop_eq_nil_of_le (Nat.le_of_eq p10.symm)
      subst hu
      have hl : (h10 t).1.length = (h9 t).1 := rVs_len _ _ _
      have q9 : u8 = enc (h10 t).1.length ++ u9 := by rw [hl]; exact e9
      have q10 : u9 = encVs (h10 t).1 := by rw [← List.append_nil (encVs (h10 t).1)]; exact e10
      have : t = enc (zig (h1 t).1) ++ (enc (zig (h2 t).1) ++ (enc (h3 t).1 ++ (enc (zig (h4 t).1) ++ (enc (zig (h5 t).1) ++ (enc (h6 t).1.toNat ++ (enc (h7 t).1.toNat ++ (enc (h8 t).1.toNat ++ (enc (h10 t).1.length ++ encVs (h10 t).1)))))))) := by
        rw [← q10, ← q9]
        refine e1.trans (congrArg _ (e2.trans (congrArg _ (e3.trans (congrArg _ (e4.trans (congrArg _ (e5.trans (congrArg _ (e6.trans (congrArg _ (e7.trans (congrArg _ e8)))))))))))))
      unfold encB rawB
      simp only
      exact this.symm
    · rw [if_pos hE] at h; exact absurd h hE

/-- A beginning alone is none. -/
theorem numA_cut (n : Nat) : ∀ (k acc j : Nat), n * 128 ^ k < 18446744073709551616 → (0 < k → 0 < n) → k ≤ 9 → j < (enc n).length → (numA ((enc n).take j) k acc).2.2 = 6 := by
  induction n using Nat.strongRecOn with
  | _ n ih =>
    intro k acc j h h0 hk hj
    have h9 : k = 9 → n ≤ 1 := by rintro rfl; rw [pow9] at h; omega
    by_cases hc : n < 128
    · rw [enc_lt hc] at hj ⊢
      obtain rfl : j = 0 := by simpa using hj
      simp [numA]
    · rw [enc_ge hc] at hj ⊢
      cases j with
      | zero => simp [numA]
      | succ j =>
        rw [List.take_succ_cons, numA_more _ _ (by omega) (by omega)]
        refine ih (n / 128) (by omega) (k + 1) _ j ?_ (by omega) (by omega) (by simpa using hj)
        rw [Nat.pow_succ, Nat.mul_comm (128 ^ k) 128, ← Nat.mul_assoc]
        refine Nat.lt_of_le_of_lt (Nat.mul_le_mul_right _ ?_) h
        omega
/-- Either it has ended early, or less than w is left. -/
def Short (t : List Nat) (s : Rst) (w : List Nat) : Prop := s.er = 6 ∨ ∃ j, j < w.length ∧ Ahead t s (w.take j)
theorem take_part {x u : List Nat} {j : Nat} (h : x.length ≤ j) : (x ++ u).take j = x ++ u.take (j - x.length) := by
  rw [List.take_append, List.take_of_length_le h]
theorem take_head {x u : List Nat} {j : Nat} (h : j < x.length) : (x ++ u).take j = x.take j := by
  rw [List.take_append, show j - x.length = 0 by omega]; simp
section
variable {t u : List Nat} {s : Rst}
theorem Short.U' {n : Nat} (h : Short t s (enc n ++ u)) (hn : n < 18446744073709551616) : ((rU t s).2.er = 6 ∧ (rU t s).1 = 0) ∨ ((rU t s).1 = n ∧ ∃ j, j < u.length ∧ Ahead t (rU t s).2 (u.take j)) := by
  rcases h with h | ⟨j, hj, h⟩
  · rw [rU_stop (by omega)]; exact .inl ⟨h, rfl⟩
  · by_cases hx : (enc n).length ≤ j
    · rw [take_part hx] at h
      obtain ⟨e1, e2⟩ := h.U hn
      rw [List.length_append] at hj
      exact .inr ⟨e1, _, by omega, e2⟩
    · rw [take_head (by omega)] at h
      have := numA_cut n 0 0 j (by simpa using hn) (by omega) (by omega) (by omega)
      rw [← h.rest] at this
      rw [rU_err h.er (by omega)]
      exact .inl ⟨this, rfl⟩
theorem Short.U {n : Nat} (h : Short t s (enc n ++ u)) (hn : n < 18446744073709551616) : ((rU t s).1 = n ∨ (rU t s).1 = 0) ∧ Short t (rU t s).2 u := by
  rcases h.U' hn with ⟨e1, e2⟩ | ⟨e1, e2⟩
  · exact ⟨.inr e2, .inl e1⟩
  · exact ⟨.inl e1, .inr e2⟩
theorem Short.I {i : Int} (h : Short t s (enc (zig i) ++ u)) (hi : I64 i) : Short t (rI t s).2 u := (h.U (zig_lt hi.1 hi.2)).2
theorem Short.F {q : Bool} (h : Short t s (enc q.toNat ++ u)) : Short t (rF t s).2 u := by
  obtain ⟨e1, e2⟩ := h.U (bool_lt q)
  unfold rF
  rw [if_neg (by cases q <;> simp at e1 <;> omega)]
  exact e2
theorem Short.B {v : List Nat} (h : Short t s ((enc v.length ++ v) ++ u)) (hv : v.length ≤ 4096) : Short t (rB t s).2 u := by
  rcases h with h | ⟨j, hj, h⟩
  · rw [rB_stop (by omega)]; exact .inl h
  · by_cases hx : (enc v.length ++ v).length ≤ j
    · rw [take_part hx] at h
      rw [List.length_append] at hj
      exact .inr ⟨_, by omega, (h.B hv).2⟩
    · rw [take_head (by omega)] at h
      by_cases hy : (enc v.length).length ≤ j
      · rw [take_part hy] at h
        obtain ⟨e1, e2⟩ := h.U (by omega)
        have hl := congrArg List.length e2.rest
        rw [List.length_append] at hx
        rw [List.length_drop, List.length_take] at hl
        unfold rB
        rw [if_pos e2.er, if_neg (by rw [e1]; omega), if_neg (by rw [e1]; have := e2.pl; omega)]
        exact .inl rfl
      · rw [take_head (by omega)] at h
        have hj' : j < (enc v.length).length := by omega
        have := numA_cut v.length 0 0 j (by omega) (by omega) (by omega) (by omega)
        rw [← h.rest] at this
        unfold rB
        rw [rU_err h.er (by omega)]
        rw [if_neg (by simp only; omega)]
        exact .inl this
theorem Short.Vs (vs : List (List Nat)) (h : Short t s (encVs vs)) (hv : ∀ v ∈ vs, v.length ≤ 4096) : ∀ k, k ≤ vs.length → Short t (rVs t s k).2 (encVs (vs.drop k)) := by
  intro k
  induction k with
  | zero => intro _; simpa [rVs] using h
  | succ k ih =>
    intro hk
    have e2 := ih (by omega)
    rw [drop_at_v (by omega), encVs_cons] at e2
    exact e2.B (hv _ (by simp [List.getD, show k < vs.length by omega]))
end
theorem cut_short {b : Bt} (hf : b.Fits) (hc : chk b = 0) {k : Nat} (hk : k < (encB b).length) : decE ((encB b).take k) = 6 := by
  obtain ⟨hv1, hv2⟩ := chk_zero hc
  have a0 : Short ((encB b).take k) ⟨0, 0⟩ (encB b) := .inr ⟨k, hk, Ahead.start _⟩
  generalize (encB b).take k = t at *
  unfold encB at a0
  have a1 := a0.I hf.base
  rw [← h1_eq] at a1
  have a2 := a1.I hf.epoch
  rw [← h2_eq] at a2
  have a3 := (a2.U hf.pid).2
  rw [← h3_eq] at a3
  have a4 := a3.I hf.pep
  rw [← h4_eq] at a4
  have a5 := a4.I hf.seq
  rw [← h5_eq] at a5
  have a6 := a5.F
  rw [← h6_eq] at a6
  have a7 := a6.F
  rw [← h7_eq] at a7
  have a8 := a7.F
  rw [← h8_eq] at a8
  have a9' := a8.U' (by omega : b.vs.length < 18446744073709551616)
  rw [← h9_eq] at a9'
  have h16 : ¬ 16 < (h9 t).1 := by rcases a9' with ⟨_, h⟩ | ⟨h, _⟩ <;> omega
  have h6 : (h10 t).2.er = 6 := by
    rcases a9' with ⟨h, hz⟩ | ⟨hne, h⟩
    · rw [h10_eq, hz, rVs_zero]; exact h
    · have hs : Short t (h9 t).2 (encVs b.vs) := Or.inr h
      have h64 : ∀ v ∈ b.vs, v.length ≤ 4096 := fun v hv => Nat.le_trans (hv2 v hv) (by omega)
      clear h a0 a1 a2 a3 a4 a5 a6 a7 a8
      have := hs.Vs b.vs h64 b.vs.length (Nat.le_refl _)
      rw [List.drop_length] at this
      rw [h10_eq, hne]
      rcases this with h | ⟨j, hj, _⟩
      · exact h
      · simp [encVs] at hj
  have hE : rE t (h10 t).2 = 6 := by unfold rE; rw [if_neg (by omega)]; exact h6
  rw [decE_end h16 (by omega), hE]
end Go.Proofs.Ytblmondkdcpkaaa
