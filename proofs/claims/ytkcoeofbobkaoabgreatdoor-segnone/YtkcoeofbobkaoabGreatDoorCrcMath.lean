/-
  CRC-32C as a register of numbers below 2^32: its step keeps exclusive or, is one to one, and eight steps at once are a table's. Plain mathematics: no Go text is read here. No conditions.
-/
import Derived.Test.YtkcoeofbobkaoabGreatDoorLst

namespace Go.Proofs.YtkcoeofbobkaoabGreatDoor

def pol : Nat := 2197175160
/-- One step of the register to the right. -/
def stp (r : Nat) : Nat := (r / 2) ^^^ (if r % 2 = 1 then pol else 0)
/-- k steps. -/
def stps : Nat → Nat → Nat
  | 0, r => r
  | k + 1, r => stp (stps k r)
/-- The register behind the first n bits of f. -/
def reg (f : Nat → Bool) (r : Nat) : Nat → Nat
  | 0 => r
  | n + 1 => stp (reg f r n ^^^ (f n).toNat)

theorem xor_div2 (a b : Nat) : (a ^^^ b) / 2 = (a / 2) ^^^ (b / 2) := by
  apply Nat.eq_of_testBit_eq
  intro i
  rw [← Nat.testBit_succ, Nat.testBit_xor, Nat.testBit_xor, Nat.testBit_succ, Nat.testBit_succ]

theorem xor_mod2 (a b : Nat) : (a ^^^ b) % 2 = (a % 2 + b % 2) % 2 := by
  have h := Nat.testBit_xor a b 0
  simp only [Nat.testBit_zero] at h
  have ha := Nat.mod_two_eq_zero_or_one a
  have hb := Nat.mod_two_eq_zero_or_one b
  have hc := Nat.mod_two_eq_zero_or_one (a ^^^ b)
  rcases ha with ha | ha <;> rcases hb with hb | hb <;> rcases hc with hc | hc <;> simp [ha, hb, hc] at h ⊢

theorem xor4 (a b c d : Nat) : (a ^^^ b) ^^^ (c ^^^ d) = (a ^^^ c) ^^^ (b ^^^ d) := by
  rw [Nat.xor_assoc, Nat.xor_assoc, ← Nat.xor_assoc b, Nat.xor_comm b c, Nat.xor_assoc c]

theorem stp_xor (a b : Nat) : stp (a ^^^ b) = stp a ^^^ stp b := by
  unfold stp
  rw [xor_div2, xor4]
  congr 1
  rw [xor_mod2]
  have ha := Nat.mod_two_eq_zero_or_one a
  have hb := Nat.mod_two_eq_zero_or_one b
  rcases ha with ha | ha <;> rcases hb with hb | hb <;> simp [ha, hb]

theorem stp_lt {r : Nat} (h : r < 4294967296) : stp r < 4294967296 := by
  unfold stp
  have : (if r % 2 = 1 then pol else 0) < 2 ^ 32 := by unfold pol; split <;> omega
  exact Nat.xor_lt_two_pow (n := 32) (by omega) this

theorem stps_lt (k : Nat) {r : Nat} (h : r < 4294967296) : stps k r < 4294967296 := by
  induction k with
  | zero => exact h
  | succ k ih => exact stp_lt ih

theorem stp_zero : stp 0 = 0 := by decide

theorem stp_nonzero {r : Nat} (h : r < 4294967296) (hr : r ≠ 0) : stp r ≠ 0 := by
  unfold stp
  intro e
  by_cases h1 : r % 2 = 1
  · rw [if_pos h1] at e
    have e2 : r / 2 = pol := by
      have := congrArg (· ^^^ pol) e
      simp only [Nat.xor_assoc, Nat.xor_self, Nat.xor_zero, Nat.zero_xor] at this
      exact this
    unfold pol at e2
    omega
  · rw [if_neg h1] at e
    rw [Nat.xor_zero] at e
    omega

theorem xor_eq_zero {a b : Nat} (h : a ^^^ b = 0) : a = b := by
  have := congrArg (· ^^^ b) h
  simp only [Nat.xor_assoc, Nat.xor_self, Nat.xor_zero, Nat.zero_xor] at this
  exact this

theorem xor_ne_zero {a b : Nat} (h : a ≠ b) : a ^^^ b ≠ 0 := fun e => h (xor_eq_zero e)

theorem xlt {a b : Nat} (ha : a < 4294967296) (hb : b < 4294967296) : a ^^^ b < 4294967296 := Nat.xor_lt_two_pow (n := 32) ha hb

theorem stps_xor (k a b : Nat) : stps k (a ^^^ b) = stps k a ^^^ stps k b := by
  induction k with
  | zero => rfl
  | succ k ih => show stp (stps k (a ^^^ b)) = _; rw [ih, stp_xor]; rfl

theorem stps_nonzero (k : Nat) {r : Nat} (h : r < 4294967296) (hr : r ≠ 0) : stps k r ≠ 0 := by
  induction k with
  | zero => exact hr
  | succ k ih => exact stp_nonzero (stps_lt k h) ih

theorem bit_lt (b : Bool) : b.toNat < 4294967296 := by cases b <;> decide

theorem reg_lt (f : Nat → Bool) {r : Nat} (h : r < 4294967296) (n : Nat) : reg f r n < 4294967296 := by
  induction n with
  | zero => exact h
  | succ n ih => exact stp_lt (xlt ih (bit_lt _))

theorem toNat_xor (a b : Bool) : (a ^^ b).toNat = a.toNat ^^^ b.toNat := by cases a <;> cases b <;> rfl

theorem reg_xor (f g : Nat → Bool) (r s n : Nat) : reg (fun i => f i ^^ g i) (r ^^^ s) n = reg f r n ^^^ reg g s n := by
  induction n with
  | zero => rfl
  | succ n ih =>
    show stp (reg (fun i => f i ^^ g i) (r ^^^ s) n ^^^ (f n ^^ g n).toNat) = _
    rw [ih, toNat_xor, xor4, stp_xor]; rfl

theorem reg_add (f : Nat → Bool) (r m n : Nat) : reg f r (m + n) = reg (fun i => f (m + i)) (reg f r m) n := by
  induction n with
  | zero => rfl
  | succ n ih =>
    show stp (reg f r (m + n) ^^^ (f (m + n)).toNat) = _
    rw [ih]; rfl

theorem reg_congr (f g : Nat → Bool) (r n : Nat) (h : ∀ i, i < n → f i = g i) : reg f r n = reg g r n := by
  induction n with
  | zero => rfl
  | succ n ih =>
    show stp (reg f r n ^^^ (f n).toNat) = stp (reg g r n ^^^ (g n).toNat)
    rw [ih (fun i hi => h i (by omega)), h n (by omega)]

theorem reg_off (r n : Nat) : reg (fun _ => false) r n = stps n r := by
  induction n with
  | zero => rfl
  | succ n ih => show stp (reg (fun _ => false) r n ^^^ 0) = stp (stps n r); rw [ih, Nat.xor_zero]

theorem stps_zero (n : Nat) : stps n 0 = 0 := by
  induction n with
  | zero => rfl
  | succ n ih => show stp (stps n 0) = 0; rw [ih]; exact stp_zero

theorem reg_inj (f : Nat → Bool) {r s : Nat} (n : Nat) (hr : r < 4294967296) (hs : s < 4294967296) (h : reg f r n = reg f s n) : r = s := by
  apply Classical.byContradiction
  intro hne
  have e := reg_xor f f r s n
  rw [h, Nat.xor_self] at e
  rw [reg_congr _ (fun _ => false) _ _ (fun i _ => by simp), reg_off] at e
  exact stps_nonzero n (xlt hr hs) (xor_ne_zero hne) e

/-- Bits that are a number's: they may be taken to the register ahead of the steps. -/
theorem reg_num (X r j : Nat) : reg (fun i => X.testBit i) r j = stps j (r ^^^ X) ^^^ (X / 2 ^ j) := by
  induction j with
  | zero => show r = (r ^^^ X) ^^^ (X / 1); rw [Nat.div_one, Nat.xor_assoc, Nat.xor_self, Nat.xor_zero]
  | succ j ih =>
    show stp (reg (fun i => X.testBit i) r j ^^^ (X.testBit j).toNat) = stp (stps j (r ^^^ X)) ^^^ (X / 2 ^ (j + 1))
    rw [ih, Nat.xor_assoc, stp_xor]
    congr 1
    have hb : X.testBit j = decide (X / 2 ^ j % 2 = 1) := by rw [Nat.testBit_eq_decide_div_mod_eq]
    rw [hb]
    have hd : X / 2 ^ (j + 1) = X / 2 ^ j / 2 := by rw [Nat.pow_succ, Nat.div_div_eq_div_mul]
    rw [hd]
    generalize X / 2 ^ j = q
    unfold stp
    by_cases hq : q % 2 = 1
    · rw [decide_eq_true hq, xor_div2, xor_mod2, hq]
      simp
    · have h0 : q % 2 = 0 := by omega
      rw [decide_eq_false hq]
      simp [h0]

theorem stps_even (j q : Nat) : stps j (q * 2 ^ j) = q := by
  induction j generalizing q with
  | zero => show q * 1 = q; omega
  | succ j ih =>
    show stp (stps j (q * 2 ^ (j + 1))) = q
    have e : q * 2 ^ (j + 1) = (q * 2) * 2 ^ j := by rw [Nat.pow_succ, Nat.mul_assoc, Nat.mul_comm 2]
    rw [e, ih]
    unfold stp
    have h1 : (q * 2) % 2 = 0 := by omega
    have h2 : q * 2 / 2 = q := by omega
    rw [h1, h2]; simp

theorem split_low (r : Nat) : r = (r % 256) ^^^ (r / 256 * 2 ^ 8) := by
  apply Nat.eq_of_testBit_eq
  intro i
  rw [Nat.testBit_xor, show (256 : Nat) = 2 ^ 8 from rfl, Nat.testBit_mod_two_pow, Nat.testBit_mul_two_pow, Nat.testBit_div_two_pow]
  by_cases h : i < 8
  · have : ¬ 8 ≤ i := by omega
    simp [h, this]
  · have h2 : 8 ≤ i := by omega
    have : i - 8 + 8 = i := by omega
    simp [h, h2, this]

/-- Eight steps by a table. -/
theorem byte_step (r x : Nat) (hx : x < 256) : stps 8 ((r % 256) ^^^ x) ^^^ (r / 256) = reg (fun i => x.testBit i) r 8 := by
  rw [reg_num]
  have h0 : x / 2 ^ 8 = 0 := by omega
  rw [h0, Nat.xor_zero]
  have e : r ^^^ x = ((r % 256) ^^^ x) ^^^ (r / 256 * 2 ^ 8) := by
    have h : r ^^^ x = ((r % 256) ^^^ (r / 256 * 2 ^ 8)) ^^^ x := congrArg (· ^^^ x) (split_low r)
    rw [h, Nat.xor_assoc, Nat.xor_comm (r / 256 * 2 ^ 8) x, ← Nat.xor_assoc]
  rw [e, stps_xor 8 ((r % 256) ^^^ x), stps_even]

/-- The bits of a text, the least bit of each byte first. -/
def txt (g : Nat → Nat) : Nat → Bool := fun i => (g (i / 8)).testBit (i % 8)

theorem reg_byte (g : Nat → Nat) (r k : Nat) : reg (txt g) r (8 * (k + 1)) = reg (fun i => (g k).testBit i) (reg (txt g) r (8 * k)) 8 := by
  rw [show 8 * (k + 1) = 8 * k + 8 by omega, reg_add]
  exact reg_congr _ _ _ _ (fun i hi => by unfold txt; rw [show (8 * k + i) / 8 = k by omega, show (8 * k + i) % 8 = i by omega])

def cpl (r : Nat) : Nat := 4294967295 - r
theorem cpl_lt (r : Nat) : cpl r < 4294967296 := by unfold cpl; omega
theorem cpl_cpl {r : Nat} (h : r < 4294967296) : cpl (cpl r) = r := by unfold cpl; omega
theorem cpl_inj {a b : Nat} (ha : a < 4294967296) (hb : b < 4294967296) (h : cpl a = cpl b) : a = b := by unfold cpl at h; omega
theorem cpl_xor {r : Nat} (h : r < 4294967296) : cpl r = r ^^^ 4294967295 := by
  have e : cpl r = 2 ^ 32 - (r + 1) := by unfold cpl; omega
  rw [e]
  apply Nat.eq_of_testBit_eq
  intro i
  have hr : r < 2 ^ 32 := h
  rw [Nat.testBit_two_pow_sub_succ hr, Nat.testBit_xor, show (4294967295 : Nat) = 2 ^ 32 - 1 from rfl, Nat.testBit_two_pow_sub_one]
  by_cases hi : i < 32
  · simp [hi]
  · have : r.testBit i = false := Nat.testBit_lt_two_pow (Nat.lt_of_lt_of_le hr (Nat.pow_le_pow_right (by omega) (by omega)))
    simp [hi, this]

/-- The sum of what had the sum s, and n bytes of g behind it. -/
def mor (g : Nat → Nat) (s n : Nat) : Nat := cpl (reg (txt g) (cpl s) (8 * n))
theorem mor_append (g h : Nat → Nat) (s m n : Nat) (a b : Nat → Nat) (ha : ∀ i, i < m → a i = g i) (hb : ∀ i, i < n → b i = g (m + i)) (hh : ∀ i, i < m + n → h i = g i) : mor b (mor a s m) n = mor h s (m + n) := by
  unfold mor
  rw [cpl_cpl (reg_lt _ (cpl_lt s) _)]
  congr 1
  have e1 : reg (txt a) (cpl s) (8 * m) = reg (txt g) (cpl s) (8 * m) := reg_congr _ _ _ _ (fun i hi => by unfold txt; rw [ha _ (by omega)])
  have e2 : reg (txt h) (cpl s) (8 * (m + n)) = reg (txt g) (cpl s) (8 * (m + n)) := reg_congr _ _ _ _ (fun i hi => by unfold txt; rw [hh _ (by omega)])
  rw [e1, e2, Nat.mul_add, reg_add]
  exact reg_congr _ _ _ _ (fun i hi => by unfold txt; rw [hb _ (by omega), show (8 * m + i) / 8 = m + i / 8 by omega, show (8 * m + i) % 8 = i % 8 by omega])

theorem mor_congr (g h : Nat → Nat) (s n : Nat) (e : ∀ i, i < n → g i = h i) : mor g s n = mor h s n := by
  unfold mor
  rw [reg_congr (txt g) (txt h) _ _ (fun i hi => by unfold txt; rw [e _ (by omega)])]

/-- Three texts taken together by exclusive or. -/
theorem mor_together (a b c d : Nat → Nat) (n : Nat) (h : ∀ i, i < n → d i = (a i ^^^ b i) ^^^ c i) : mor d 0 n = (mor a 0 n ^^^ mor b 0 n) ^^^ mor c 0 n := by
  unfold mor
  have hc : cpl 0 = (cpl 0 ^^^ cpl 0) ^^^ cpl 0 := by rw [Nat.xor_self, Nat.zero_xor]
  have e : reg (txt d) (cpl 0) (8 * n) = (reg (txt a) (cpl 0) (8 * n) ^^^ reg (txt b) (cpl 0) (8 * n)) ^^^ reg (txt c) (cpl 0) (8 * n) := by
    rw [← reg_xor, ← reg_xor, ← hc]
    exact reg_congr _ _ _ _ (fun i hi => by unfold txt; rw [h _ (by omega), Nat.testBit_xor, Nat.testBit_xor])
  rw [e]
  have ha := reg_lt (txt a) (cpl_lt 0) (8 * n)
  have hb := reg_lt (txt b) (cpl_lt 0) (8 * n)
  have hcc := reg_lt (txt c) (cpl_lt 0) (8 * n)
  generalize reg (txt a) (cpl 0) (8 * n) = A at *
  generalize reg (txt b) (cpl 0) (8 * n) = B at *
  generalize reg (txt c) (cpl 0) (8 * n) = C at *
  rw [cpl_xor (xlt (xlt ha hb) hcc), cpl_xor ha, cpl_xor hb, cpl_xor hcc, xor4 A _ B _, Nat.xor_self, Nat.xor_zero, Nat.xor_assoc]

/-- What is ahead of the same bytes shows. -/
theorem mor_inj (g : Nat → Nat) (s t n : Nat) (hs : s < 4294967296) (ht : t < 4294967296) (h : mor g s n = mor g t n) : s = t := by
  unfold mor at h
  exact cpl_inj hs ht (reg_inj (txt g) (8 * n) (cpl_lt s) (cpl_lt t) (cpl_inj (reg_lt _ (cpl_lt s) _) (reg_lt _ (cpl_lt t) _) h))

/-- A stretch of at most 32 bits that is turned shows. -/
theorem reg_burst (f g : Nat → Bool) (r k n X : Nat) (hX : X < 4294967296) (h0 : X ≠ 0) (hk : k + 32 ≤ n)
    (h : ∀ i, i < n → (f i ^^ g i) = (decide (k ≤ i ∧ i < k + 32) && X.testBit (i - k))) : reg f r n ≠ reg g r n := by
  intro e
  have x := reg_xor f g r r n
  rw [e, Nat.xor_self, Nat.xor_self] at x
  have hn : n = k + (32 + (n - k - 32)) := by omega
  rw [hn, reg_add, reg_add] at x
  have e1 : reg (fun i => f i ^^ g i) 0 k = 0 := by
    rw [reg_congr _ (fun _ => false) _ _ (fun i hi => by rw [h i (by omega)]; have : ¬ (k ≤ i ∧ i < k + 32) := by omega
                                                         rw [decide_eq_false this]; rfl), reg_off, stps_zero]
  rw [e1] at x
  have e2 : reg (fun i => f (k + i) ^^ g (k + i)) 0 32 = stps 32 X := by
    rw [reg_congr _ (fun i => X.testBit i) _ _ (fun i hi => by
      rw [h (k + i) (by omega)]
      have : k ≤ k + i ∧ k + i < k + 32 := by omega
      rw [decide_eq_true this, Nat.add_sub_cancel_left]; rfl), reg_num, Nat.zero_xor]
    have : X / 2 ^ 32 = 0 := by omega
    rw [this, Nat.xor_zero]
  rw [e2] at x
  rw [reg_congr _ (fun _ => false) _ _ (fun i hi => by
      rw [h (k + (32 + i)) (by omega)]
      have : ¬ (k ≤ k + (32 + i) ∧ k + (32 + i) < k + 32) := by omega
      rw [decide_eq_false this]; rfl), reg_off] at x
  exact stps_nonzero _ (stps_lt 32 hX) (stps_nonzero 32 hX h0) x

theorem mor_lt (g : Nat → Nat) (s n : Nat) : mor g s n < 4294967296 := cpl_lt _
end Go.Proofs.YtkcoeofbobkaoabGreatDoor
