/-
  CrcTurned returns true, whatever its arguments, and writes nothing that was there: a stretch of at most 32 bits that is turned shows in the sum. Conditions: the bytes are at most 2^47 - 4096 (the row's own reach).
-/
import Derived.Test.YtbojiafnapcgnabCrcStep
namespace Go.Proofs.Ytbojiafnapcgnab
open Go.RowKit

/-- The bits of f are g's, but those of X from k on, as far as the first i of them, are turned. -/
def Turn (g f : Nat → Nat) (k X i len : Nat) : Prop := ∀ p, p < 8 * len → txt f p = (txt g p ^^ (decide (k ≤ p ∧ p < k + i) && X.testBit (p - k)))

theorem Turn.zero (g : Nat → Nat) (k X len : Nat) : Turn g g k X 0 len := fun p _ => by
  have : ¬ (k ≤ p ∧ p < k + 0) := by omega
  rw [decide_eq_false this]; simp

theorem Turn.miss {g f : Nat → Nat} {k X i len : Nat} (h : Turn g f k X i len) (hb : X.testBit i = false) : Turn g f k X (i + 1) len := fun p hp => by
  rw [h p hp]
  by_cases e : p = k + i
  · subst e
    have h1 : ¬ (k ≤ k + i ∧ k + i < k + i) := by omega
    have h2 : k ≤ k + i ∧ k + i < k + (i + 1) := by omega
    rw [decide_eq_false h1, decide_eq_true h2, Nat.add_sub_cancel_left, hb]; rfl
  · have : (k ≤ p ∧ p < k + i) = (k ≤ p ∧ p < k + (i + 1)) := by apply propext; omega
    simp only [this]

theorem Turn.hit {g f : Nat → Nat} {k X i len : Nat} (h : Turn g f k X i len) (hb : X.testBit i = true) : Turn g (upn f ((k + i) / 8) (f ((k + i) / 8) ^^^ 2 ^ ((k + i) % 8))) k X (i + 1) len := fun p hp => by
  have hq : txt (upn f ((k + i) / 8) (f ((k + i) / 8) ^^^ 2 ^ ((k + i) % 8))) p = (txt f p ^^ decide (p = k + i)) := by
    unfold txt upn
    by_cases e : p / 8 = (k + i) / 8
    · rw [if_pos e, Nat.testBit_xor, Nat.testBit_two_pow, e]
      congr 1
      rw [decide_eq_decide]
      omega
    · rw [if_neg e]
      have : ¬ p = k + i := fun h => e (by rw [h])
      rw [decide_eq_false this]; simp
  rw [hq, h p hp]
  by_cases e : p = k + i
  · subst e
    have h1 : ¬ (k ≤ k + i ∧ k + i < k + i) := by omega
    have h2 : k ≤ k + i ∧ k + i < k + (i + 1) := by omega
    rw [decide_eq_false h1, decide_eq_true h2, Nat.add_sub_cancel_left, hb, decide_eq_true rfl]; simp
  · have : (k ≤ p ∧ p < k + i) = (k ≤ p ∧ p < k + (i + 1)) := by apply propext; omega
    rw [decide_eq_false e]
    simp only [this, Bool.xor_false]

theorem Turn.sums {g f : Nat → Nat} {k X len : Nat} (h : Turn g f k X 32 len) (hX : X < 4294967296) (h0 : X ≠ 0) (hk : k + 32 ≤ 8 * len) : mor f 0 len ≠ mor g 0 len := by
  intro e
  unfold mor at e
  have e2 := cpl_inj (reg_lt _ (cpl_lt 0) _) (reg_lt _ (cpl_lt 0) _) e
  exact reg_burst (txt f) (txt g) (cpl 0) k (8 * len) X hX h0 hk (fun i hi => by rw [h i hi]; cases txt g i <;> simp) e2

set_option maxRecDepth 100000 in
set_option maxHeartbeats 4000000 in
theorem crcTurned_short (a : Option Addr) (len cap : Nat) (n : Int) (X : Nat) (w : World) (h : X = 0 ∨ (¬ X = 0 ∧ len < 5)) :
    Calls Try.prog 6 #[.slice a len cap, .int .u16 n, .int .u32 X] w fun e w' => e = .returned (.bool true) ∧ Below w.heap.size w w' := by
  rcases h with h | ⟨h1, h2⟩
  · have hq : ((X : Int) == 0) = true := by simp [h]
    clear h
    go_enter Try.func6, Try.ntmps6
    go_wp2_with fail
    refine (tnew_any w).mono ?_
    rintro e w1 ⟨rfl, h1, b1⟩
    have C1 := hide (Cx.mk h1 b1)
    clear h1 b1
    go_wp2_with fail
    refine (awake_step w _ (unhide C1)).mono ?_
    rintro e w2 ⟨rfl, c, _⟩
    have C2 := hide c
    clear c C1
    go_wp2_with fail
    refine (awake_step w _ (unhide C2)).mono ?_
    rintro e w3 ⟨rfl, c, _⟩
    have C3 := hide c
    clear c C2
    go_wp2
    go_ret
    exact ⟨rfl, (unhide C3).below⟩
  · have hq : ((X : Int) == 0) = false := by simp; omega
    clear h1
    go_enter Try.func6, Try.ntmps6
    go_wp2_with fail
    refine (tnew_any w).mono ?_
    rintro e w1 ⟨rfl, h1, b1⟩
    have C1 := hide (Cx.mk h1 b1)
    clear h1 b1
    go_wp2_with fail
    refine (awake_step w _ (unhide C1)).mono ?_
    rintro e w2 ⟨rfl, c, _⟩
    have C2 := hide c
    clear c C1
    go_wp2_with fail
    refine (awake_step w _ (unhide C2)).mono ?_
    rintro e w3 ⟨rfl, c, _⟩
    have C3 := hide c
    clear c C2
    go_wp2
    go_ret
    exact ⟨rfl, (unhide C3).below⟩

theorem and_bit32 (x j : Nat) (hx : x < 4294967296) : bits .and .u32 ((x : Int) / 2 ^ j) 1 = (((x.testBit j).toNat : Nat) : Int) := by
  have e : ((x : Int) / 2 ^ j) = ((x / 2 ^ j : Nat) : Int) := by simp
  rw [e, and1 _ (by have : x / 2 ^ j ≤ x := Nat.div_le_self _ _
                    omega), shr_bit]

set_option maxRecDepth 100000 in
set_option maxHeartbeats 4000000 in
theorem crcTurned_long (a : Option Addr) (len cap : Nat) (n X : Nat) (g : Nat → Nat) (w : World) (hn : n < 65536) (hX : X < 4294967296) (hX0 : ¬ X = 0) (hl5 : 5 ≤ len) (hg : BytesAt w a len g) (hlen : len ≤ 140737488351232) :
    Calls Try.prog 6 #[.slice a len cap, .int .u16 n, .int .u32 X] w fun e w' => e = .returned (.bool true) ∧ Below w.heap.size w w' := by
  have hq : ((X : Int) == 0) = false := by simp; omega
  have hd5 : decide ((len : Int) < 5) = false := by simp; omega
  have HX0 := hide hX0
  have G := hide hg
  clear hX0 hg
  obtain ⟨k, hk, hkl⟩ : ∃ k : Nat, (n : Int) % (8 * ((len : Int) - 4)) = (k : Int) ∧ k + 32 < 8 * len := by
    have h1 : 8 * ((len : Int) - 4) = ((8 * (len - 4) : Nat) : Int) := by omega
    rw [h1]
    exact ⟨n % (8 * (len - 4)), by simp, by have := Nat.mod_lt n (show 0 < 8 * (len - 4) by omega); omega⟩
  go_enter Try.func6, Try.ntmps6
  go_wp2_with fail
  refine (tnew_any w).mono ?_
  rintro e w1 ⟨rfl, h1, b1⟩
  have C1 := hide (Cx.mk h1 b1)
  clear h1 b1
  go_wp2_with fail
  refine (awake_step w _ (unhide C1)).mono ?_
  rintro e w2 ⟨rfl, c, _⟩
  have C2 := hide c
  clear c C1
  go_wp2_with fail
  refine (own_step w _ a len cap g (unhide C2) (unhide G) hlen).mono ?_
  rintro e w3 ⟨rfl, c, o, _⟩
  have C3 := hide c
  have O3 := hide o
  have hcb := (unhide C2).lt
  clear c o C2
  generalize w2.heap.size = cb at *
  go_wp2_with fail
  go_loopw [10] (fun i wr => ∃ (j : Nat) (f : Nat → Nat), j ≤ 32 ∧ i = .int .i64 j ∧ OwnAt wr cb len f ∧ Cx w wr ∧ Turn g f k X j len) (fun i _ => 32 - (intOf i).toNat)
  case atStart => exact ⟨0, g, Nat.zero_le _, rfl, unhide O3, unhide C3, Turn.zero g k X len⟩
  case round =>
    obtain ⟨j, f, hj, rfl, o, c, ht⟩ := hrel
    have OJ := hide o
    have CJ := hide c
    have TJ := hide ht
    clear o c ht O3 C3
    by_cases hlt : j < 32
    · have hqz : (k + j) / 8 < len := by omega
      have hd32 : decide ((j : Int) < 32) = true := by simp; omega
      have z1 := (unhide OJ).cell hqz
      have z2 := (unhide OJ).frozen ((k + j) / 8)
      have hB := and_bit32 X j hX
      cases hb : X.testBit j
      · rw [hb] at hB
        have HBT := hide hb
        clear hb z1 z2
        go_wp2
        go_roundw
        case rel => exact ⟨j + 1, f, by omega, by go_num, unhide OJ, unhide CJ, (unhide TJ).miss (unhide HBT)⟩
        case measure => simp [intOf]; omega
      · rw [hb] at hB
        have HBT := hide hb
        clear hb
        obtain ⟨v, hv, ev, lv⟩ : ∃ v : Nat, bits BinOp.xor IntKind.u8 (f ((k + j) / 8) : Int) (2 ^ ((k + j) % 8) % 256) = (v : Int) ∧ Hid (v = f ((k + j) / 8) ^^^ 2 ^ ((k + j) % 8)) ∧ v < 256 := by
          obtain ⟨_, _, _, h3⟩ := unhide OJ
          have hf := (h3 _ hqz).2
          have hp : 2 ^ ((k + j) % 8) < 256 := Nat.lt_of_le_of_lt (Nat.pow_le_pow_right (by omega) (show (k + j) % 8 ≤ 7 by omega)) (by decide)
          have e1 : ((2 : Int) ^ ((k + j) % 8) % 256) = ((2 ^ ((k + j) % 8) : Nat) : Int) := by
            have : ((2 ^ ((k + j) % 8) : Nat) : Int) = (2 : Int) ^ ((k + j) % 8) := by simp
            rw [← this]
            generalize 2 ^ ((k + j) % 8) = q at *
            omega
          rw [e1]
          exact ⟨_, u8_xor_nat _ _ hf hp, rfl, Nat.xor_lt_two_pow (n := 8) hf hp⟩
        have o1 : OwnAt (wr.setCell ⟨cb, (k + j) / 8, none⟩ (.int .u8 v)) cb len (upn f ((k + j) / 8) v) := (unhide OJ).set hqz lv
        have t1 := touch_set wr cb ((k + j) / 8) (.int .u8 v)
        have c1 := Cx.mk ((unhide CJ).ready.keep t1 (by omega)) (below_touch (unhide CJ).below t1 (unhide CJ).below.size (fun i hi => by omega))
        have O1 := hide o1
        have C1 := hide c1
        have TJ1 := hide ((unhide TJ).hit (unhide HBT))
        rw [← unhide ev] at TJ1
        clear o1 t1 c1 OJ CJ TJ
        go_wp2
        go_roundw
        case rel => exact ⟨j + 1, _, by omega, by go_num, unhide O1, unhide C1, unhide TJ1⟩
        case measure => simp [intOf]; omega
    · obtain rfl : j = 32 := by omega
      have hne := (unhide TJ).sums hX (unhide HX0) (by omega)
      have HNE := hide hne
      clear hne
      go_wp2_with fail
      refine (sum_step w _ cb len (len + 9) f (unhide CJ) (unhide OJ) hcb (by omega)).mono ?_
      rintro e x1 ⟨rfl, c, _⟩
      have C1 := hide c
      clear c CJ OJ
      go_wp2_with fail
      refine (own_step w _ a len cap g (unhide C1) (unhide G) hlen).mono ?_
      rintro e x2 ⟨rfl, c, o, _⟩
      have C2 := hide c
      have O2 := hide o
      have l2 := (unhide C1).lt
      clear c o C1
      go_wp2_with fail
      refine (sum_step w _ x1.heap.size len (len + 9) g (unhide C2) (unhide O2) l2 (by omega)).mono ?_
      rintro e x3 ⟨rfl, c, _⟩
      have C3 := hide c
      clear c C2 O2
      go_wp2
      go_ret
      exact ⟨by have := unhide HNE; simp; omega, (unhide C3).below⟩

theorem crcTurned_walk (a : Option Addr) (len cap : Nat) (n X : Nat) (g : Nat → Nat) (w : World) (hn : n < 65536) (hX : X < 4294967296) (hg : BytesAt w a len g) (hlen : len ≤ 140737488351232) :
    Calls Try.prog 6 #[.slice a len cap, .int .u16 n, .int .u32 X] w fun e w' => e = .returned (.bool true) ∧ Below w.heap.size w w' := by
  by_cases h : X = 0 ∨ (¬ X = 0 ∧ len < 5)
  · exact crcTurned_short a len cap n X w h
  · exact crcTurned_long a len cap n X g w hn hX (by omega) (by omega) hg hlen
end Go.Proofs.Ytbojiafnapcgnab
