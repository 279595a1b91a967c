/-
  What gate.Marks' methods do in the run of one goroutine: Set, Clear, Has, Count. Conditions: the lock is free and the block holds 256 marks.
-/
import Derived.Test.YtbojiafnapcgnabMu
namespace Go.Proofs.Ytbojiafnapcgnab
open Go.RowKit

/-- How many of the first k are true. -/
def cnt (f : Nat → Bool) : Nat → Nat
  | 0 => 0
  | k + 1 => cnt f k + if f k then 1 else 0

theorem cnt_le (f : Nat → Bool) (k : Nat) : cnt f k ≤ k := by
  induction k with
  | zero => simp [cnt]
  | succ k ih => simp only [cnt]; split <;> omega

/-- f, but at i it is x. -/
def upd (f : Nat → Bool) (i : Nat) (x : Bool) : Nat → Bool := fun j => if j = i then x else f j

/-- The marks behind a turn of mark i to x; whether it was the other way; whether mark i is set. -/
def markSet (f : Nat → Bool) (i : Int) (x : Bool) : Nat → Bool := if 0 ≤ i ∧ i < 256 then upd f i.toNat x else f
def markTurns (f : Nat → Bool) (i : Int) (x : Bool) : Bool := decide (0 ≤ i ∧ i < 256) && (f i.toNat != x)
def markHas (f : Nat → Bool) (i : Int) : Bool := decide (0 ≤ i ∧ i < 256) && f i.toNat

/-- A block of a lock word, a second word and 256 marks, from cell h on. -/
structure MarksAt (w : World) (b h : Nat) (t : TypeId) (s : Option Int) (f : Nat → Bool) : Prop where
  ex : ∃ cs : Array Value, w.heap[b]? = some (.cells cs t) ∧ cs.size = h + 256 ∧ (∀ x, s = some x → cs[0]? = some (.int .i32 x)) ∧ ∀ i, i < 256 → cs[h + i]? = some (.bool (f i))

theorem MarksAt.lt {w : World} {b h : Nat} {t : TypeId} {s : Option Int} {f : Nat → Bool} (m : MarksAt w b h t s f) : b < w.heap.size := by
  obtain ⟨cs, h1, _⟩ := m.ex; exact lt_of_heap h1
theorem MarksAt.keep {w w' : World} {b h : Nat} {t : TypeId} {s : Option Int} {f : Nat → Bool} {S : Nat → Prop} (m : MarksAt w b h t s f) (tc : Touch S w w') (hs : ¬ S b) : MarksAt w' b h t s f := by
  obtain ⟨cs, h1, h2⟩ := m.ex; exact ⟨cs, tc.keep h1 hs, h2⟩
theorem MarksAt.drew {w : World} {b h : Nat} {t : TypeId} {s : Option Int} {f : Nat → Bool} (m : MarksAt w b h t s f) : MarksAt w.drew b h t s f := by
  obtain ⟨cs, h1, h2⟩ := m.ex; exact ⟨cs, h1, h2⟩
theorem MarksAt.lock {w : World} {b h : Nat} {t : TypeId} {x : Int} {f : Nat → Bool} (m : MarksAt w b h t (some x) f) : w.cell? ⟨b, 0, none⟩ = some (.int .i32 x) := by
  obtain ⟨cs, h1, h2, h3, h4⟩ := m.ex; rw [cell_of h1]; exact h3 x rfl
theorem MarksAt.cell {w : World} {b h : Nat} {t : TypeId} {s : Option Int} {f : Nat → Bool} (m : MarksAt w b h t s f) {i : Nat} (hi : i < 256) : w.cell? ⟨b, h + i, none⟩ = some (.bool (f i)) := by
  obtain ⟨cs, h1, h2, h3, h4⟩ := m.ex; rw [cell_of h1]; exact h4 i hi
theorem MarksAt.frozen {w : World} {b h : Nat} {t : TypeId} {s : Option Int} {f : Nat → Bool} (m : MarksAt w b h t s f) (i : Nat) : w.frozen? ⟨b, i, none⟩ = false := by
  obtain ⟨cs, h1, _⟩ := m.ex; exact frozen_of h1 i
theorem MarksAt.setLock {w : World} {b h : Nat} {t : TypeId} {x : Int} {f : Nat → Bool} (m : MarksAt w b h t (some x) f) (hh : 0 < h) (y : Int) : MarksAt (w.setCell ⟨b, 0, none⟩ (.int .i32 y)) b h t (some y) f := by
  obtain ⟨cs, h1, h2, h3, h4⟩ := m.ex
  refine ⟨_, heap_set h1 0 _, by simpa using h2, fun z hz => ?_, fun i hi => ?_⟩
  · obtain rfl : y = z := by simpa using hz
    rw [Array.getElem?_setIfInBounds, if_pos rfl, if_pos (by omega)]
  · rw [Array.getElem?_setIfInBounds, if_neg (by omega)]; exact h4 i hi
theorem MarksAt.setMark {w : World} {b h : Nat} {t : TypeId} {s : Option Int} {f : Nat → Bool} (m : MarksAt w b h t s f) (hh : s.isSome = true → 0 < h) {i : Nat} (hi : i < 256) (x : Bool) : MarksAt (w.setCell ⟨b, h + i, none⟩ (.bool x)) b h t s (upd f i x) := by
  obtain ⟨cs, h1, h2, h3, h4⟩ := m.ex
  refine ⟨_, heap_set h1 (h + i) _, by simpa using h2, fun z hz => ?_, fun j hj => ?_⟩
  · have := hh (by rw [hz]; rfl)
    rw [Array.getElem?_setIfInBounds, if_neg (by omega)]; exact h3 z hz
  · rw [Array.getElem?_setIfInBounds]
    unfold upd
    by_cases e : j = i
    · subst e; rw [if_pos rfl, if_pos (by omega), if_pos rfl]
    · rw [if_neg (by omega), if_neg e]; exact h4 j hj

theorem isMark_any (i : Int) (w : World) :
    Calls Try.prog 34 #[.int .i64 i] w fun e w' => e = .returned (.bool (decide (0 ≤ i ∧ i < 256))) ∧ w' = w := by
  by_cases h0 : 0 ≤ i
  · by_cases h1 : i < 256
    · go_enter Try.func34, Try.ntmps34
      go_wp2
      go_ret
      exact ⟨by simp [h0, h1], rfl⟩
    · go_enter Try.func34, Try.ntmps34
      go_wp2
      go_ret
      exact ⟨by simp; omega, rfl⟩
  · go_enter Try.func34, Try.ntmps34
    go_wp2
    go_ret
    exact ⟨by simp; omega, rfl⟩

theorem turn_nil (i : Int) (x : Bool) (w : World) :
    Calls Try.prog 33 #[.pointer none, .int .i64 i, .bool x] w fun e w' => e = .returned (.bool false) ∧ w' = w := by
  go_enter_defers Try.func33, Try.ntmps33
  go_wp2
  exact ⟨_, results_tmp rfl _ _ _, rfl, rfl⟩

theorem turn_out (b : Nat) (i : Int) (x : Bool) (w : World) (hi : decide (0 ≤ i ∧ i < 256) = false) :
    Calls Try.prog 33 #[.pointer (some ⟨b, 0, none⟩), .int .i64 i, .bool x] w fun e w' => e = .returned (.bool false) ∧ w' = w := by
  go_enter_defers Try.func33, Try.ntmps33
  go_wp2_with (go_at_call 34; refine (isMark_any _ _).mono ?_; rw [hi]; rintro e w' ⟨rfl, rfl⟩)
  exact ⟨_, results_tmp rfl _ _ _, rfl, rfl⟩

set_option maxRecDepth 100000 in
set_option maxHeartbeats 800000 in
theorem turn_in (b i : Nat) (x : Bool) (f : Nat → Bool) (w : World) (hi : i < 256) (m : MarksAt w b 2 79 (some 0) f) :
    Calls Try.prog 33 #[.pointer (some ⟨b, 0, none⟩), .int .i64 i, .bool x] w fun e w' => e = .returned (.bool (f i != x)) ∧ MarksAt w' b 2 79 (some 0) (upd f i x) ∧ Touch (· = b) w w' := by
  have hd : decide (0 ≤ (i : Int) ∧ (i : Int) < 256) = true := by simp; omega
  have hi' : (i : Int) < 256 := by omega
  have l0 := m.lock
  have z0 := m.frozen 0
  have m1 := m.setLock (by omega) 1
  have t1 : Touch (· = b) w (w.setCell ⟨b, 0, none⟩ (.int .i32 1)) := touch_set _ _ _ _
  have c1 := m1.cell hi
  have g1 := m1.frozen (2 + i)
  have M1 := hide m1
  have T1 := hide t1
  clear m m1 t1
  go_enter_defers Try.func33, Try.ntmps33
  go_wp2_with (go_at_call 34; refine (isMark_any _ _).mono ?_; rw [hd]; rintro e w' ⟨rfl, rfl⟩)
  refine (lock_free ⟨b, 0, none⟩ _ l0 z0).mono ?_
  rintro e w1 ⟨rfl, rfl⟩
  go_wp2_with fail
  refine leaves_cons (f := 36) (args := #[.pointer (some ⟨b, 0, none⟩)]) (by simp) (by simp [go_sem]) ?_
  have m2 := (unhide M1).setMark (by simp) hi x
  have t2 := (unhide T1).trans (touch_set _ b (2 + i) (.bool x))
  refine (unlock_deferred ⟨b, 0, none⟩ .returning _ m2.lock (m2.frozen 0)).mono ?_
  rintro e u' w'' ⟨rfl, rfl, rfl⟩
  exact ⟨_, results_tmp rfl _ _ _, rfl, m2.setLock (by omega) 0, t2.trans (touch_set _ _ _ _)⟩

theorem turn_any (b : Nat) (i : Int) (x : Bool) (f : Nat → Bool) (w : World) (m : MarksAt w b 2 79 (some 0) f) :
    Calls Try.prog 33 #[.pointer (some ⟨b, 0, none⟩), .int .i64 i, .bool x] w fun e w' =>
      e = .returned (.bool (markTurns f i x)) ∧ MarksAt w' b 2 79 (some 0) (markSet f i x) ∧ Touch (· = b) w w' := by
  by_cases hi : 0 ≤ i ∧ i < 256
  · obtain ⟨n, rfl⟩ := Int.eq_ofNat_of_zero_le hi.1
    refine (turn_in b n x f w (by omega) m).mono ?_
    rintro e w' ⟨rfl, h1, h2⟩
    have e1 : markSet f n x = upd f n x := by unfold markSet; rw [if_pos hi]; rfl
    have e2 : markTurns f n x = (f n != x) := by unfold markTurns; rw [decide_eq_true hi]; rfl
    rw [e1, e2]
    exact ⟨rfl, h1, h2⟩
  · refine (turn_out b i x w (decide_eq_false hi)).mono ?_
    rintro e w' ⟨rfl, rfl⟩
    have e1 : markSet f i x = f := by unfold markSet; rw [if_neg hi]
    have e2 : markTurns f i x = false := by unfold markTurns; rw [decide_eq_false hi]; rfl
    rw [e1, e2]
    exact ⟨rfl, m, Touch.refl _ _⟩

theorem set_any (b : Nat) (i : Int) (f : Nat → Bool) (w : World) (m : MarksAt w b 2 79 (some 0) f) :
    Calls Try.prog 16 #[.pointer (some ⟨b, 0, none⟩), .int .i64 i] w fun e w' =>
      e = .returned (.bool (markTurns f i true)) ∧ MarksAt w' b 2 79 (some 0) (markSet f i true) ∧ Touch (· = b) w w' := by
  have K := hide (turn_any b i true f w m)
  clear m
  go_enter Try.func16, Try.ntmps16
  go_wp2_with fail
  refine (unhide K).mono ?_
  rintro e w1 ⟨rfl, h1⟩
  have H1 := hide h1
  clear h1 K
  go_wp2
  go_ret
  exact ⟨rfl, unhide H1⟩

theorem clear_any (b : Nat) (i : Int) (f : Nat → Bool) (w : World) (m : MarksAt w b 2 79 (some 0) f) :
    Calls Try.prog 17 #[.pointer (some ⟨b, 0, none⟩), .int .i64 i] w fun e w' =>
      e = .returned (.bool (markTurns f i false)) ∧ MarksAt w' b 2 79 (some 0) (markSet f i false) ∧ Touch (· = b) w w' := by
  have K := hide (turn_any b i false f w m)
  clear m
  go_enter Try.func17, Try.ntmps17
  go_wp2_with fail
  refine (unhide K).mono ?_
  rintro e w1 ⟨rfl, h1⟩
  have H1 := hide h1
  clear h1 K
  go_wp2
  go_ret
  exact ⟨rfl, unhide H1⟩

theorem setclear_nil (i : Int) (w : World) :
    (Calls Try.prog 16 #[.pointer none, .int .i64 i] w fun e w' => e = .returned (.bool false) ∧ w' = w) ∧
    (Calls Try.prog 17 #[.pointer none, .int .i64 i] w fun e w' => e = .returned (.bool false) ∧ w' = w) := by
  constructor
  · go_enter Try.func16, Try.ntmps16
    go_wp2_with (go_at_call 33; refine (turn_nil _ _ _).mono ?_; rintro e w' ⟨rfl, rfl⟩)
    go_ret
    exact ⟨rfl, rfl⟩
  · go_enter Try.func17, Try.ntmps17
    go_wp2_with (go_at_call 33; refine (turn_nil _ _ _).mono ?_; rintro e w' ⟨rfl, rfl⟩)
    go_ret
    exact ⟨rfl, rfl⟩

theorem has_nil (i : Int) (w : World) :
    Calls Try.prog 18 #[.pointer none, .int .i64 i] w fun e w' => e = .returned (.bool false) ∧ w' = w := by
  go_enter_defers Try.func18, Try.ntmps18
  go_wp2
  exact ⟨_, results_tmp rfl _ _ _, rfl, rfl⟩

theorem has_out (b : Nat) (i : Int) (w : World) (hi : decide (0 ≤ i ∧ i < 256) = false) :
    Calls Try.prog 18 #[.pointer (some ⟨b, 0, none⟩), .int .i64 i] w fun e w' => e = .returned (.bool false) ∧ w' = w := by
  go_enter_defers Try.func18, Try.ntmps18
  go_wp2_with (go_at_call 34; refine (isMark_any _ _).mono ?_; rw [hi]; rintro e w' ⟨rfl, rfl⟩)
  exact ⟨_, results_tmp rfl _ _ _, rfl, rfl⟩

set_option maxRecDepth 100000 in
set_option maxHeartbeats 800000 in
theorem has_in (b i : Nat) (f : Nat → Bool) (w : World) (hi : i < 256) (m : MarksAt w b 2 79 (some 0) f) :
    Calls Try.prog 18 #[.pointer (some ⟨b, 0, none⟩), .int .i64 i] w fun e w' => e = .returned (.bool (f i)) ∧ MarksAt w' b 2 79 (some 0) f ∧ Touch (· = b) w w' := by
  have hd : decide (0 ≤ (i : Int) ∧ (i : Int) < 256) = true := by simp; omega
  have hi' : (i : Int) < 256 := by omega
  have l0 := m.lock
  have z0 := m.frozen 0
  have m1 := m.setLock (by omega) 1
  have t1 : Touch (· = b) w (w.setCell ⟨b, 0, none⟩ (.int .i32 1)) := touch_set _ _ _ _
  have c1 := m1.cell hi
  have M1 := hide m1
  have T1 := hide t1
  clear m m1 t1
  go_enter_defers Try.func18, Try.ntmps18
  go_wp2_with (go_at_call 34; refine (isMark_any _ _).mono ?_; rw [hd]; rintro e w' ⟨rfl, rfl⟩)
  refine (lock_free ⟨b, 0, none⟩ _ l0 z0).mono ?_
  rintro e w1 ⟨rfl, rfl⟩
  go_wp2_with fail
  refine leaves_cons (f := 36) (args := #[.pointer (some ⟨b, 0, none⟩)]) (by simp) (by simp [go_sem]) ?_
  refine (unlock_deferred ⟨b, 0, none⟩ .returning _ (unhide M1).lock ((unhide M1).frozen 0)).mono ?_
  rintro e u' w'' ⟨rfl, rfl, rfl⟩
  exact ⟨_, results_tmp rfl _ _ _, rfl, (unhide M1).setLock (by omega) 0, (unhide T1).trans (touch_set _ _ _ _)⟩

theorem has_any (b : Nat) (i : Int) (f : Nat → Bool) (w : World) (m : MarksAt w b 2 79 (some 0) f) :
    Calls Try.prog 18 #[.pointer (some ⟨b, 0, none⟩), .int .i64 i] w fun e w' =>
      e = .returned (.bool (markHas f i)) ∧ MarksAt w' b 2 79 (some 0) f ∧ Touch (· = b) w w' := by
  by_cases hi : 0 ≤ i ∧ i < 256
  · obtain ⟨n, rfl⟩ := Int.eq_ofNat_of_zero_le hi.1
    refine (has_in b n f w (by omega) m).mono ?_
    rintro e w' ⟨rfl, h1, h2⟩
    have e2 : markHas f n = f n := by unfold markHas; rw [decide_eq_true hi]; rfl
    rw [e2]
    exact ⟨rfl, h1, h2⟩
  · refine (has_out b i w (decide_eq_false hi)).mono ?_
    rintro e w' ⟨rfl, rfl⟩
    have e2 : markHas f i = false := by unfold markHas; rw [decide_eq_false hi]; rfl
    rw [e2]
    exact ⟨rfl, m, Touch.refl _ _⟩

theorem count_nil (w : World) :
    Calls Try.prog 19 #[.pointer none] w fun e w' => e = .returned (.int .i64 0) ∧ w' = w := by
  go_enter_defers Try.func19, Try.ntmps19
  go_wp2
  exact ⟨_, results_tmp rfl _ _ _, rfl, rfl⟩

set_option maxRecDepth 100000 in
set_option maxHeartbeats 800000 in
theorem count_any (b : Nat) (f : Nat → Bool) (w : World) (m : MarksAt w b 2 79 (some 0) f) :
    Calls Try.prog 19 #[.pointer (some ⟨b, 0, none⟩)] w fun e w' => e = .returned (.int .i64 (cnt f 256)) ∧ MarksAt w' b 2 79 (some 0) f ∧ Touch (· = b) w w' := by
  have l0 := m.lock
  have z0 := m.frozen 0
  have m1 := m.setLock (by omega) 1
  have t1 : Touch (· = b) w (w.setCell ⟨b, 0, none⟩ (.int .i32 1)) := touch_set _ _ _ _
  have M1 := hide m1
  have T1 := hide t1
  clear m m1 t1
  go_enter_defers Try.func19, Try.ntmps19
  go_wp2_with fail
  refine (lock_free ⟨b, 0, none⟩ _ l0 z0).mono ?_
  rintro e w1 ⟨rfl, rfl⟩
  generalize w.setCell ⟨b, 0, none⟩ (.int .i32 1) = w1 at *
  go_wp2_with fail
  go_loop [3, 14] (fun c i => ∃ k : Nat, k ≤ 256 ∧ i = .int .i64 k ∧ c = .int .i64 (cnt f k)) (fun _ i => 256 - (intOf i).toNat)
  case atStart => exact ⟨0, Nat.zero_le _, rfl, rfl⟩
  case round =>
    obtain ⟨k, hk, rfl, rfl⟩ := hrel
    have hle := cnt_le f k
    by_cases hlt : k < 256
    · have c1 := (unhide M1).cell hlt
      have hs : Hid (cnt f (k + 1) = cnt f k + if f k then 1 else 0) := rfl
      cases hfk : f k
      all_goals
        rw [hfk] at c1 hs
        have HF := hide hfk
        clear hfk
        go_wp2
        go_round
        case rel => exact ⟨k + 1, by omega, by go_num, by rw [unhide hs]; simp⟩
        case measure => simp [intOf]; omega
    · have e : k = 256 := by omega
      subst e
      go_wp2
      refine leaves_cons (f := 36) (args := #[.pointer (some ⟨b, 0, none⟩)]) (by simp) (by simp [go_sem]) ?_
      refine (unlock_deferred ⟨b, 0, none⟩ .returning _ (unhide M1).lock ((unhide M1).frozen 0)).mono ?_
      rintro e u' w'' ⟨rfl, rfl, rfl⟩
      exact ⟨_, results_tmp rfl _ _ _, rfl, (unhide M1).setLock (by omega) 0, (unhide T1).trans (touch_set _ _ _ _)⟩
end Go.Proofs.Ytbojiafnapcgnab
