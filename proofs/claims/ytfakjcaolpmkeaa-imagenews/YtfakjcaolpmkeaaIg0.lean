/-
  Lists of ints: Contains, Clone, IndexFunc and ContainsFunc at them, in plain words. Conditions: as each says.
-/
import Derived.Test.YtfakjcaolpmkeaaWd8
import Derived.Test.YtfakjcaolpmkeaaCtrI
import Derived.Test.YtfakjcaolpmkeaaSh13
import Derived.Maps.OwnSet
import Derived.Deep.RegionWith
import Derived.Deep.RegionHeld3
import Derived.Deep.RegionLaw
import Derived.BigQuiet
import Derived.Deep.Onto
namespace Go.Proofs.Ytfakjcaolpmkeaa
open Go.RowKit Go.Maps
set_option linter.unusedVariables false

def ints (l : List Int) : List Value := l.map (Value.int .i64)
theorem ints_len (l : List Int) : (ints l).length = l.length := by simp [ints]
theorem ints_at {l : List Int} {j : Nat} (h : j < l.length) : (ints l)[j]? = some (.int .i64 (l.getD j 0)) := by simp [ints, List.getD, h]
/-- A row of ints of one's own. -/
def IL (w : World) (v : Value) (l : List Int) : Prop := Own w 3 v (ints l)
theorem IL.nil (w : World) : IL w (.slice none 0 0) [] := Own.nil _ _
theorem IL.lt {w : World} {v : Value} {l : List Int} (h : IL w v l) : ∀ k, v.ownBlock = some k → k < w.heap.size := Own.lt h
theorem IL.keep {w w' : World} {v : Value} {l : List Int} {S : Nat → Prop} (h : IL w v l) (t : Touch S w w') (hs : ∀ k, v.ownBlock = some k → ¬ S k) : IL w' v l := Own.keep h t hs
theorem IL.later {w w' : World} {v : Value} {l : List Int} (h : IL w v l) (hb : Below w.heap.size w w') : IL w' v l := Own.later h hb
theorem IL.heap {w : World} {v : Value} {l : List Int} (h : IL w v l) {k : Nat} (hk : v.ownBlock = some k) : ∃ cs, w.heap[k]? = some (.cells cs 3) :=
  Wide.heap (n := (ints l).length) (sz := 1) (xs := ints l) h hk
theorem IL.iat {w : World} {v : Value} {l : List Int} (h : IL w v l) : ∃ a c, v = .slice a l.length c ∧ IAt w a l ∧ l.length ≤ c ∧ c ≤ maxLen ∧ (a = none → c = 0) ∧ (∀ x, a = some x → v.ownBlock = some x.block) := by
  obtain ⟨a, cap, e, h1, h2, h3, h4, h5⟩ := Own.parts h
  rw [ints_len] at e h1 h5
  refine ⟨a, cap, e, fun i hi => ?_, h1, h2, h3, h4⟩
  obtain ⟨g, ha, hg, hc⟩ := h5 i hi
  refine ⟨g, 0, ha, hg, ?_⟩
  rw [Nat.zero_add]
  exact hc.1.trans (ints_at hi)
theorem IL.len {w : World} {v : Value} {l : List Int} (h : IL w v l) : l.length ≤ maxLen := by
  obtain ⟨a, c, _, _, h1, h2, _⟩ := h.iat
  omega

theorem contains_any {w : World} {a : Option Addr} {l : List Int} {c : Nat} (x : Int) (h : IAt w a l) (hl : l.length ≤ maxLen) :
    Calls Try.prog 34 #[.slice a l.length c, .int .i64 x] w fun e w' => e = .returned (.bool (l.contains x)) ∧ w' = w := by
  match l, h, hl with
  | [], h, hl =>
    have K := Any.slices_Contains_int_empty Try.lays107 a c x w
    change Calls Try.prog 34 _ _ _ at K
    simpa using K
  | y :: r, h, hl =>
    obtain ⟨b, off, rfl, _, _⟩ := h 0 (by simp)
    have K := Any.slices_Contains_int Try.lays107 b off (y :: r).length c (y :: r) x w (Nat.le_refl _) (by unfold maxLen at hl; omega) (fun j hj => by
      obtain ⟨b', off', e, _, hc⟩ := h j hj
      cases e
      exact hc)
    change Calls Try.prog 34 _ _ _ at K
    rw [List.take_length] at K
    exact K

theorem clonei_any {w : World} {a : Option Addr} {l : List Int} {c : Nat} (h : IAt w a l) (hl : l.length * 8 ≤ 140737488355328) (h0 : a = none → l = []) :
    Calls Try.prog 25 #[.slice a l.length c] w fun e w' => ∃ v, e = .returned v ∧ IL w' v l ∧ New w v ∧ Below w.heap.size w w' := by
  match a, h, h0 with
  | none, h, h0 =>
    obtain rfl := h0 rfl
    have K := Any.slices_Clone_int_nil Try.lays215 0 c w
    change Calls Try.prog 25 _ _ _ at K
    refine K.mono ?_
    rintro e w' ⟨rfl, rfl⟩
    exact ⟨_, rfl, IL.nil _, New.nil _, Below.refl _ _⟩
  | some x, h, h0 =>
    match l, h, hl with
    | [], h, hl =>
      have K := Any.slices_Clone_int_zero Try.lays215 x c w
      change Calls Try.prog 25 _ _ _ at K
      refine K.mono ?_
      rintro e w' ⟨v, rfl, h1, _, h3⟩
      exact ⟨v, rfl, World.ownsRow.mono h1 (Nat.zero_le _), fun k hk => (World.ownsRow.lt h1 k hk).1, h3⟩
    | y :: r, h, hl =>
      obtain ⟨b, off, e, _, _⟩ := h 0 (by simp)
      cases e
      have K := Any.slices_Clone_int Try.lays215 b off (y :: r).length c (y :: r) w (Nat.le_refl _) hl (fun j hj => by
        obtain ⟨b', off', e, _, hc⟩ := h j hj
        cases e
        exact hc)
      change Calls Try.prog 25 _ _ _ at K
      rw [List.take_length] at K
      refine K.mono ?_
      rintro e w' ⟨v, rfl, h1, _, h3⟩
      refine ⟨v, rfl, ?_, fun k hk => (World.ownsRow.lt h1 k hk).1, h3⟩
      have h2 := World.ownsRow.mono h1 (Nat.zero_le _)
      show World.ownsRow _ _ _ _ _ _ _
      rw [ints_len]
      exact h2

/-- The place of the first one of which p holds, or -1. -/
def idxI (p : Int → Bool) : List Int → Int
  | [] => -1
  | x :: r => if p x then 0 else (if idxI p r = -1 then -1 else idxI p r + 1)
theorem idxI_none {p : Int → Bool} {l : List Int} (h : ∀ j, j < l.length → p (l.getD j 0) = false) : idxI p l = -1 := by
  induction l with
  | nil => rfl
  | cons x r ih =>
    have h0 : p x = false := h 0 (by simp)
    have h1 := ih (fun j hj => by have := h (j + 1) (by simpa using hj); simpa using this)
    simp [idxI, h0, h1]
theorem idxI_hit {p : Int → Bool} {l : List Int} {k : Nat} (hk : k < l.length) (h : ∀ j, j < k → p (l.getD j 0) = false) (ht : p (l.getD k 0) = true) : idxI p l = (k : Int) := by
  induction l generalizing k with
  | nil => simp at hk
  | cons x r ih =>
    cases k with
    | zero => have : p x = true := by simpa using ht
              simp [idxI, this]
    | succ k =>
      have h0 : p x = false := by simpa using h 0 (by omega)
      have h1 := ih (k := k) (by simpa using hk) (fun j hj => by have := h (j + 1) (by omega); simpa using this) (by simpa using ht)
      have h2 : ((k : Int)) ≠ -1 := by omega
      simp [idxI, h0, h1, h2]
theorem getDi_mem {l : List Int} {k : Nat} (h : k < l.length) : l.getD k 0 ∈ l := by
  have e : l.getD k 0 = l[k] := by simp [List.getD, h]
  rw [e]; exact List.getElem_mem h
/-- What a function value that is handed on answers: it only reads. -/
def Tells (w : World) (g : Nat) (pre lb : Array Value) (l : List Int) (p : Int → Bool) : Prop :=
  ∀ x ∈ l, ∀ W, Touch (fun _ => False) w W → Calls Try.prog g (pre ++ #[.int .i64 x] ++ lb) W fun e W' => e = .returned (.bool (p x)) ∧ Touch (fun _ => False) W W'
set_option maxHeartbeats 1000000 in
theorem indexF_any {w : World} {a : Option Addr} {l : List Int} {c g : Nat} {pre lb : Array Value} {p : Int → Bool} (eg : ∀ args w, (callFunc g args).run Try.prog w = .ok (.enter g args) w) (h : IAt w a l) (hl : l.length ≤ maxLen) (hp : Tells w g pre lb l p) :
    Calls Try.prog 57 #[.slice a l.length c, .func (.func g) pre lb] w fun e w' => e = .returned (.int .i64 (idxI p l)) ∧ Touch (fun _ => False) w w' := by
  have H := hide h
  have HP := hide hp
  have HL := hide hl
  generalize hn : l.length = n
  have HN := hide hn
  clear h hp hl hn
  go_enter Try.func57, Try.ntmps57
  go_wp2
  go_loopg [5, 8] n (fun gg _ s8 wr => ∃ kk : Nat, kk ≤ n ∧ n - kk ≤ gg ∧ s8 = .int .i64 kk ∧ Hid (Touch (fun _ => False) w wr) ∧ Hid (∀ j, j < kk → p (l.getD j 0) = false))
  case atStart => exact ⟨0, Nat.zero_le _, by omega, rfl, hide (Touch.refl _ _), hide (fun j hj => absurd hj (Nat.not_lt_zero _))⟩
  case round =>
    obtain ⟨kk, hkk, hg, rfl, T, A⟩ := hrel
    by_cases hlt : kk < n
    · have hltz : (kk : Int) < (n : Int) := by omega
      have hk' : kk < l.length := by rw [unhide HN]; exact hlt
      have hbig : n ≤ 9223372036854775807 := by have := unhide HL; rw [unhide HN] at this; unfold maxLen at this; omega
      obtain ⟨b, off, rfl, hb0, hcell⟩ := (IAt.keep (unhide H) (unhide T) (fun _ _ _ hf => hf)) kk hk'
      clear hk'
      have hcall := hide (unhide HP (l.getD kk 0) (getDi_mem (by rw [unhide HN]; exact hlt)) _ (unhide T))
      generalize hy : l.getD kk 0 = y at hcell hcall
      have B := hide hy
      clear hy hb0
      cases hq : p y with
      | true =>
        rw [hq] at hcall
        go_wp2_with (go_at_fn g; refine (unhide hcall).mono ?_; rintro e w' ⟨rfl, t2⟩)
        go_ret
        refine ⟨?_, (unhide T).trans t2⟩
        rw [idxI_hit (k := kk) (by rw [unhide HN]; exact hlt) (unhide A) (by rw [unhide B]; exact hq)]
        rfl
      | false =>
        rw [hq] at hcall
        go_wp2_with (go_at_fn g; refine (unhide hcall).mono ?_; rintro e w' ⟨rfl, t2⟩; have T2 := hide t2; clear t2)
        go_roundg (n - (kk + 1))
        case measure => omega
        case rel =>
          refine ⟨kk + 1, by omega, by omega, by go_num, hide ((unhide T).trans (unhide T2)), hide (fun j hj => ?_)⟩
          by_cases e : j = kk
          · subst e
            rw [unhide B]; exact hq
          · exact unhide A j (by omega)
    · have hltz : ¬ (kk : Int) < (n : Int) := by omega
      go_wp2
      go_ret
      refine ⟨?_, unhide T⟩
      have e : kk = n := by omega
      rw [idxI_none (fun j hj => unhide A j (by rw [unhide HN] at hj; omega))]
      rfl
theorem idxI_any (p : Int → Bool) (l : List Int) : decide (0 ≤ idxI p l) = l.any p ∧ (idxI p l = -1 ∨ 0 ≤ idxI p l) := by
  induction l with
  | nil => exact ⟨rfl, .inl rfl⟩
  | cons x r ih =>
    obtain ⟨h1, h2⟩ := ih
    cases hx : p x with
    | true => simp [idxI, hx]
    | false =>
      rw [List.any_cons, hx, Bool.false_or, ← h1]
      rcases h2 with h2 | h2
      · simp [idxI, hx, h2]
      · have h3 : idxI p r ≠ -1 := by omega
        refine ⟨?_, .inr ?_⟩
        · simp only [idxI, hx, h3, if_false, Bool.false_eq_true]; exact decide_eq_decide.2 (by omega)
        · simp only [idxI, hx, h3, if_false, Bool.false_eq_true]; omega
theorem containsF_any {w : World} {a : Option Addr} {l : List Int} {c g : Nat} {pre lb : Array Value} {p : Int → Bool} (eg : ∀ args w, (callFunc g args).run Try.prog w = .ok (.enter g args) w) (h : IAt w a l) (hl : l.length ≤ maxLen) (hp : Tells w g pre lb l p) :
    Calls Try.prog 36 #[.slice a l.length c, .func (.func g) pre lb] w fun e w' => e = .returned (.bool (l.any p)) ∧ Touch (fun _ => False) w w' := by
  have K := hide (indexF_any (c := c) eg h hl hp)
  have E := (idxI_any p l).1
  clear h hl hp
  generalize l.length = n at *
  generalize idxI p l = r at *
  rw [← E]
  clear E
  go_enter Try.func36, Try.ntmps36
  go_wp2_with (go_at_call 57; refine (unhide K).mono ?_; rintro e w' ⟨rfl, t2⟩)
  go_ret
  exact ⟨by simp, t2⟩
end Go.Proofs.Ytfakjcaolpmkeaa
