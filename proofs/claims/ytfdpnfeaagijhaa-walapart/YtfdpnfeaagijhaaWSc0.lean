/-
  Frames behind one another as plain functions on lists: what is scanned of them, of their beginnings, and of one that doesn't fit its sum. No Go text is read here. No conditions.
-/
import Derived.Test.YtfdpnfeaagijhaaWFr3

namespace Go.Proofs.Ytfdpnfeaagijhaa
variable {Xo : Outer}
open Go.RowKit
set_option linter.unusedVariables false

theorem dec_ok {t : List Nat} (h : (dec t).2.2 = 0) : (dec t).2.1 = 8 + (dec t).1.length ∧ (dec t).2.1 ≤ t.length ∧ (dec t).1.length ≤ 4096 := by
  have hD : dec t = if t.length < 8 then ([], 0, 6) else if 4096 < unfix t 0 then ([], 0, 2) else if t.length < 8 + unfix t 0 then ([], 0, 6) else if sm ((t.drop 8).take (unfix t 0)) = unfix t 4 then ((t.drop 8).take (unfix t 0), 8 + unfix t 0, 0) else ([], 0, 8) := rfl
  generalize dec t = D at *
  by_cases h1 : t.length < 8
  · rw [if_pos h1] at hD; subst hD; cases h
  rw [if_neg h1] at hD
  by_cases h2 : 4096 < unfix t 0
  · rw [if_pos h2] at hD; subst hD; cases h
  rw [if_neg h2] at hD
  by_cases h3 : t.length < 8 + unfix t 0
  · rw [if_pos h3] at hD; subst hD; cases h
  rw [if_neg h3] at hD
  by_cases h4 : sm ((t.drop 8).take (unfix t 0)) = unfix t 4
  · rw [if_pos h4] at hD
    subst hD
    simp only [List.length_take, List.length_drop]
    omega
  · rw [if_neg h4] at hD; subst hD; cases h

/-- The frames at the front: their payloads, how many bytes they have, what ends them. -/
def scan (t : List Nat) : List (List Nat) × Nat × Nat :=
  if h : t = [] then ([], 0, 0)
  else if hd : (dec t).2.2 = 0 then ((dec t).1 :: (scan (t.drop (dec t).2.1)).1, (dec t).2.1 + (scan (t.drop (dec t).2.1)).2.1, (scan (t.drop (dec t).2.1)).2.2)
  else ([], 0, (dec t).2.2)
termination_by t.length
decreasing_by all_goals
  have := dec_ok hd
  rw [List.length_drop]
  omega

theorem scan_nil : scan [] = ([], 0, 0) := by rw [scan, dif_pos rfl]
theorem scan_bad {t : List Nat} (h : t ≠ []) (hd : (dec t).2.2 ≠ 0) : scan t = ([], 0, (dec t).2.2) := by rw [scan, dif_neg h, dif_neg hd]
theorem scan_more {t : List Nat} (h : t ≠ []) (hd : (dec t).2.2 = 0) : scan t = ((dec t).1 :: (scan (t.drop (dec t).2.1)).1, (dec t).2.1 + (scan (t.drop (dec t).2.1)).2.1, (scan (t.drop (dec t).2.1)).2.2) := by rw [scan, dif_neg h, dif_pos hd]

/-- As far as one has come. -/
def Scanned (t : List Nat) (p : Nat) (ls : List (List Nat)) : Prop := p ≤ t.length ∧ 8 * ls.length ≤ p ∧ (∀ x ∈ ls, x.length ≤ 4096) ∧ scan t = (ls ++ (scan (t.drop p)).1, p + (scan (t.drop p)).2.1, (scan (t.drop p)).2.2)
theorem Scanned.start (t : List Nat) : Scanned t 0 [] := ⟨Nat.zero_le _, Nat.zero_le _, (fun x hx => by cases hx), by simp⟩
theorem Scanned.step {t : List Nat} {p : Nat} {ls : List (List Nat)} (h : Scanned t p ls) (hp : p < t.length) (hd : (dec (t.drop p)).2.2 = 0) : Scanned t (p + (dec (t.drop p)).2.1) (ls ++ [(dec (t.drop p)).1]) := by
  obtain ⟨h1, h2, h3, h4⟩ := h
  have hne : t.drop p ≠ [] := fun e => by have := congrArg List.length e; simp at this; omega
  have ho := dec_ok hd
  rw [List.length_drop] at ho
  refine ⟨by omega, ?_, ?_, ?_⟩
  · rw [List.length_append, List.length_singleton]; omega
  · intro x hx
    rcases List.mem_append.1 hx with e | e
    · exact h3 x e
    · rw [List.mem_singleton] at e; subst e; exact ho.2.2
  · rw [h4, scan_more hne hd, List.drop_drop]
    simp [Nat.add_assoc]
theorem Scanned.stop {t : List Nat} {p : Nat} {ls : List (List Nat)} (h : Scanned t p ls) (hp : p < t.length) (hd : (dec (t.drop p)).2.2 ≠ 0) : scan t = (ls, p, (dec (t.drop p)).2.2) := by
  have hne : t.drop p ≠ [] := fun e => by have := congrArg List.length e; simp at this; omega
  rw [h.2.2.2, scan_bad hne hd]; simp
theorem Scanned.end {t : List Nat} {p : Nat} {ls : List (List Nat)} (h : Scanned t p ls) (hp : ¬ p < t.length) : scan t = (ls, p, 0) := by
  have e : t.drop p = [] := List.drop_eq_nil_of_le (by omega)
  rw [h.2.2.2, e, scan_nil]; simp

/-- Frames behind one another. -/
def frames : List (List Nat) → List Nat
  | [] => []
  | p :: r => fenc p ++ frames r
theorem frames_app (a b : List (List Nat)) : frames (a ++ b) = frames a ++ frames b := by
  induction a with
  | nil => rfl
  | cons p r ih => simp [frames, ih]
theorem frames_one (p : List Nat) : frames [p] = fenc p := by simp [frames]
theorem frames_len_le {ls : List (List Nat)} (h : ∀ p ∈ ls, p.length ≤ 4096) : (frames ls).length ≤ 4104 * ls.length := by
  induction ls with
  | nil => simp [frames]
  | cons p r ih =>
    have := ih (fun q hq => h q (List.mem_cons_of_mem _ hq))
    have := h p (List.mem_cons_self ..)
    simp only [frames, List.length_append, fenc_len, List.length_cons]
    omega
theorem frames_len_ge (ls : List (List Nat)) : 8 * ls.length ≤ (frames ls).length := by
  induction ls with
  | nil => simp [frames]
  | cons p r ih => simp only [frames, List.length_append, fenc_len, List.length_cons]; omega
theorem fenc_ne (p u : List Nat) : fenc p ++ u ≠ [] := fun e => by have := congrArg List.length e; rw [List.length_append, fenc_len] at this; simp at this

theorem scan_frames {ls : List (List Nat)} (h : ∀ p ∈ ls, p.length ≤ 4096) (u : List Nat) : scan (frames ls ++ u) = (ls ++ (scan u).1, (frames ls).length + (scan u).2.1, (scan u).2.2) := by
  induction ls with
  | nil => simp [frames]
  | cons p r ih =>
    have hp := h p (List.mem_cons_self ..)
    have e := dec_fenc hp (frames r ++ u)
    have ed : (fenc p ++ (frames r ++ u)).drop (8 + p.length) = frames r ++ u := by rw [← fenc_len, List.drop_left]
    have i := ih (fun q hq => h q (List.mem_cons_of_mem _ hq))
    show scan ((fenc p ++ frames r) ++ u) = _
    rw [List.append_assoc, scan_more (fenc_ne p _) (by rw [e]), e]
    simp only
    rw [ed, i]
    simp only [frames, List.length_append, fenc_len, List.cons_append]
    rw [Nat.add_assoc (8 + p.length)]
theorem scan_whole {ls : List (List Nat)} (h : ∀ p ∈ ls, p.length ≤ 4096) : scan (frames ls) = (ls, (frames ls).length, 0) := by
  have := scan_frames h []
  rw [List.append_nil, scan_nil] at this
  simpa using this

theorem dec_torn {p : List Nat} (h : p.length ≤ 4096) {k : Nat} (hk : k < 8 + p.length) (u : List Nat) : dec ((fenc p ++ u).take k) = ([], 0, 6) := by
  have hl : ((fenc p ++ u).take k).length = k := by rw [List.length_take, List.length_append, fenc_len]; omega
  by_cases h8 : k < 8
  · unfold dec; rw [if_pos (by omega)]
  · have e0 : unfix ((fenc p ++ u).take k) 0 = p.length := by
      rw [unfix_take (by omega)]
      show unfix ((fix p.length ++ (fix (sm p) ++ p)) ++ u) 0 = p.length
      rw [List.append_assoc]
      exact unfix_fix (by omega) _
    unfold dec
    rw [e0, if_neg (by omega), if_neg (by omega), if_pos (by omega)]

theorem take_frames (ls : List (List Nat)) (j : Nat) : frames ls = frames (ls.take j) ++ frames (ls.drop j) := by rw [← frames_app, List.take_append_drop]
theorem frames_take_succ {ls : List (List Nat)} {j : Nat} (h : j < ls.length) : frames (ls.take (j + 1)) = frames (ls.take j) ++ fenc (ls.getD j []) := by
  rw [List.take_succ_eq_append_getElem h, frames_app, frames_one]
  simp [List.getD, h]
theorem drop_cons {ls : List (List Nat)} {j : Nat} (h : j < ls.length) : ls.drop j = ls.getD j [] :: ls.drop (j + 1) := by
  rw [List.drop_eq_getElem_cons h]; simp [List.getD, h]
theorem getD_mem_l {ls : List (List Nat)} {j : Nat} (h : j < ls.length) : ls.getD j [] ∈ ls := by simp [List.getD, h]

/-- Of a beginning the frames that are whole. -/
theorem scan_torn {ls : List (List Nat)} (h : ∀ p ∈ ls, p.length ≤ 4096) {k j : Nat} (hj : j < ls.length) (h1 : (frames (ls.take j)).length ≤ k) (h2 : k < (frames (ls.take j)).length + 8 + (ls.getD j []).length) :
    scan ((frames ls).take k) = (ls.take j, (frames (ls.take j)).length, if (frames (ls.take j)).length = k then 0 else 6) := by
  have hpj := h _ (getD_mem_l hj)
  have ht : ∀ p ∈ ls.take j, p.length ≤ 4096 := fun p hp => h p (List.mem_of_mem_take hp)
  have e : (frames ls).take k = frames (ls.take j) ++ (fenc (ls.getD j []) ++ frames (ls.drop (j + 1))).take (k - (frames (ls.take j)).length) := by
    conv => lhs; rw [take_frames ls j, drop_cons hj]
    rw [List.take_append, List.take_of_length_le h1]
    rfl
  rw [e, scan_frames ht]
  by_cases hk : (frames (ls.take j)).length = k
  · rw [if_pos hk, hk, Nat.sub_self, List.take_zero, scan_nil]; simp
  · have hd := dec_torn hpj (k := k - (frames (ls.take j)).length) (by omega) (frames (ls.drop (j + 1)))
    have hne : (fenc (ls.getD j []) ++ frames (ls.drop (j + 1))).take (k - (frames (ls.take j)).length) ≠ [] := fun e => by
      have := congrArg List.length e
      rw [List.length_take, List.length_append, fenc_len] at this
      simp at this
      omega
    rw [if_neg hk, scan_bad hne (by rw [hd]; simp), hd]
    simp

/-- A frame that doesn't fit its sum ends what is scanned. -/
theorem scan_turned {ls : List (List Nat)} (h : ∀ p ∈ ls, p.length ≤ 4096) {c : List Nat} (hc : c.take (frames ls).length = frames ls) (hd : dec (c.drop (frames ls).length) = ([], 0, 8)) : scan c = (ls, (frames ls).length, 8) := by
  have e : c = frames ls ++ c.drop (frames ls).length := by conv => lhs; rw [← List.take_append_drop (frames ls).length c, hc]
  have hne : c.drop (frames ls).length ≠ [] := fun e => by rw [e] at hd; simp [dec] at hd
  rw [e, scan_frames h, scan_bad hne (by rw [hd]; simp), hd]
  simp
theorem dec_crc {t : List Nat} {n : Nat} (h0 : unfix t 0 = n) (hn : n ≤ 4096) (hl : 8 + n ≤ t.length) (hs : sm ((t.drop 8).take n) ≠ unfix t 4) : dec t = ([], 0, 8) := by
  unfold dec
  rw [h0, if_neg (by omega), if_neg (by omega), if_neg (by omega), if_neg hs]
end Go.Proofs.Ytfdpnfeaagijhaa
