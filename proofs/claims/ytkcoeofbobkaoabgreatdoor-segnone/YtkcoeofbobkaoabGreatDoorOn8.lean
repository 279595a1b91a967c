/-
  A disk of one file, in plain words. No conditions.
-/
import Derived.Test.YtkcoeofbobkaoabGreatDoorCt5
import Derived.Test.YtkcoeofbobkaoabGreatDoorAw5

namespace Go.Proofs.YtkcoeofbobkaoabGreatDoor
open Go.RowKit
set_option linter.unusedVariables false

theorem ftOf_swapF {l : List Ft} {s : ByteArray} {f f' : Ft} (h : ftOf l s = some f) (hn : f'.nm = s) : ftOf (swapF l f') s = some f' := by
  unfold ftOf swapF at *
  induction l with
  | nil => cases h
  | cons g l ih =>
    by_cases e : g.nm = s
    · simp [e, hn]
    · have e2 : ¬ g.nm = f'.nm := by rw [hn]; exact e
      rw [List.find?_cons_of_neg (by simpa using e)] at h
      rw [List.map_cons, if_neg e2, List.find?_cons_of_neg (by simpa using e)]
      exact ih h
theorem ftOf_nm {l : List Ft} {s : ByteArray} {f : Ft} (h : ftOf l s = some f) : f.nm = s := by have := List.find?_some h; simpa using this
theorem ftOf_mem {l : List Ft} {s : ByteArray} {f : Ft} (h : ftOf l s = some f) : f ∈ l := List.mem_of_find?_eq_some h
def apT (l : List Ft) (s : ByteArray) (t : List Nat) : Ft := match ftOf l s with | some f => { f with text := f.text ++ t } | none => ⟨s, t, 0⟩
theorem ftOf_apF (l : List Ft) (s : ByteArray) (t : List Nat) : ftOf (apF l s t) s = some (apT l s t) := by
  unfold apF apT
  cases h : ftOf l s with
  | none => simp [ftOf]
  | some f => exact ftOf_swapF (f' := { f with text := f.text ++ t }) h (show f.nm = s from ftOf_nm h)
theorem find_ok {dead : Bool} {l : List Ft} {s : ByteArray} : findE dead l s = 0 ↔ dead = false ∧ okName s = true ∧ (ftOf l s).isSome = true := by
  unfold findE
  cases dead <;> cases okName s <;> cases (ftOf l s).isSome <;> simp
theorem find_no {dead : Bool} {l : List Ft} {s : ByteArray} : findE dead l s = 4 ↔ dead = false ∧ okName s = true ∧ (ftOf l s).isSome = false := by
  unfold findE
  cases dead <;> cases okName s <;> cases (ftOf l s).isSome <;> simp
theorem ap_room {d : Dk} {s : ByteArray} {n : Nat} (h : apE d s n = 0) : apR d s n = 0 ∧ burnD d.armed d.fuse n d.dead = false ∧ d.dead = false ∧ okName s = true := by
  unfold apE at h
  by_cases h1 : apR d s n = 0
  · rw [if_neg (by simpa using h1)] at h
    have hb : burnD d.armed d.fuse n d.dead = false := by
      cases hb : burnD d.armed d.fuse n d.dead with
      | false => rfl
      | true => rw [hb] at h; simp at h
    refine ⟨h1, hb, ?_⟩
    unfold apR at h1
    by_cases h2 : findE d.dead d.fs s ≠ 0 ∧ findE d.dead d.fs s ≠ 4
    · rw [if_pos h2] at h1; exact (h2.1 h1).elim
    · by_cases h3 : findE d.dead d.fs s = 0
      · exact ⟨(find_ok.1 h3).1, (find_ok.1 h3).2.1⟩
      · have h4 : findE d.dead d.fs s = 4 := by
          by_cases h5 : findE d.dead d.fs s = 4
          · exact h5
          · exact (h2 ⟨h3, h5⟩).elim
        exact ⟨(find_no.1 h4).1, (find_no.1 h4).2.1⟩
  · rw [if_pos h1] at h; exact (h1 h).elim
theorem apD_ok {d : Dk} {s : ByteArray} {b : List Nat} (h : apE d s b.length = 0) : apD d s b = ⟨apF d.fs s b, d.armed, burnF d.armed d.fuse b.length, false⟩ := by
  obtain ⟨h1, h2, h3, _⟩ := ap_room h
  unfold apD
  rw [if_neg (by simpa using h1), h2]
  have : burnN d.armed d.fuse b.length = b.length := by
    unfold burnN
    unfold burnD at h2
    rw [if_neg]
    intro h
    simp [h] at h2
  rw [this, List.take_length]
theorem ap_find {d : Dk} {s : ByteArray} {b : List Nat} (h : apE d s b.length = 0) : findE (apD d s b).dead (apD d s b).fs s = 0 := by
  have h4 := (ap_room h).2.2.2
  rw [apD_ok h, find_ok]
  exact ⟨rfl, h4, by rw [ftOf_apF]; rfl⟩
theorem rdF_ok {d : Dk} {s : ByteArray} {f : Ft} (h : findE d.dead d.fs s = 0) (hf : ftOf d.fs s = some f) : rdF d s = f := by unfold rdF; rw [if_pos h, hf]; rfl
/-- A disk that has one file, and isn't armed. -/
def one (s : ByteArray) (t : List Nat) (la : Nat) : Dk := ⟨[⟨s, t, la⟩], false, 0, false⟩
def noneD : Dk := ⟨[], false, 0, false⟩
section
variable {s : ByteArray} {t b : List Nat} {la : Nat}
theorem one_ft : ftOf [⟨s, t, la⟩] s = some ⟨s, t, la⟩ := by simp [ftOf]
theorem one_find (h : okName s = true) : findE (one s t la).dead (one s t la).fs s = 0 := find_ok.2 ⟨rfl, h, by show (ftOf [⟨s, t, la⟩] s).isSome = true; rw [one_ft]; rfl⟩
theorem one_rd (h : okName s = true) : rdF (one s t la) s = ⟨s, t, la⟩ := rdF_ok (one_find h) one_ft
theorem one_used : usedF (one s t la).fs = t.length := by simp [usedF, one]
theorem one_ap (h : okName s = true) (hl : t.length + b.length ≤ 4194304) : apE (one s t la) s b.length = 0 ∧ apD (one s t la) s b = one s (t ++ b) la := by
  have h1 : apR (one s t la) s b.length = 0 := by
    unfold apR
    rw [one_find h, one_used, if_neg (by omega), if_neg (by omega)]
  have h2 : apE (one s t la) s b.length = 0 := by
    unfold apE
    rw [h1, if_neg (by omega)]
    rfl
  refine ⟨h2, ?_⟩
  rw [apD_ok h2]
  have h3 : apF (one s t la).fs s b = [⟨s, t ++ b, la⟩] := by
    unfold apF one
    simp only
    rw [one_ft]
    simp [swapF]
  rw [h3]
  rfl
theorem none_ap (h : okName s = true) (hl : b.length ≤ 4194304) : apE noneD s b.length = 0 ∧ apD noneD s b = one s b 0 := by
  have h0 : findE noneD.dead noneD.fs s = 4 := find_no.2 ⟨rfl, h, rfl⟩
  have h1 : apR noneD s b.length = 0 := by
    unfold apR
    rw [h0]
    have : usedF noneD.fs = 0 := rfl
    have : noneD.fs.length = 0 := rfl
    rw [if_neg (by omega), if_neg (by omega)]
  have h2 : apE noneD s b.length = 0 := by
    unfold apE
    rw [h1, if_neg (by omega)]
    rfl
  exact ⟨h2, by rw [apD_ok h2]; rfl⟩
theorem one_sync (h : okName s = true) : syD (one s t la) s = one s t t.length := by
  unfold syD
  rw [if_pos (one_find h)]
  unfold syncF one
  simp only
  rw [one_ft]
  simp [swapF]
theorem one_crash (K : Nat) : crD K (one s t la) = one s (t.take (la + K % (t.length - la + 1))) (la + K % (t.length - la + 1)) := rfl
end


section
variable {s : ByteArray} {t : List Nat} {la : Nat}
theorem one_cut (h : la ≤ t.length) : cutD (one s t la) s t.length = one s t la := by
  unfold cutD cutF one
  simp only
  rw [one_ft]
  simp [swapF, h]
end
end Go.Proofs.YtkcoeofbobkaoabGreatDoor
