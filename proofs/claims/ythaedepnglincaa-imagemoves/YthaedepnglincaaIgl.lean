/-
  What holds of an image between commands, in plain words. Conditions: none.
-/
import Derived.Test.YthaedepnglincaaIgk
namespace Go.Proofs.Ythaedepnglincaa
set_option linter.unusedVariables false

/-- A partition whose lists are nodes and few, its numbers at most b. -/
structure QF (n : Nat) (b : Int) (q : Pt) : Prop where
  is : inN n q.is
  ts : inN n q.ts
  il : q.is.length ≤ 1000
  rl : q.rs.length ≤ 1000
  tl : q.ts.length ≤ 1000
  ep : 0 ≤ q.ep ∧ q.ep ≤ b
  ve : 0 ≤ q.ve ∧ q.ve ≤ b
theorem QF.fit {n : Nat} {b : Int} {q : Pt} (h : QF n b q) (hb : b ≤ 2305843009213693952) : PFit n q :=
  ⟨h.is, h.ts, h.il, h.rl, h.tl, ⟨h.ep.1, by have := h.ep.2; omega⟩, ⟨h.ve.1, by have := h.ve.2; omega⟩⟩
theorem QF.up {n : Nat} {b b' : Int} {q : Pt} (h : QF n b q) (hb : b ≤ b') : QF n b' q :=
  ⟨h.is, h.ts, h.il, h.rl, h.tl, ⟨h.ep.1, by have := h.ep.2; omega⟩, ⟨h.ve.1, by have := h.ve.2; omega⟩⟩
theorem QF.elect {n : Nat} {b : Int} {q : Pt} (h : QF n b q) (ns : List Nd) : QF n (b + 1) (electQ ns q) := by
  obtain ⟨h1, h2, h3, h4, h5, h6, h7⟩ := h
  exact ⟨h1, h2, h3, h4, h5, ⟨by show 0 ≤ q.ep + 1; omega, by show q.ep + 1 ≤ b + 1; omega⟩, ⟨h7.1, by show q.ve ≤ b + 1; omega⟩⟩
theorem QF.join {n : Nat} {b : Int} {q : Pt} (h : QF n b q) (ns : List Nd) (x : Int) : QF n (b + 2) (joinQ ns x q) := by
  unfold joinQ
  split
  · exact (h.elect ns).up (by omega)
  · exact h.up (by omega)
theorem QF.gone {n : Nat} {b : Int} {q : Pt} (h : QF n b q) (ns : List Nd) (x : Int) : QF n (b + 2) (goneQ ns x q) := by
  have h1 : QF n (b + 1) ⟨q.ld, q.ep, q.ve + 1, without x q.is, q.rs, q.ts⟩ := by
    obtain ⟨h1, h2, h3, h4, h5, h6, h7⟩ := h
    exact ⟨without_in h1, h2, Nat.le_trans (List.length_filter_le _ _) h3, h4, h5, ⟨h6.1, by show q.ep ≤ b + 1; omega⟩, ⟨by show 0 ≤ q.ve + 1; omega, by show q.ve + 1 ≤ b + 1; omega⟩⟩
  unfold goneQ
  split
  · split
    · split
      · exact (h1.elect ns).up (by omega)
      · exact h1.up (by omega)
    · split
      · exact (h.elect ns).up (by omega)
      · exact h.up (by omega)
  · exact h.up (by omega)
theorem QF.ends {n : Nat} {b : Int} {q : Pt} (h : QF n b q) (ns : List Nd) : QF n (b + 2) (endQ ns q) := by
  have h1 : QF n (b + 1) (q1Of q) := by
    obtain ⟨h1, h2, h3, h4, h5, h6, h7⟩ := h
    exact ⟨h2, (fun x hx => by cases hx), h5, h5, by simp [q1Of], ⟨h6.1, by show q.ep ≤ b + 1; omega⟩, ⟨by show 0 ≤ q.ve + 1; omega, by show q.ve + 1 ≤ b + 1; omega⟩⟩
  unfold endQ
  split
  · exact h.up (by omega)
  · split
    · exact h.up (by omega)
    · split
      · exact h1.up (by omega)
      · exact (h1.elect ns).up (by omega)
theorem QF.isr {n : Nat} {b : Int} {q : Pt} (h : QF n b q) (ns : List Nd) {l : List Int} (hl : inN n l) (h5 : l.length ≤ 5) : QF n (b + 3) (isrQ ns q l) := by
  unfold isrQ
  have h1 : QF n (b + 1) ⟨q.ld, q.ep, q.ve + 1, l, q.rs, q.ts⟩ := by
    obtain ⟨h1, h2, h3, h4, h5, h6, h7⟩ := h
    exact ⟨hl, h2, by show l.length ≤ 1000; omega, h4, h5, ⟨h6.1, by show q.ep ≤ b + 1; omega⟩, ⟨by show 0 ≤ q.ve + 1; omega, by show q.ve + 1 ≤ b + 1; omega⟩⟩
  exact (h1.ends ns).up (by omega)
theorem QF.move {n : Nat} {b : Int} {q : Pt} (h : QF n b q) (ns : List Nd) {l : List Int} (hl : inN n l) (h5 : l.length ≤ 5) : QF n (b + 3) (moveQ ns q l) := by
  unfold moveQ
  have h1 : QF n b ⟨q.ld, q.ep, q.ve, q.is, q.rs, l⟩ := ⟨h.is, hl, h.il, h.rl, by show l.length ≤ 1000; omega, h.ep, h.ve⟩
  exact (h1.ends ns).up (by omega)
/-- An image between commands. -/
structure GF (n p : Nat) (b : Int) (g : Img) : Prop where
  nl : g.ns.length = n
  pl : g.ps.length = p
  each : ∀ q ∈ g.ps, QF n b q
theorem getD_mem13 {ps : List Pt} {i : Nat} (h : i < ps.length) : ps.getD i default ∈ ps := by
  have e : ps.getD i default = ps[i] := by simp [List.getD, h]
  rw [e]; exact List.getElem_mem h
theorem set_mem13 {ps : List Pt} {i : Nat} {q r : Pt} (h : r ∈ ps.set i q) : r = q ∨ r ∈ ps := by
  rcases List.mem_or_eq_of_mem_set h with h | h
  · exact .inr h
  · exact .inl h
theorem GF.apply {n p : Nat} {b : Int} {g : Img} (h : GF n p b g) (c : Cm) : GF n p (b + 3) (applyI g c).2 := by
  obtain ⟨rfl, rfl, h3⟩ := h
  have up : ∀ q ∈ g.ps, QF g.ns.length (b + 3) q := fun q hq => (h3 q hq).up (by omega)
  unfold applyI
  simp only
  by_cases hf : fitsB g.ns.length g.ps.length c = false
  · rw [if_pos hf]; exact ⟨rfl, rfl, up⟩
  · rw [if_neg hf]
    have hf' : fitsB g.ns.length g.ps.length c = true := by simpa using hf
    by_cases h4 : c.kd = 4
    · rw [if_pos h4]
      obtain ⟨hN, hL, h5⟩ := fits_part hf' (.inl h4)
      obtain ⟨i, hi, hil⟩ := isN_nat hN
      unfold moveI
      split
      · refine ⟨rfl, by simp, fun r hr => ?_⟩
        rcases set_mem13 hr with rfl | hr
        · exact (h3 _ (getD_mem13 (by rw [hi]; simpa using hil))).move _ (isL_in hL) h5
        · exact up r hr
      · exact ⟨rfl, rfl, up⟩
    · rw [if_neg h4]
      by_cases k3 : c.kd = 3
      · rw [if_pos k3]
        obtain ⟨hN, hL, h5⟩ := fits_part hf' (.inr k3)
        obtain ⟨i, hi, hil⟩ := isN_nat hN
        unfold isrI
        split
        · split
          · refine ⟨rfl, by simp, fun r hr => ?_⟩
            rcases set_mem13 hr with rfl | hr
            · exact (h3 _ (getD_mem13 (by rw [hi]; simpa using hil))).isr _ (isL_in hL) h5
            · exact up r hr
          · exact ⟨rfl, rfl, up⟩
        · exact ⟨rfl, rfl, up⟩
      · rw [if_neg k3]
        by_cases k1 : c.kd = 1
        · rw [if_pos k1]
          unfold joinI
          split
          · refine ⟨by simp, by simp, fun r hr => ?_⟩
            obtain ⟨q, hq, rfl⟩ := List.mem_map.1 hr
            exact ((h3 q hq).join _ _).up (by omega)
          · exact ⟨rfl, rfl, up⟩
        · rw [if_neg k1]
          by_cases k2 : c.kd = 2
          · rw [if_pos k2]
            unfold fenceI
            split
            · refine ⟨by simp, by simp, fun r hr => ?_⟩
              obtain ⟨q, hq, rfl⟩ := List.mem_map.1 hr
              exact ((h3 q hq).gone _ _).up (by omega)
            · exact ⟨rfl, rfl, up⟩
          · rw [if_neg k2]
            unfold blockI
            split
            · exact ⟨by simp, rfl, up⟩
            · exact ⟨rfl, rfl, up⟩
end Go.Proofs.Ythaedepnglincaa
