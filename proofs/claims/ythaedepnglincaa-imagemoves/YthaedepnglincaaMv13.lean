/-
  What ImageMoves asks, in plain words, and the commands it gives. Conditions: as each says.
-/
import Derived.Test.YthaedepnglincaaLd13
import Derived.Test.YthaedepnglincaaSi13
namespace Go.Proofs.Ythaedepnglincaa
open Go.RowKit Go.Maps
set_option linter.unusedVariables false

/-- A list that rises, of numbers from 0 on, below ub. -/
def Rb (ub : Nat) (l : List Int) : Prop := risF 5 (-1) l = true ∧ ∀ x ∈ l, x < (ub : Int)
theorem Rb.nil (ub : Nat) : Rb ub [] := ⟨by simp [risF], fun x hx => by cases hx⟩
theorem Rb.up {ub ub' : Nat} {l : List Int} (h : Rb ub l) (hu : ub ≤ ub') : Rb ub' l := ⟨h.1, fun x hx => by have := h.2 x hx; omega⟩
theorem lastI_mem : ∀ (l : List Int) (a : Int), lastI a l = a ∨ lastI a l ∈ l
  | [], a => .inl rfl
  | x :: r, a => by
    rcases lastI_mem r x with e | e
    · right; show lastI x r ∈ x :: r; rw [e]; exact List.mem_cons_self ..
    · right; exact List.mem_cons_of_mem _ e
theorem Rb.snoc {n : Nat} {l : List Int} (h : Rb (n + 1) l) (hn : n < 5) (hc : l.contains (n : Int) = false) : Rb (n + 1) (l ++ [(n : Int)]) := by
  have hlow : ∀ x ∈ l, x < (n : Int) := fun x hx => by
    have h1 := h.2 x hx
    have h2 : x ≠ (n : Int) := fun e => by rw [e] at hx; simp [hx] at hc
    omega
  refine ⟨?_, fun x hx => ?_⟩
  · rw [risF_snoc, h.1]
    have h3 : lastI (-1) l < (n : Int) := by
      rcases lastI_mem l (-1) with e | e
      · rw [e]; omega
      · exact hlow _ e
    have h4 : isN 5 (n : Int) = true := by simp [isN]; omega
    simp [h3, h4]
  · rcases List.mem_append.1 hx with hx | hx
    · exact h.2 x hx
    · simp at hx; omega
theorem risF_len : ∀ (l : List Int) (last : Int) (n : Nat), risF n last l = true → l = [] ∨ (l.length : Int) + last + 1 ≤ (n : Int)
  | [], _, _, _ => .inl rfl
  | x :: r, last, n, h => by
    simp only [risF, Bool.and_eq_true, decide_eq_true_eq, isN] at h
    obtain ⟨⟨h1, h2, h3⟩, h4⟩ := h
    right
    rcases risF_len r x n h4 with e | e
    · subst e; simp; omega
    · simp only [List.length_cons]; omega
theorem Rb.len {ub : Nat} {l : List Int} (h : Rb ub l) : l.length ≤ 5 := by
  rcases risF_len l (-1) 5 h.1 with e | e
  · rw [e]; simp
  · omega
theorem Rb.isL {ub : Nat} {l : List Int} (h : Rb ub l) (h0 : l ≠ []) : isL 5 l = true := by
  unfold Go.Proofs.Ythaedepnglincaa.isL
  rw [h.1]
  cases l with
  | nil => exact absurd rfl h0
  | cons x r => simp
/-- A move. -/
def cMv (k : Nat) (a : Option Addr) (c : Nat) (l : List Int) : Cm := ⟨4, 0, (k : Int), 0, 0, a, c, l⟩
def cIs (q : Pt) (k : Nat) (a : Option Addr) (c : Nat) (l : List Int) : Cm := ⟨3, q.ld, (k : Int), q.ep, q.ve, a, c, l⟩
theorem isN4 {k : Nat} (hk : k < 4) : isN 4 (k : Int) = true := by simp [isN]; omega
theorem mv_none {b : Int} {g : Img} (hG : GL 5 4 b g) (k : Nat) (a : Option Addr) (c : Nat) : (applyI g (cMv k a c [])).1 = 1 := by
  unfold applyI cMv fitsB isC
  simp [hG.gf.nl, hG.gf.pl, isL]
theorem mv_some {b : Int} {g : Img} (hG : GL 5 4 b g) {k : Nat} (hk : k < 4) (a : Option Addr) (c : Nat) {l : List Int} {ub : Nat} (hl : Rb ub l) (h0 : l ≠ []) {q : Pt} (hq : g.ps[k]? = some q) :
    (q.ts ≠ [] → (applyI g (cMv k a c l)).1 = 16) ∧ (q.ts = [] → (applyI g (cMv k a c l)).1 = 0 ∧ (applyI g (cMv k a c l)).2 = ⟨g.ns, g.ps.set k (moveQ g.ns q l), g.nx, g.ct + 1⟩) := by
  have hf : fitsB 5 4 (cMv k a c l) = true := by
    unfold fitsB isC cMv
    simp [hl.len, isN4 hk, hl.isL h0]
  have e : applyI g (cMv k a c l) = moveI ⟨g.ns, g.ps, g.nx, g.ct + 1⟩ q k (cMv k a c l) := by
    unfold applyI
    simp only [hG.gf.nl, hG.gf.pl, hf]
    have hp : (cMv k a c l).pt.toNat = k := by simp [cMv]
    have hd : g.ps.getD k default = q := by simp [List.getD, hq]
    rw [hp, hd]
    simp [cMv]
  rw [e]
  unfold moveI
  refine ⟨fun h => ?_, fun h => ?_⟩
  · rw [if_neg (fun e => h (List.length_eq_zero_iff.1 e))]
  · rw [if_pos (by rw [h]; rfl)]
    exact ⟨rfl, rfl⟩
theorem any_behind {q : Pt} {l : List Int} : l.any (behind q) = !(l.all q.is.contains) := by
  unfold behind
  rw [List.all_eq_not_any_not]
  simp
theorem move_all {ns : List Nd} {q : Pt} {l : List Int} (h0 : l ≠ []) (ha : l.all q.is.contains = true) : (moveQ ns q l).rs = l ∧ (moveQ ns q l).is = l ∧ (moveQ ns q l).ts = [] := by
  unfold moveQ endQ
  rw [if_neg (fun e => h0 (List.length_eq_zero_iff.1 e))]
  have : l.any (behind ⟨q.ld, q.ep, q.ve, q.is, q.rs, l⟩) = false := by rw [any_behind]; simpa using ha
  simp only
  rw [this]
  simp only [Bool.false_eq_true, if_false]
  split
  · exact ⟨rfl, rfl, rfl⟩
  · exact ⟨rfl, rfl, rfl⟩
theorem move_not {ns : List Nd} {q : Pt} {l : List Int} (h0 : l ≠ []) (ha : l.all q.is.contains = false) : moveQ ns q l = ⟨q.ld, q.ep, q.ve, q.is, q.rs, l⟩ := by
  unfold moveQ endQ
  rw [if_neg (fun e => h0 (List.length_eq_zero_iff.1 e))]
  have : l.any (behind ⟨q.ld, q.ep, q.ve, q.is, q.rs, l⟩) = true := by rw [any_behind]; simpa using ha
  simp only
  rw [this]
  rfl
/-- Those to be in sync are said to be. -/
theorem is_some {b : Int} {g : Img} (hG : GL 5 4 b g) {k : Nat} (hk : k < 4) (a : Option Addr) (c : Nat) {l bl : List Int} {ub : Nat} (hb : Rb ub bl) {q : Pt} (hq : g.ps[k]? = some q) (hld : 0 ≤ q.ld) (h0 : l ≠ []) (hts : q.ts = l)
    (h1 : ∀ x ∈ bl, x ∈ l ∨ x ∈ q.is) (h2 : ∀ x ∈ l, x ∈ bl) (h3 : ∀ x ∈ q.is, x ∈ bl) (h4 : ∀ x ∈ l, thr g.ns x = true ∨ x ∈ q.is) :
    (applyI g (cIs q k a c bl)).1 = 0 ∧ ∃ q', (applyI g (cIs q k a c bl)).2.ps[k]? = some q' ∧ q'.rs = l ∧ q'.is = l ∧ q'.ts = [] ∧ l.contains q.ld = decide (q'.ep = q.ep) := by
  have hL := hG.li k q hq
  obtain ⟨t1, t2⟩ := hL.led (by omega)
  have hldb : q.ld ∈ bl := h3 _ t2
  have b0 : bl ≠ [] := fun e => by rw [e] at hldb; cases hldb
  have hf : fitsB 5 4 (cIs q k a c bl) = true := by
    unfold fitsB isC cIs
    simp [hb.len, isN4 hk, hb.isL b0, hL.nn _ t2]
  have hbar : barrI g.ns q bl = false := by
    unfold barrI
    cases hc : bl.any (barr g.ns q) with
    | false => rfl
    | true =>
      exfalso
      obtain ⟨x, hx, hxb⟩ := List.any_eq_true.1 hc
      have hst : x ∈ q.rs ∨ x ∈ q.ts := by
        rcases h1 x hx with e | e
        · exact .inr (by rw [hts]; exact e)
        · exact hL.sub x e
      have hal : thr g.ns x = true ∨ x ∈ q.is := by
        rcases h1 x hx with e | e
        · exact h4 x e
        · exact .inr e
      unfold barr mayQ at hxb
      simp only [Bool.not_eq_true', Bool.and_eq_false_iff, Bool.or_eq_false_iff] at hxb
      rcases hxb with ⟨e1, e2⟩ | ⟨e1, e2⟩
      · rcases hst with h | h
        · simp [h] at e1
        · simp [h] at e2
      · rcases hal with h | h
        · rw [h] at e1; cases e1
        · simp [h] at e2
  have e : applyI g (cIs q k a c bl) = isrI ⟨g.ns, g.ps, g.nx, g.ct + 1⟩ q k (cIs q k a c bl) := by
    unfold applyI
    simp only [hG.gf.nl, hG.gf.pl, hf]
    have hp : (cIs q k a c bl).pt.toNat = k := by simp [cIs]
    have hd : g.ps.getD k default = q := by simp [List.getD, hq]
    rw [hp, hd]
    simp [cIs]
  rw [e]
  have hkl : k < g.ps.length := by rw [hG.gf.pl]; exact hk
  unfold isrI
  rw [if_pos (show q.ld = (cIs q k a c bl).nd ∧ q.ep = (cIs q k a c bl).ep ∧ q.ve = (cIs q k a c bl).ve from ⟨rfl, rfl, rfl⟩), if_pos (show (cIs q k a c bl).l.contains (cIs q k a c bl).nd = true ∧ barrI g.ns q (cIs q k a c bl).l = false from ⟨by simpa [cIs] using hldb, hbar⟩)]
  refine ⟨rfl, isrQ g.ns q bl, by simp [cIs, hkl], ?_⟩
  unfold isrQ endQ
  rw [hts]
  rw [if_neg (fun e => h0 (List.length_eq_zero_iff.1 e))]
  have hnb : l.any (behind ⟨q.ld, q.ep, q.ve + 1, bl, q.rs, l⟩) = false := by
    rw [any_behind]
    have : l.all bl.contains = true := by simpa using h2
    simp only [this]
    rfl
  simp only
  rw [hnb]
  simp only [Bool.false_eq_true, if_false]
  split
  · rename_i hc
    refine ⟨rfl, rfl, rfl, ?_⟩
    rw [show l.contains q.ld = true from hc]
    simp [q1Of]
  · rename_i hc
    refine ⟨rfl, rfl, rfl, ?_⟩
    have hc' : l.contains q.ld = false := by simpa using hc
    rw [hc']
    have hne : ¬ q.ep + 1 = q.ep := by omega
    exact (decide_eq_false hne).symm
end Go.Proofs.Ythaedepnglincaa
