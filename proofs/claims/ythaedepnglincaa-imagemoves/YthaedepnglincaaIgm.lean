/-
  Leaders are there and in sync, in plain words. Conditions: none.
-/
import Derived.Test.YthaedepnglincaaIgl
namespace Go.Proofs.Ythaedepnglincaa
set_option linter.unusedVariables false

theorem elec_spec (ns : List Nd) (l : List Int) : (elec ns l = -1 ∧ ∀ x ∈ l, thr ns x = false) ∨ (elec ns l ∈ l ∧ thr ns (elec ns l) = true) := by
  unfold elec
  have gen : ∀ l : List Int, (idxI (thr ns) l = -1 ∧ ∀ x ∈ l, thr ns x = false) ∨ ∃ k : Nat, idxI (thr ns) l = (k : Int) ∧ ∃ h : k < l.length, thr ns l[k] = true := by
    intro l
    induction l with
    | nil => exact .inl ⟨rfl, fun x hx => by cases hx⟩
    | cons y r ih =>
      cases hy : thr ns y with
      | true => exact .inr ⟨0, by simp [idxI, hy], by simp, by simpa using hy⟩
      | false =>
        rcases ih with ⟨e, ha⟩ | ⟨k, e, hk, ht⟩
        · refine .inl ⟨by simp [idxI, hy, e], fun x hx => ?_⟩
          rcases List.mem_cons.1 hx with rfl | hx
          · exact hy
          · exact ha x hx
        · refine .inr ⟨k + 1, ?_, by simpa using hk, by simpa using ht⟩
          have hne : ((k : Int)) ≠ -1 := by omega
          simp [idxI, hy, e, hne]
  rcases gen l with ⟨e, ha⟩ | ⟨k, e, hk, ht⟩
  · left; rw [if_pos e]; exact ⟨rfl, ha⟩
  · right
    rw [if_neg (by omega), e, Int.toNat_natCast]
    have e2 : l.getD k 0 = l[k] := by simp [List.getD, hk]
    rw [e2]
    exact ⟨List.getElem_mem hk, ht⟩
/-- Who leads is there and in sync; nobody leads just where nobody in sync is there. -/
structure LI (n : Nat) (ns : List Nd) (q : Pt) : Prop where
  nn : inN n q.is
  is0 : q.is ≠ []
  rs0 : q.rs ≠ []
  sub : ∀ x ∈ q.is, x ∈ q.rs ∨ x ∈ q.ts
  led : q.ld ≠ -1 → thr ns q.ld = true ∧ q.ld ∈ q.is
  non : q.ld = -1 → ∀ x ∈ q.is, thr ns x = false
/-- What a command may do to a partition. -/
structure Goes (q q' : Pt) : Prop where
  ep : q.ep ≤ q'.ep
  ve : q.ve ≤ q'.ve
  new : q.ld ≠ q'.ld → q.ep ≠ q'.ep
theorem Goes.refl (q : Pt) : Goes q q := ⟨Int.le_refl _, Int.le_refl _, fun h => absurd rfl h⟩
theorem elect_li {n : Nat} {ns : List Nd} {q : Pt} (h1 : inN n q.is) (h2 : q.is ≠ []) (h3 : q.rs ≠ []) (h4 : ∀ x ∈ q.is, x ∈ q.rs ∨ x ∈ q.ts) : LI n ns (electQ ns q) := by
  refine ⟨h1, h2, h3, h4, fun h => ?_, fun h => ?_⟩
  · rcases elec_spec ns q.is with ⟨e, _⟩ | ⟨e1, e2⟩
    · exact absurd e h
    · exact ⟨e2, e1⟩
  · rcases elec_spec ns q.is with ⟨_, e⟩ | ⟨e1, e2⟩
    · exact e
    · exfalso
      have h' : elec ns q.is = -1 := h
      rw [h'] at e1
      have := h1 _ e1
      simp [isN] at this
theorem elect_goes (ns : List Nd) {q0 q : Pt} (he : q.ep = q0.ep) (hv : q0.ve ≤ q.ve) : Goes q0 (electQ ns q) :=
  ⟨by show q0.ep ≤ q.ep + 1; omega, hv, fun _ => by show q0.ep ≠ q.ep + 1; omega⟩
theorem thr_set {ns : List Nd} {x : Nat} (hx : x < ns.length) (d : Nd) {y : Int} (hy : 0 ≤ y) : thr (ns.set x d) y = if y = (x : Int) then d.th else thr ns y := by
  obtain ⟨k, rfl⟩ := Int.eq_ofNat_of_zero_le hy
  unfold thr
  rw [Int.toNat_natCast]
  by_cases e : k = x
  · subst e
    rw [if_pos rfl]
    simp [List.getD, hx]
  · rw [if_neg (by omega)]
    simp [List.getD, Ne.symm e]
theorem in_low {n : Nat} {l : List Int} (h : inN n l) {y : Int} (hy : y ∈ l) : 0 ≤ y := by
  have := h y hy
  simp only [isN, Bool.and_eq_true, decide_eq_true_eq] at this
  exact this.1
theorem join_li {n : Nat} {ns : List Nd} {q : Pt} (h : LI n ns q) {x : Nat} (hx : x < ns.length) (d : Nd) (hd : d.th = true) : LI n (ns.set x d) (joinQ (ns.set x d) x q) ∧ Goes q (joinQ (ns.set x d) x q) := by
  unfold joinQ
  split
  · exact ⟨elect_li h.nn h.is0 h.rs0 h.sub, elect_goes _ rfl (Int.le_refl _)⟩
  · rename_i hm
    refine ⟨⟨h.nn, h.is0, h.rs0, h.sub, fun hl => ?_, fun hl y hy => ?_⟩, Goes.refl _⟩
    · obtain ⟨h1, h2⟩ := h.led hl
      refine ⟨?_, h2⟩
      rw [thr_set hx d (in_low h.nn h2)]
      split
      · exact hd
      · exact h1
    · rw [thr_set hx d (in_low h.nn hy), if_neg (fun e => ?_)]
      · exact h.non hl y hy
      · apply hm
        rw [e] at hy
        simp [mustE, hl, hy]
theorem gone_li {n : Nat} {ns : List Nd} {q : Pt} (h : LI n ns q) {x : Nat} (hx : x < ns.length) (d : Nd) (hd : d.th = false) : LI n (ns.set x d) (goneQ (ns.set x d) x q) ∧ Goes q (goneQ (ns.set x d) x q) := by
  have tx : ∀ y ∈ q.is, thr (ns.set x d) y = if y = (x : Int) then false else thr ns y := fun y hy => by rw [thr_set hx d (in_low h.nn hy), hd]
  have sub' : ∀ y ∈ without x q.is, y ∈ q.is ∧ y ≠ (x : Int) := fun y hy => by
    have := List.mem_filter.1 hy
    exact ⟨this.1, by simpa using this.2⟩
  unfold goneQ
  by_cases hc : q.is.contains (x : Int) = true
  · rw [if_pos hc]
    by_cases ha : q.is.any (thr (ns.set x d)) = true
    · rw [if_pos ha]
      obtain ⟨y, hy, hty⟩ := List.any_eq_true.1 ha
      have hyx : y ≠ (x : Int) := fun e => by rw [tx y hy, if_pos e] at hty; cases hty
      have hyw : y ∈ without x q.is := List.mem_filter.2 ⟨hy, by simpa using hyx⟩
      have w0 : without (x : Int) q.is ≠ [] := fun e => by rw [e] at hyw; cases hyw
      have wn : inN n (without (x : Int) q.is) := without_in h.nn
      have ws : ∀ z ∈ without (x : Int) q.is, z ∈ q.rs ∨ z ∈ q.ts := fun z hz => h.sub z (sub' z hz).1
      by_cases hl : (q.ld == (x : Int)) = true
      · rw [if_pos hl]
        exact ⟨elect_li wn w0 h.rs0 ws, elect_goes _ rfl (by show q.ve ≤ q.ve + 1; omega)⟩
      · rw [if_neg hl]
        have hlx : q.ld ≠ (x : Int) := by simpa using hl
        refine ⟨⟨wn, w0, h.rs0, ws, fun hn => ?_, fun hn => ?_⟩, ⟨Int.le_refl _, by show q.ve ≤ q.ve + 1; omega, fun e => absurd rfl e⟩⟩
        · obtain ⟨h1, h2⟩ := h.led hn
          exact ⟨by show thr (ns.set x d) q.ld = true; rw [tx _ h2, if_neg hlx]; exact h1, List.mem_filter.2 ⟨h2, by simpa using hlx⟩⟩
        · exfalso
          have := h.non hn y hy
          rw [tx y hy, if_neg hyx, this] at hty
          cases hty
    · rw [if_neg ha]
      by_cases hl : (q.ld == (x : Int)) = true
      · rw [if_pos hl]
        exact ⟨elect_li h.nn h.is0 h.rs0 h.sub, elect_goes _ rfl (Int.le_refl _)⟩
      · rw [if_neg hl]
        have hlx : q.ld ≠ (x : Int) := by simpa using hl
        have none : ∀ y ∈ q.is, thr (ns.set x d) y = false := fun y hy => by
          cases ht : thr (ns.set x d) y with
          | false => rfl
          | true => exact absurd (List.any_eq_true.2 ⟨y, hy, ht⟩) ha
        refine ⟨⟨h.nn, h.is0, h.rs0, h.sub, fun hn => ?_, fun _ => none⟩, Goes.refl _⟩
        obtain ⟨h1, h2⟩ := h.led hn
        have := none _ h2
        rw [tx _ h2, if_neg hlx, h1] at this
        cases this
  · rw [if_neg hc]
    have hxi : (x : Int) ∉ q.is := fun e => hc (by simpa using e)
    refine ⟨⟨h.nn, h.is0, h.rs0, h.sub, fun hn => ?_, fun hn y hy => ?_⟩, Goes.refl _⟩
    · obtain ⟨h1, h2⟩ := h.led hn
      exact ⟨by rw [tx _ h2, if_neg (fun e => hxi (by rw [← e]; exact h2))]; exact h1, h2⟩
    · rw [tx y hy, if_neg (fun e => hxi (by rw [← e]; exact hy))]
      exact h.non hn y hy
theorem end_li {n : Nat} {ns : List Nd} {q : Pt} (h : LI n ns q) (ht : inN n q.ts) : LI n ns (endQ ns q) ∧ Goes q (endQ ns q) := by
  unfold endQ
  split
  · exact ⟨h, Goes.refl _⟩
  · rename_i hz
    have t0 : q.ts ≠ [] := fun e => hz (by rw [e]; rfl)
    split
    · exact ⟨h, Goes.refl _⟩
    · rename_i hb
      split
      · rename_i hl
        have hlt : q.ld ∈ q.ts := by simpa using hl
        refine ⟨⟨ht, t0, t0, fun x hx => .inl hx, fun hn => ⟨(h.led hn).1, hlt⟩, fun hn => ?_⟩, ⟨Int.le_refl _, by show q.ve ≤ q.ve + 1; omega, fun e => absurd rfl e⟩⟩
        exfalso
        have hn' : q.ld = -1 := hn
        rw [hn'] at hlt
        have := in_low ht hlt
        omega
      · exact ⟨elect_li ht t0 t0 (fun x hx => .inl hx), elect_goes _ rfl (by show q.ve ≤ q.ve + 1; omega)⟩
theorem Goes.trans {a b c : Pt} (h : Goes a b) (k : Goes b c) (he : a.ld = b.ld ∧ a.ep = b.ep) : Goes a c :=
  ⟨Int.le_trans h.ep k.ep, Int.le_trans h.ve k.ve, fun hn => by rw [he.2]; exact k.new (by rw [← he.1]; exact hn)⟩
theorem isr_li {n : Nat} {ns : List Nd} {q : Pt} (h : LI n ns q) (ht : inN n q.ts) {l : List Int} (hl : inN n l) (h0 : l.contains q.ld = true) (hb : l.any (barr ns q) = false) : LI n ns (isrQ ns q l) ∧ Goes q (isrQ ns q l) := by
  have hm : q.ld ∈ l := by simpa using h0
  have hlow := in_low hl hm
  have h1 : LI n ns ⟨q.ld, q.ep, q.ve + 1, l, q.rs, q.ts⟩ := by
    refine ⟨hl, (fun e => by rw [show l = [] from e] at hm; cases hm), h.rs0, fun x hx => ?_, fun hn => ⟨(h.led hn).1, hm⟩, fun hn => ?_⟩
    · cases hx' : barr ns q x with
      | true => exact absurd (List.any_eq_true.2 ⟨x, hx, hx'⟩) (by rw [hb]; simp)
      | false =>
        unfold barr mayQ at hx'
        simp only [Bool.not_eq_false', Bool.and_eq_true, Bool.or_eq_true] at hx'
        rcases hx'.1 with e | e
        · exact .inl (by simpa using e)
        · exact .inr (by simpa using e)
    · have hn' : q.ld = -1 := hn
      omega
  obtain ⟨k1, k2⟩ := end_li h1 ht
  have k0 : Goes q ⟨q.ld, q.ep, q.ve + 1, l, q.rs, q.ts⟩ := ⟨Int.le_refl _, by show q.ve ≤ q.ve + 1; omega, fun e => absurd rfl e⟩
  exact ⟨k1, k0.trans k2 ⟨rfl, rfl⟩⟩
theorem move_li {n : Nat} {ns : List Nd} {q : Pt} (h : LI n ns q) (h0 : q.ts.length = 0) {l : List Int} (hl : inN n l) : LI n ns (moveQ ns q l) ∧ Goes q (moveQ ns q l) := by
  have e0 : q.ts = [] := List.length_eq_zero_iff.1 h0
  have h1 : LI n ns ⟨q.ld, q.ep, q.ve, q.is, q.rs, l⟩ := ⟨h.nn, h.is0, h.rs0, (fun x hx => by
    rcases h.sub x hx with e | e
    · exact .inl e
    · rw [e0] at e; cases e), h.led, h.non⟩
  obtain ⟨k1, k2⟩ := end_li h1 hl
  have k0 : Goes q ⟨q.ld, q.ep, q.ve, q.is, q.rs, l⟩ := ⟨Int.le_refl _, Int.le_refl _, fun e => absurd rfl e⟩
  exact ⟨k1, k0.trans k2 ⟨rfl, rfl⟩⟩
end Go.Proofs.Ythaedepnglincaa
