/-
  wire.Decode of any text. Conditions: the bytes as they lie.
-/
import Derived.Test.YtblmondkdcpkaaaZ16
import Derived.Test.YtblmondkdcpkaaaZ19
import Derived.Test.YtblmondkdcpkaaaZ26
import Derived.Test.YtblmondkdcpkaaaZ25
import Derived.Test.YtblmondkdcpkaaaZ22
import Derived.Test.YtblmondkdcpkaaaZ24

/-
  wire's head, of any reader. Conditions: none.
-/
namespace Go.Proofs.Ytblmondkdcpkaaa
open Go.RowKit
set_option linter.unusedVariables false

theorem hd_any : HdAll := fun h e1 e2 e3 e4 e5 => whead_any h e1 e2 e3 e4 e5
end Go.Proofs.Ytblmondkdcpkaaa


/-
  A message's bytes that were read without an error are those that it is written as, in plain words. No Go text is read here. No conditions.
-/
namespace Go.Proofs.Ytblmondkdcpkaaa
open Go.RowKit
set_option linter.unusedVariables false

/-- From s to s' just x is read. -/
def Goes (t : List Nat) (s : Rst) (x : List Nat) (s' : Rst) : Prop := ∀ u, Ahead t s u → ∃ u', u = x ++ u' ∧ Ahead t s' u'
section
variable {t x y : List Nat} {s s' s'' : Rst}
theorem Goes.trans (h : Goes t s x s') (g : Goes t s' y s'') : Goes t s (x ++ y) s'' := fun u hu => by
  obtain ⟨u1, e1, a1⟩ := h u hu
  obtain ⟨u2, e2, a2⟩ := g u1 a1
  exact ⟨u2, by rw [e1, e2, List.append_assoc], a2⟩
theorem Goes.done (h : Goes t ⟨0, 0⟩ x s') (he : rE t s' = 0) : x = t := by
  obtain ⟨u, e, a⟩ := h t (Ahead.start t)
  have h1 := rE_zero he a.pl
  have h2 := a.rest
  rw [h1.2, List.drop_length] at h2
  rw [e, ← h2, List.append_nil]
variable (hy : ∀ x ∈ t, x < 256)
include hy
theorem gU {n : Nat} (e : rU t s = (n, s')) (h : s'.er = 0) : s.er = 0 ∧ Goes t s (enc n) s' := by
  have h' : (rU t s).2.er = 0 := by rw [e]; exact h
  refine ⟨rU_from h', fun u hu => ?_⟩
  have := hu.backU hy h'
  rw [e] at this
  exact this
theorem gI {n : Int} (e : rI t s = (n, s')) (h : s'.er = 0) : s.er = 0 ∧ Goes t s (enc (zig n)) s' := by
  have h' : (rI t s).2.er = 0 := by rw [e]; exact h
  refine ⟨rI_from h', fun u hu => ?_⟩
  have := hu.backI hy h'
  rw [e] at this
  exact this
theorem gF {q : Bool} (e : rF t s = (q, s')) (h : s'.er = 0) : s.er = 0 ∧ Goes t s [q.toNat] s' := by
  have h' : (rF t s).2.er = 0 := by rw [e]; exact h
  refine ⟨rF_from h', fun u hu => ?_⟩
  have := hu.backF hy h'
  rw [e, enc_lt (by show q.toNat < 128; cases q <;> decide)] at this
  exact this
theorem gB {d : List Nat} (e : rB t s = (d, s')) (h : s'.er = 0) : s.er = 0 ∧ Goes t s (enc d.length ++ d) s' := by
  have h' : (rB t s).2.er = 0 := by rw [e]; exact h
  refine ⟨rB_from h', fun u hu => ?_⟩
  have := hu.backB hy h'
  rw [e] at this
  exact this
theorem gNs : ∀ (k : Nat) {s s' : Rst} {l l' : List Int}, rNs t k s l = (l', s') → s'.er = 0 → s.er = 0 ∧ ∃ r, l' = l ++ r ∧ r.length = k ∧ Goes t s (encL r) s' := by
  intro k
  induction k with
  | zero =>
    intro s s' l l' e h
    simp only [rNs, Prod.mk.injEq] at e
    obtain ⟨rfl, rfl⟩ := e
    exact ⟨h, [], by simp, rfl, fun u hu => ⟨u, by simp [encL], hu⟩⟩
  | succ k ih =>
    intro s s' l l' e h
    rw [rNs] at e
    by_cases h0 : (rI t s).2.er = 0
    · rw [if_pos h0] at e
      obtain ⟨_, r, e1, e2, e3⟩ := ih e h
      obtain ⟨f1, f2⟩ := gI hy (n := (rI t s).1) (s' := (rI t s).2) rfl h0
      refine ⟨f1, (rI t s).1 :: r, by rw [e1]; simp, by simp [e2], ?_⟩
      have : encL ((rI t s).1 :: r) = enc (zig (rI t s).1) ++ encL r := by simp [encL]
      rw [this]
      exact f2.trans e3
    · rw [if_neg h0] at e
      simp only [Prod.mk.injEq] at e
      obtain ⟨_, rfl⟩ := e
      exact absurd h h0
theorem gL {l : List Int} (e : rL t s = (l, s')) (h : s'.er = 0) : s.er = 0 ∧ Goes t s (enc l.length ++ encL l) s' := by
  unfold rL at e
  by_cases h0 : (rU t s).2.er = 0
  · rw [if_pos h0] at e
    by_cases h1 : 4096 < (rU t s).1
    · rw [if_pos h1] at e
      simp only [Prod.mk.injEq] at e
      obtain ⟨_, rfl⟩ := e
      simp at h
    · rw [if_neg h1] at e
      obtain ⟨_, r, e1, e2, e3⟩ := gNs hy _ e h
      obtain ⟨f1, f2⟩ := gU hy (n := (rU t s).1) (s' := (rU t s).2) rfl h0
      have : l = r := by rw [e1]; simp
      subst this
      rw [e2]
      exact ⟨f1, f2.trans e3⟩
  · rw [if_neg h0] at e
    simp only [Prod.mk.injEq] at e
    obtain ⟨_, rfl⟩ := e
    exact absurd h h0
omit hy in
theorem gN {α : Type} {one : Rst → Int × α × Rst} {encO : α → List Nat} (ho : ∀ s, (one s).1 = 0 → (one s).2.2.er = 0 → s.er = 0 ∧ Goes t s (encO (one s).2.1) (one s).2.2) :
    ∀ (k : Nat) {s s' : Rst} {l : List α}, rN one k s = (0, l, s') → s'.er = 0 → s.er = 0 ∧ l.length = k ∧ Goes t s (l.flatMap encO) s' := by
  intro k
  induction k with
  | zero =>
    intro s s' l e h
    simp only [rN, Prod.mk.injEq] at e
    obtain ⟨_, rfl, rfl⟩ := e
    exact ⟨h, rfl, fun u hu => ⟨u, by simp, hu⟩⟩
  | succ k ih =>
    intro s s' l e h
    by_cases h0 : (one s).1 = 0
    · rw [rN_ok h0] at e
      simp only [Prod.mk.injEq] at e
      obtain ⟨e1, rfl, e3⟩ := e
      obtain ⟨f1, f2, f3⟩ := ih (s := (one s).2.2) (s' := s') (l := (rN one k (one s).2.2).2.1) (by rw [← e1, ← e3]) h
      obtain ⟨g1, g2⟩ := ho s h0 f1
      refine ⟨g1, by simp [f2], ?_⟩
      rw [List.flatMap_cons]
      exact g2.trans f3
    · rw [rN_no h0] at e
      simp only [Prod.mk.injEq] at e
      exact absurd e.1 h0
theorem gAll {α : Type} {one : Rst → Int × α × Rst} {encO : α → List Nat} (ho : ∀ s, (one s).1 = 0 → (one s).2.2.er = 0 → s.er = 0 ∧ Goes t s (encO (one s).2.1) (one s).2.2) {l : List α} (e : rAll t one s = (0, l, s')) (h : s'.er = 0) :
    s.er = 0 ∧ l.length ≤ 512 ∧ Goes t s (enc l.length ++ l.flatMap encO) s' := by
  unfold rAll at e
  by_cases h1 : 512 < (rU t s).1
  · rw [if_pos h1] at e
    simp at e
  · rw [if_neg h1] at e
    obtain ⟨f1, f2, f3⟩ := gN ho _ e h
    obtain ⟨g1, g2⟩ := gU hy (n := (rU t s).1) (s' := (rU t s).2) rfl f1
    rw [f2]
    exact ⟨g1, by omega, g2.trans f3⟩
def encEn (p : Int × List Nat) : List Nat := enc (zig p.1) ++ (enc p.2.length ++ p.2)
def encAb (p : Nat × Int × Int) : List Nat := enc p.1 ++ encL [p.2.1, p.2.2]
def encBa (B : Bt) : List Nat := if B.ctl = false ∧ B.vs.length = 0 then [] else encB B
def layBa (B : Bt) : List Nat := enc (encBa B).length ++ encBa B
theorem oneEn (s : Rst) (h0 : (rEn t s).1 = 0) (h : (rEn t s).2.2.er = 0) : s.er = 0 ∧ Goes t s (encEn (rEn t s).2.1) (rEn t s).2.2 := by
  obtain ⟨f1, f2⟩ := gB hy (d := (rB t (rI t s).2).1) (s' := (rB t (rI t s).2).2) rfl h
  obtain ⟨g1, g2⟩ := gI hy (n := (rI t s).1) (s' := (rI t s).2) rfl f1
  exact ⟨g1, g2.trans f2⟩
theorem oneAb (s : Rst) (h0 : (rAb t s).1 = 0) (h : (rAb t s).2.2.er = 0) : s.er = 0 ∧ Goes t s (encAb (rAb t s).2.1) (rAb t s).2.2 := by
  obtain ⟨f1, f2⟩ := gI hy (n := (rI t (rI t (rU t s).2).2).1) (s' := (rI t (rI t (rU t s).2).2).2) rfl h
  obtain ⟨f3, f4⟩ := gI hy (n := (rI t (rU t s).2).1) (s' := (rI t (rU t s).2).2) rfl f1
  obtain ⟨g1, g2⟩ := gU hy (n := (rU t s).1) (s' := (rU t s).2) rfl f3
  refine ⟨g1, ?_⟩
  have : encAb (rAb t s).2.1 = enc (rU t s).1 ++ (enc (zig (rI t (rU t s).2).1) ++ enc (zig (rI t (rI t (rU t s).2).2).1)) := by simp [encAb, rAb, encL]
  rw [this]
  exact g2.trans (f4.trans f2)
omit hy in
theorem ba_back {d : List Nat} (hd : ∀ x ∈ d, x < 256) (h : baE d = 0) : encBa (baB d) = d ∧ batE (baB d) = 0 := by
  by_cases h0 : d.length = 0
  · have : d = [] := List.length_eq_zero_iff.1 h0
    subst this
    exact ⟨rfl, rfl⟩
  · have hB : baB d = decB d := by unfold baB; rw [if_neg h0]
    have hE : decE d = 0 := by unfold baE at h; rw [if_neg h0] at h; omega
    obtain ⟨c1, c2⟩ := and_back hd hE
    rw [hB, decB_ok hE]
    have hk : ¬ ((rawB d).ctl = false ∧ (rawB d).vs.length = 0) := fun hh => by
      have : chk (rawB d) ≠ 0 := by
        unfold chk
        split
        · decide
        · rw [if_pos (.inr (.inr ⟨hh.1, .inl hh.2⟩))]
          decide
      exact this c1
    unfold encBa batE
    rw [if_neg hk, if_neg hk, c1]
    exact ⟨c2, rfl⟩
theorem rB_bytes : ∀ x ∈ (rB t s).1, x < 256 := by
  unfold rB
  split
  · split
    · intro x hx; cases hx
    · split
      · intro x hx
        exact hy x (List.mem_of_mem_drop (List.mem_of_mem_take hx))
      · intro x hx; cases hx
  · intro x hx; cases hx
theorem oneBa (s : Rst) (h0 : (rBa t s).1 = 0) (h : (rBa t s).2.2.er = 0) : s.er = 0 ∧ Goes t s (layBa (rBa t s).2.1) (rBa t s).2.2 := by
  obtain ⟨f1, f2⟩ := gB hy (d := (rB t s).1) (s' := (rB t s).2) rfl h
  refine ⟨f1, ?_⟩
  have e : encBa (rBa t s).2.1 = (rB t s).1 := (ba_back (rB_bytes hy) h0).1
  unfold layBa
  rw [e]
  exact f2
end
end Go.Proofs.Ytblmondkdcpkaaa


/-
  What a message is written as, where nothing of it is too long, in plain words; and that it is read back so. No Go text is read here. No conditions.
-/
namespace Go.Proofs.Ytblmondkdcpkaaa
open Go.RowKit
set_option linter.unusedVariables false

theorem wX_ok (l x : List Nat) : wX (l, false) x = (l ++ x, false) := rfl
theorem wB_ok (l : List Nat) {d : List Nat} (h : d.length ≤ 4096) : wB (l, false) d = (l ++ (enc d.length ++ d), false) := by
  unfold wB
  rw [if_neg (by omega)]
  rfl
theorem foldEn : ∀ (os : List En) (l : List Nat), (∀ o ∈ os, o.d.length ≤ 4096) → os.foldl stepEn (l, false) = (l ++ (os.map En.vl).flatMap encEn, false)
  | [], l, _ => by simp
  | o :: r, l, h => by
    rw [List.foldl_cons]
    have e : stepEn (l, false) o = (l ++ encEn o.vl, false) := by
      unfold stepEn layE
      rw [wX_ok, wB_ok _ (h o (by simp))]
      simp [encEn, En.vl]
    rw [e, foldEn r _ (fun x hx => h x (by simp [hx]))]
    simp
theorem foldAb : ∀ (os : List Ab) (l : List Nat), os.foldl stepAb (l, false) = (l ++ (os.map Ab.vl).flatMap encAb, false)
  | [], l => by simp
  | o :: r, l => by
    rw [List.foldl_cons]
    have e : stepAb (l, false) o = (l ++ encAb o.vl, false) := by
      unfold stepAb layA
      rw [wX_ok, wX_ok]
      simp [encAb, Ab.vl]
    rw [e, foldAb r]
    simp
theorem bat_ok {B : Bt} (hf : B.Fits) (h : batE B = 0) (l : List Nat) : batS (l, false) B = (l ++ layBa B, false) := by
  unfold batS layBa encBa
  by_cases hz : B.ctl = false ∧ B.vs.length = 0
  · rw [if_pos hz, if_pos hz, wB_ok _ (by decide)]
  · rw [if_neg hz, if_neg hz]
    have hc : chk B = 0 := by unfold batE at h; rw [if_neg hz] at h; omega
    have := encB_len hf hc
    rw [wB_ok _ (by omega)]
theorem foldBa : ∀ (os : List Ba) (l : List Nat), (∀ o ∈ os, o.b.Fits ∧ batE o.b = 0) → os.foldl stepBa (l, false) = (l ++ (os.map Ba.vl).flatMap layBa, false)
  | [], l, _ => by simp
  | o :: r, l, h => by
    rw [List.foldl_cons]
    have e : stepBa (l, false) o = (l ++ layBa o.vl, false) := bat_ok (h o (by simp)).1 (h o (by simp)).2 l
    rw [e, foldBa r _ (fun x hx => h x (by simp [hx]))]
    simp
theorem errs_none : ∀ (os : List Ba), (∀ o ∈ os, batE o.b = 0) → errs os = 0
  | [], _ => rfl
  | o :: r, h => by
    rw [errs, if_neg (by rw [h o (by simp)]; decide)]
    exact errs_none r (fun x hx => h x (by simp [hx]))
theorem cnt_few {n : Nat} (h : n ≤ 512) : cntE n = 0 := by unfold cntE; rw [if_neg (by omega)]
theorem fin_of {m : Mg} {L : List Nat} (hk : kndE m.kd = 0) (hr : restE m = 0) (hs : restS (encL [m.kd, m.fr, m.tt, m.co, m.er], false) m = (L, false)) : finE m = 0 ∧ finL m = L := by
  have e : msgS ([], false) m = (L, false) := hs
  have h1 : msgE m = 0 := by unfold msgE; rw [if_neg (by omega)]; exact hr
  have h2 : finE m = 0 := by unfold finE; rw [h1, e]; rfl
  refine ⟨h2, ?_⟩
  unfold finL
  rw [if_pos h2, e]
theorem rN_all {α : Type} {one : Rst → Int × α × Rst} {P : α → Prop} (ho : ∀ s, (one s).1 = 0 → P (one s).2.1) : ∀ (k : Nat) (s : Rst), ∀ x ∈ (rN one k s).2.1, P x := by
  intro k
  induction k with
  | zero => intro s x hx; cases hx
  | succ k ih =>
    intro s x hx
    by_cases h0 : (one s).1 = 0
    · rw [rN_ok h0] at hx
      rcases List.mem_cons.1 hx with e | e
      · subst e
        exact ho s h0
      · exact ih _ x e
    · rw [rN_no h0] at hx
      cases hx
theorem rAll_all {α : Type} {t : List Nat} {one : Rst → Int × α × Rst} {P : α → Prop} (ho : ∀ s, (one s).1 = 0 → P (one s).2.1) {s s' : Rst} {E : Int} {l : List α} (e : rAll t one s = (E, l, s')) : ∀ x ∈ l, P x := by
  unfold rAll at e
  intro x hx
  split at e
  · simp only [Prod.mk.injEq] at e
    rw [← e.2.1] at hx
    cases hx
  · have := rN_all ho (rU t s).1 (rU t s).2
    rw [e] at this
    exact this x hx
theorem rE_er {t : List Nat} {s : Rst} (h : rE t s = 0) : s.er = 0 := by
  unfold rE at h
  split at h
  · omega
  · omega
theorem ba_good {t : List Nat} (hy : ∀ x ∈ t, x < 256) (s : Rst) (h0 : (rBa t s).1 = 0) : (rBa t s).2.1.Fits ∧ batE (rBa t s).2.1 = 0 := by
  have hb : ∀ x ∈ (rB t s).1, x < 256 := rB_bytes hy
  refine ⟨?_, (ba_back hb h0).2⟩
  show (baB (rB t s).1).Fits
  unfold baB
  split
  · exact zeroB_fits
  · exact decB_fits hb
theorem cmd_goes {x : List Nat} (hy : ∀ z ∈ x, z < 256) {y1 y2 y3 y4 y5 : Int} {l : List Int} {s1 s2 s3 s4 s5 s6 : Rst} (g1 : rI x ⟨0, 0⟩ = (y1, s1)) (g2 : rI x s1 = (y2, s2)) (g3 : rI x s2 = (y3, s3)) (g4 : rI x s3 = (y4, s4)) (g5 : rI x s4 = (y5, s5)) (g6 : rL x s5 = (l, s6)) (hE : rE x s6 = 0) :
    encC ⟨y1, y2, y3, y4, y5, none, 0, l⟩ = x := by
  have h6 := rE_er hE
  obtain ⟨h5, f6⟩ := gL hy g6 h6
  obtain ⟨h4, f5⟩ := gI hy g5 h5
  obtain ⟨h3, f4⟩ := gI hy g4 h4
  obtain ⟨h2, f3⟩ := gI hy g3 h3
  obtain ⟨h1, f2⟩ := gI hy g2 h2
  obtain ⟨h0, f1⟩ := gI hy g1 h1
  exact (((((f1.trans f2).trans f3).trans f4).trans f5).trans f6).done hE
theorem cmd_back {x : List Nat} (hy : ∀ z ∈ x, z < 256) (h : cmdX x = 0) : isC (rawC x) = true ∧ encC (rawC x) = x := by
  unfold cmdX at h
  by_cases hE : rE x (c6 x).2 = 0
  · rw [if_neg (by omega)] at h
    have hC : isC (rawC x) = true := by
      split at h
      · assumption
      · cases h
    exact ⟨hC, cmd_goes hy (pair_eq (c1 x)) (pair_eq (c2 x)) (pair_eq (c3 x)) (pair_eq (c4 x)) (pair_eq (c5 x)) (pair_eq (c6 x)) hE⟩
  · rw [if_pos hE] at h
    omega
theorem restE_o {m : Mg} (n1 : ¬ m.kd = 1) (n2 : ¬ m.kd = 2) (n3 : ¬ m.kd = 3) (n4 : ¬ m.kd = 4) : restE m = fst0 [cntE m.ms.length, batE m.B, cntE m.bs.length, errs m.bs, cntE m.ab.length] := by
  unfold restE
  rw [if_neg n1, if_neg n2, if_neg n3, if_neg n4]
theorem restS_o {m : Mg} {s : Ws} (n1 : ¬ m.kd = 1) (n2 : ¬ m.kd = 2) (n3 : ¬ m.kd = 3) (n4 : ¬ m.kd = 4) : restS s m = othersS s m := by
  unfold restS
  rw [if_neg n1, if_neg n2, if_neg n3, if_neg n4]
section
variable {t : List Nat} (hy : ∀ x ∈ t, x < 256) {k1 k2 k3 k4 k5 : Int} {t1 t2 t3 t4 s0 : Rst} (d1 : rI t ⟨0, 0⟩ = (k1, t1)) (d2 : rI t t1 = (k2, t2)) (d3 : rI t t2 = (k3, t3)) (d4 : rI t t3 = (k4, t4)) (d5 : rI t t4 = (k5, s0))
include hy d1 d2 d3 d4 d5
theorem head_goes (h : s0.er = 0) : Goes t ⟨0, 0⟩ (encL [k1, k2, k3, k4, k5]) s0 := by
  obtain ⟨h4, g5⟩ := gI hy d5 h
  obtain ⟨h3, g4⟩ := gI hy d4 h4
  obtain ⟨h2, g3⟩ := gI hy d3 h3
  obtain ⟨h1, g2⟩ := gI hy d2 h2
  obtain ⟨h0, g1⟩ := gI hy d1 h1
  have : encL [k1, k2, k3, k4, k5] = enc (zig k1) ++ (enc (zig k2) ++ (enc (zig k3) ++ (enc (zig k4) ++ enc (zig k5)))) := by simp [encL]
  rw [this]
  exact g1.trans (g2.trans (g3.trans (g4.trans g5)))
theorem back_fetch {x1 x2 x3 x4 x5 : Int} {s1 s2 s3 s4 s5 : Rst} (hk : k1 = 2) (e1 : rI t s0 = (x1, s1)) (e2 : rI t s1 = (x2, s2)) (e3 : rI t s2 = (x3, s3)) (e4 : rI t s3 = (x4, s4)) (e5 : rI t s4 = (x5, s5)) (he : rE t s5 = 0) (hp : s5.er = 0)
    {m : Mg} (hm : m = { hdM k1 k2 k3 k4 k5 with f1 := x1, f2 := x2, f3 := x3, f4 := x4, f5 := x5 }) : finE m = 0 ∧ finL m = t := by
  obtain ⟨h4, g5⟩ := gI hy e5 hp
  obtain ⟨h3, g4⟩ := gI hy e4 h4
  obtain ⟨h2, g3⟩ := gI hy e3 h3
  obtain ⟨h1, g2⟩ := gI hy e2 h2
  obtain ⟨h0, g1⟩ := gI hy e1 h1
  have gg := (head_goes hy d1 d2 d3 d4 d5 h0).trans (g1.trans (g2.trans (g3.trans (g4.trans g5))))
  have ht := gg.done he
  subst hk
  rw [← ht]
  refine fin_of (by rw [hm]; rfl) (by rw [hm]; rfl) ?_
  rw [hm]
  show fetchS _ _ = _
  unfold fetchS
  rw [wX_ok]
  simp [encL]
  rfl
theorem back_raft {x1 x2 x3 x4 x5 x6 x7 : Int} {x8 : Bool} {x9 : List (Int × List Nat)} {x10 : List Nat} {s1 s2 s3 s4 s5 s6 s7 s8 s9 s10 : Rst} (hk : k1 = 1) (e1 : rI t s0 = (x1, s1)) (e2 : rI t s1 = (x2, s2)) (e3 : rI t s2 = (x3, s3)) (e4 : rI t s3 = (x4, s4)) (e5 : rI t s4 = (x5, s5)) (e6 : rI t s5 = (x6, s6)) (e7 : rI t s6 = (x7, s7)) (e8 : rF t s7 = (x8, s8)) (e9 : rAll t (rEn t) s8 = (0, x9, s9)) (e10 : rB t s9 = (x10, s10)) (he : rE t s10 = 0)
    {m : Mg} (hm : ∃ (os : List En) (ea : Option Addr) (ec : Nat) (sa : Option Addr) (sc : Nat), m = { hdM k1 k2 k3 k4 k5 with r1 := x1, r2 := x2, r3 := x3, r4 := x4, r5 := x5, r6 := x6, r7 := x7, rj := x8, en := os, ea := ea, ec := ec, sn := x10, sa := sa, sc := sc } ∧ os.map En.vl = x9) : finE m = 0 ∧ finL m = t := by
  obtain ⟨os, ea, ec, sa, sc, hm, ho⟩ := hm
  have hp := rE_er he
  obtain ⟨h9, g10⟩ := gB hy e10 hp
  obtain ⟨h8, hn, g9⟩ := gAll hy (oneEn hy) e9 h9
  obtain ⟨h7, g8⟩ := gF hy e8 h8
  obtain ⟨h6, g7⟩ := gI hy e7 h7
  obtain ⟨h5, g6⟩ := gI hy e6 h6
  obtain ⟨h4, g5⟩ := gI hy e5 h5
  obtain ⟨h3, g4⟩ := gI hy e4 h4
  obtain ⟨h2, g3⟩ := gI hy e3 h3
  obtain ⟨h1, g2⟩ := gI hy e2 h2
  obtain ⟨h0, g1⟩ := gI hy e1 h1
  have gg := (head_goes hy d1 d2 d3 d4 d5 h0).trans (g1.trans (g2.trans (g3.trans (g4.trans (g5.trans (g6.trans (g7.trans (g8.trans (g9.trans g10)))))))))
  have ht := gg.done he
  have hl : os.length = x9.length := by rw [← ho]; simp
  have hd : ∀ o ∈ os, o.d.length ≤ 4096 := fun o hoo => by
    have := rAll_all (P := fun p : Int × List Nat => p.2.length ≤ 4096) (fun s _ => rB_len) e9 o.vl (by rw [← ho]; exact List.mem_map_of_mem hoo)
    exact this
  have hx : x10.length ≤ 4096 := by have := rB_len (t := t) (s := s9); rw [e10] at this; exact this
  subst hk
  rw [← ht]
  refine fin_of (by rw [hm]; rfl) (by rw [hm]; show fst0 [cntE os.length] = 0; rw [cnt_few (by omega)]; rfl) ?_
  rw [hm]
  show wB (os.foldl stepEn (wX (wX (wX (encL [1, k2, k3, k4, k5], false) (encL [x1, x2, x3, x4, x5, x6, x7])) [x8.toNat]) (enc os.length))) x10 = _
  rw [wX_ok, wX_ok, wX_ok, foldEn _ _ hd, wB_ok _ hx, ho, hl]
  simp [encL]
theorem back_fetched {x1 x2 x3 x4 x5 x6 x7 x8 : Int} {x9 : Bool} {x10 : List Bt} {s1 s2 s3 s4 s5 s6 s7 s8 s9 s10 : Rst} (hk : k1 = 3) (e1 : rI t s0 = (x1, s1)) (e2 : rI t s1 = (x2, s2)) (e3 : rI t s2 = (x3, s3)) (e4 : rI t s3 = (x4, s4)) (e5 : rI t s4 = (x5, s5)) (e6 : rI t s5 = (x6, s6)) (e7 : rI t s6 = (x7, s7)) (e8 : rI t s7 = (x8, s8)) (e9 : rF t s8 = (x9, s9)) (e10 : rAll t (rBa t) s9 = (0, x10, s10)) (he : rE t s10 = 0)
    {m : Mg} (hm : ∃ (os : List Ba) (ea : Option Addr) (ec : Nat), m = { hdM k1 k2 k3 k4 k5 with g1 := x1, g2 := x2, g3 := x3, g4 := x4, gd := x9, g5 := x5, g6 := x6, g7 := x7, g8 := x8, gb := os, ga := ea, gc := ec } ∧ os.map Ba.vl = x10) : finE m = 0 ∧ finL m = t := by
  obtain ⟨os, ea, ec, hm, ho⟩ := hm
  have hp := rE_er he
  obtain ⟨h9, hn, g10⟩ := gAll hy (oneBa hy) e10 hp
  obtain ⟨h8, g9⟩ := gF hy e9 h9
  obtain ⟨h7, g8⟩ := gI hy e8 h8
  obtain ⟨h6, g7⟩ := gI hy e7 h7
  obtain ⟨h5, g6⟩ := gI hy e6 h6
  obtain ⟨h4, g5⟩ := gI hy e5 h5
  obtain ⟨h3, g4⟩ := gI hy e4 h4
  obtain ⟨h2, g3⟩ := gI hy e3 h3
  obtain ⟨h1, g2⟩ := gI hy e2 h2
  obtain ⟨h0, g1⟩ := gI hy e1 h1
  have gg := (head_goes hy d1 d2 d3 d4 d5 h0).trans (g1.trans (g2.trans (g3.trans (g4.trans (g5.trans (g6.trans (g7.trans (g8.trans (g9.trans g10)))))))))
  have ht := gg.done he
  have hl : os.length = x10.length := by rw [← ho]; simp
  have hd : ∀ o ∈ os, o.b.Fits ∧ batE o.b = 0 := fun o hoo => rAll_all (P := fun B : Bt => B.Fits ∧ batE B = 0) (ba_good hy) e10 o.vl (by rw [← ho]; exact List.mem_map_of_mem hoo)
  subst hk
  rw [← ht]
  refine fin_of (by rw [hm]; rfl) (by rw [hm]; show fst0 [cntE os.length, errs os] = 0; rw [cnt_few (by omega), errs_none os (fun o h => (hd o h).2)]; rfl) ?_
  rw [hm]
  show os.foldl stepBa (wX (wX (wX (encL [3, k2, k3, k4, k5], false) (encL [x1, x2, x3, x4, x5, x6, x7, x8])) [x9.toNat]) (enc os.length)) = _
  rw [wX_ok, wX_ok, wX_ok, foldBa _ _ hd, ho, hl]
  simp [encL]
theorem back_cmd {x1 : List Nat} {s1 : Rst} (hk : k1 = 4) (e1 : rB t s0 = (x1, s1)) (hc : cmdX x1 = 0) (he : rE t s1 = 0)
    {m : Mg} (hm : ∃ c : Cm, m = { hdM k1 k2 k3 k4 k5 with c := c } ∧ { c with a := none, k := 0 } = rawC x1) : finE m = 0 ∧ finL m = t := by
  obtain ⟨c, hm, ho⟩ := hm
  have hp := rE_er he
  obtain ⟨h0, g1⟩ := gB hy e1 hp
  have gg := (head_goes hy d1 d2 d3 d4 d5 h0).trans g1
  have ht := gg.done he
  have hx : x1.length ≤ 4096 := by have := rB_len (t := t) (s := s0); rw [e1] at this; exact this
  have hb : ∀ x ∈ x1, x < 256 := by have := rB_bytes (s := s0) hy; rw [e1] at this; exact this
  obtain ⟨hC, hE⟩ := cmd_back hb hc
  have e2 : encC c = x1 := by
    have : encC c = encC { c with a := none, k := 0 } := rfl
    rw [this, ho]
    exact hE
  have e3 : isC c = true := by
    have : isC c = isC { c with a := none, k := 0 } := rfl
    rw [this, ho]
    exact hC
  subst hk
  rw [← ht]
  refine fin_of (by rw [hm]; rfl) (by rw [hm]; show cmdE c = 0; unfold cmdE; rw [if_pos e3]) ?_
  rw [hm]
  show wB (encL [4, k2, k3, k4, k5], false) (encC c) = _
  rw [e2, wB_ok _ hx]
theorem back_others {x1 x2 x3 x4 x5 x6 x7 x8 x9 : Int} {x10 : Nat} {x11 : Bool} {ms : List Int} {xb : List Nat} {lb : List Bt} {la : List (Nat × Int × Int)} {s1 s2 s3 s4 s5 s6 s7 s8 s9 s10 s11 s12 s13 s14 s15 : Rst} {EB EA : Int} (hk : 4 < k1 ∧ k1 ≤ 15) (e1 : rI t s0 = (x1, s1)) (e2 : rI t s1 = (x2, s2)) (e3 : rI t s2 = (x3, s3)) (e4 : rI t s3 = (x4, s4)) (e5 : rI t s4 = (x5, s5)) (e6 : rI t s5 = (x6, s6)) (e7 : rI t s6 = (x7, s7)) (e8 : rI t s7 = (x8, s8)) (e9 : rI t s8 = (x9, s9)) (e10 : rU t s9 = (x10, s10)) (e11 : rF t s10 = (x11, s11)) (e12 : rL t s11 = (ms, s12)) (e13 : rB t s12 = (xb, s13)) (e14 : rAll t (rBa t) s13 = (EB, lb, s14)) (e15 : rAll t (rAb t) s14 = (EA, la, s15)) (hO : oE ms xb EB EA = 0) (he : rE t s15 = 0)
    {m : Mg} (hm : ∃ L : OL, m = L.put ms { hdM k1 k2 k3 k4 k5 with o1 := x1, o2 := x2, o3 := x3, o4 := x4, o5 := x5, o6 := x6, o7 := x7, o8 := x8, o9 := x9, pid := x10, cm := x11 } ∧ OLV L xb lb la) : finE m = 0 ∧ finL m = t := by
  obtain ⟨L, hm, ov⟩ := hm
  have hp := rE_er he
  have hms : ¬ 512 < ms.length := fun h => by rw [oE_one h] at hO; cases hO
  have hbe : baE xb = 0 := Decidable.byContradiction fun h => by rw [oE_two hms h] at hO; exact h hO
  have hEB : EB = 0 := Decidable.byContradiction fun h => by rw [oE_three hms hbe h] at hO; exact h hO
  have hEA : EA = 0 := by rw [oE_four hms hbe hEB] at hO; exact hO
  subst hEB hEA
  obtain ⟨h14, hn2, g15⟩ := gAll hy (oneAb hy) e15 hp
  obtain ⟨h13, hn1, g14⟩ := gAll hy (oneBa hy) e14 h14
  obtain ⟨h12, g13⟩ := gB hy e13 h13
  obtain ⟨h11, g12⟩ := gL hy e12 h12
  obtain ⟨h10, g11⟩ := gF hy e11 h11
  obtain ⟨h9, g10⟩ := gU hy e10 h10
  obtain ⟨h8, g9⟩ := gI hy e9 h9
  obtain ⟨h7, g8⟩ := gI hy e8 h8
  obtain ⟨h6, g7⟩ := gI hy e7 h7
  obtain ⟨h5, g6⟩ := gI hy e6 h6
  obtain ⟨h4, g5⟩ := gI hy e5 h5
  obtain ⟨h3, g4⟩ := gI hy e4 h4
  obtain ⟨h2, g3⟩ := gI hy e3 h3
  obtain ⟨h1, g2⟩ := gI hy e2 h2
  obtain ⟨h0, g1⟩ := gI hy e1 h1
  have gg := (head_goes hy d1 d2 d3 d4 d5 h0).trans (g1.trans (g2.trans (g3.trans (g4.trans (g5.trans (g6.trans (g7.trans (g8.trans (g9.trans (g10.trans (g11.trans (g12.trans (g13.trans (g14.trans g15))))))))))))))
  have ht := gg.done he
  have hl1 : L.bs.length = lb.length := by rw [← ov.bs]; simp
  have hl2 : L.ab.length = la.length := by rw [← ov.ab]; simp
  have hd : ∀ o ∈ L.bs, o.b.Fits ∧ batE o.b = 0 := fun o hoo => rAll_all (P := fun B : Bt => B.Fits ∧ batE B = 0) (ba_good hy) e14 o.vl (by rw [← ov.bs]; exact List.mem_map_of_mem hoo)
  have hb : ∀ x ∈ xb, x < 256 := by have := rB_bytes (s := s12) hy; rw [e13] at this; exact this
  obtain ⟨q1, q2⟩ := ba_back hb hbe
  have hf : (baB xb).Fits := by unfold baB; split; exact zeroB_fits; exact decB_fits hb
  have hkd : m.kd = k1 := by rw [hm]; rfl
  have n1 : ¬ m.kd = 1 := by omega
  have n2 : ¬ m.kd = 2 := by omega
  have n3 : ¬ m.kd = 3 := by omega
  have n4 : ¬ m.kd = 4 := by omega
  have hlb : layBa L.B.b = enc xb.length ++ xb := by unfold layBa; rw [ov.b, q1]
  rw [← ht]
  refine fin_of (by rw [hkd]; unfold kndE; rw [if_neg (by omega)]) ?_ ?_
  · rw [restE_o n1 n2 n3 n4, hm]
    show fst0 [cntE ms.length, batE L.B.b, cntE L.bs.length, errs L.bs, cntE L.ab.length] = 0
    rw [cnt_few (by omega), ov.b, q2, cnt_few (by omega), errs_none L.bs (fun o h => (hd o h).2), cnt_few (by omega)]
    rfl
  · rw [restS_o n1 n2 n3 n4, hm]
    show L.ab.foldl stepAb (wX (L.bs.foldl stepBa (wX (batS (wX (wX (wX (wX (encL [k1, k2, k3, k4, k5], false) (encL [x1, x2, x3, x4, x5, x6, x7, x8, x9])) (enc x10)) [x11.toNat]) (enc ms.length ++ encL ms)) L.B.b) (enc L.bs.length))) (enc L.ab.length)) = _
    rw [wX_ok, wX_ok, wX_ok, wX_ok, bat_ok (by rw [ov.b]; exact hf) (by rw [ov.b]; exact q2), wX_ok, foldBa _ _ hd, wX_ok, foldAb, ov.bs, ov.ab, hl1, hl2, hlb]
    simp [encL]
end
end Go.Proofs.Ytblmondkdcpkaaa


/-
  What is wrong with a text as a message first, as a function of the text, in plain words. No Go text is read here. No conditions.
-/
namespace Go.Proofs.Ytblmondkdcpkaaa
open Go.RowKit
set_option linter.unusedVariables false

/-- The state behind n numbers. -/
def nI (t : List Nat) : Nat → Rst → Rst
  | 0, s => s
  | n + 1, s => nI t n (rI t s).2
def pRaft (t : List Nat) (s : Rst) : Int := oneE (rAll t (rEn t) (rF t (nI t 7 s)).2).1 t (rB t (rAll t (rEn t) (rF t (nI t 7 s)).2).2.2).2
def pFetch (t : List Nat) (s : Rst) : Int := oneE 0 t (nI t 5 s)
def pFetched (t : List Nat) (s : Rst) : Int := oneE (rAll t (rBa t) (rF t (nI t 8 s)).2).1 t (rAll t (rBa t) (rF t (nI t 8 s)).2).2.2
def pCmd (t : List Nat) (s : Rst) : Int := oneE (cmdX (rB t s).1) t (rB t s).2
def pLst (t : List Nat) (s : Rst) : List Int × Rst := rL t (rF t (rU t (nI t 9 s)).2).2
def pOwn (t : List Nat) (s : Rst) : List Nat × Rst := rB t (pLst t s).2
def pBas (t : List Nat) (s : Rst) : Int × List Bt × Rst := rAll t (rBa t) (pOwn t s).2
def pAbs (t : List Nat) (s : Rst) : Int × List (Nat × Int × Int) × Rst := rAll t (rAb t) (pBas t s).2.2
def pOthers (t : List Nat) (s : Rst) : Int := oneE (oE (pLst t s).1 (pOwn t s).1 (pBas t s).1 (pAbs t s).1) t (pAbs t s).2.2
/-- What is wrong with a text first. -/
def pE (t : List Nat) : Int :=
  if kndE (rI t ⟨0, 0⟩).1 ≠ 0 then 1
  else if (rI t ⟨0, 0⟩).1 = 1 then pRaft t (nI t 5 ⟨0, 0⟩)
  else if (rI t ⟨0, 0⟩).1 = 2 then pFetch t (nI t 5 ⟨0, 0⟩)
  else if (rI t ⟨0, 0⟩).1 = 3 then pFetched t (nI t 5 ⟨0, 0⟩)
  else if (rI t ⟨0, 0⟩).1 = 4 then pCmd t (nI t 5 ⟨0, 0⟩)
  else pOthers t (nI t 5 ⟨0, 0⟩)
end Go.Proofs.Ytblmondkdcpkaaa


namespace Go.Proofs.Ytblmondkdcpkaaa
open Go.RowKit
set_option linter.unusedVariables false

/-- What Decode answers, and what holds behind it. -/
def DcW (Q : List Value → World → Prop) (w : World) (E : Int) (e : Ending) (w' : World) : Prop := ∃ L : List Value, Q L w' ∧ L.length = 59 ∧ e = .returned (.tuple #[.agg L.toArray, .int .i64 E]) ∧ Below w.heap.size w w'
def MsW (Q : List Value → World → Prop) (W : World) (b : Nat) (e : Ending) (w' : World) : Prop := MsT (fun L u => Keeps W.heap.size u.heap.size u (Q L) ∧ (L.length = 59 ∧ L.toArray.all (·.oneCell') = true) ∧ Touch (fun q => q = b ∨ W.heap.size ≤ q) W u) e w'
section
variable {w : World} {a : Option Addr} {cap : Nat} {t : List Nat}
set_option maxRecDepth 100000 in
set_option maxHeartbeats 8000000 in
theorem wdec_any {Q : List Value → World → Prop} (ht : LAt w a t) (hn : a = none → cap = 0) (hl : t.length ≤ 140737488355328)
    (MSG : ∀ W b a' cap', RdAt 97 W b a' cap' t ⟨0, 0⟩ → Calls Try.prog 35 #[.agg #[.pointer (some ⟨b, 0, none⟩)]] W fun e w' => MsW Q W b e w') :
    Calls Try.prog 13 #[.slice a t.length cap] w fun e w' => DcW Q w 0 e w' := by
  have hb1 := ((Below.refl w.heap.size w).alloc (Nat.le_refl _) (.cells (mgL mg0).toArray 41)).alloc (by simp) (.cells (mgL mg0).toArray 41)
  have H0 := hide (heap_old (.cells (mgL mg0).toArray 41) (heap_new w (.cells (mgL mg0).toArray 41)))
  have H1 := hide (heap_new (w.alloc (.cells (mgL mg0).toArray 41)) (.cells (mgL mg0).toArray 41))
  have hz1 : (w.alloc (.cells (mgL mg0).toArray 41)).heap.size = w.heap.size + 1 := by simp
  rw [hz1] at H1
  have hs2 : ((w.alloc (.cells (mgL mg0).toArray 41)).alloc (.cells (mgL mg0).toArray 41)).heap.size = w.heap.size + 2 := by simp
  have KN := hide (newreader_any ((w.alloc (.cells (mgL mg0).toArray 41)).alloc (.cells (mgL mg0).toArray 41)) a cap t (ht.later hb1) hn hl)
  have HB1 := hide hb1
  have HMSG := hide MSG
  have hmf : ∀ (fn : Fn) (first cap : Array Value) (w : World), (Instr.makeFunc fn first cap).run Try.prog w = .ok (.func fn first cap) w := fun _ _ _ _ => rfl
  clear ht hn hl hb1 hz1 MSG
  generalize t.length = tl at *
  go_enter Try.func13, Try.ntmps13
  go_upto_region 2 with fail
  change Code.wp _ _ _ _ ((w.alloc (.cells (mgL mg0).toArray 41)).alloc (.cells (mgL mg0).toArray 41))
  generalize (w.alloc (.cells (mgL mg0).toArray 41)).alloc (.cells (mgL mg0).toArray 41) = W2 at *
  go_wp2_with fail
  refine (unhide KN).mono ?_
  rintro e w3 ⟨b, a', cap', rfl, r3, b3, hb3, _⟩
  have bc := (Below.refl w3.heap.size w3).alloc (Nat.le_refl _) (.cells #[.pointer (some ⟨b, 0, none⟩)] 84)
  have R3 := hide (r3.later bc)
  have C3 := hide (heap_new w3 (.cells #[.pointer (some ⟨b, 0, none⟩)] 84))
  have H03 := hide (below_keep bc (below_keep b3 (unhide H0)))
  have H13 := hide (below_keep bc (below_keep b3 (unhide H1)))
  have b13 := ((unhide HB1).trans (b3.mono (unhide HB1).size)).trans (bc.mono (Nat.le_trans (unhide HB1).size b3.size))
  have B3 := hide b13
  have hbb : w.heap.size + 2 ≤ b := by omega
  have hbl : b < w3.heap.size := r3.lt
  have hw3 : w3.heap.size < (w3.alloc (.cells #[.pointer (some ⟨b, 0, none⟩)] 84)).heap.size := by simp
  clear r3 b3 hb3 bc b13 KN H0 H1 HB1 hs2
  go_upto_region 3 with fail
  generalize w3.alloc (.cells #[.pointer (some ⟨b, 0, none⟩)] 84) = W3 at *
  generalize w3.heap.size = c at *
  have b4 := (Below.refl W3.heap.size W3).alloc (Nat.le_refl _) (.cells #[.int .i64 0] 22)
  have R4 := (unhide R3).later b4
  have C4 := below_keep b4 (unhide C3)
  have H04 := below_keep b4 (unhide H03)
  have H14 := below_keep b4 (unhide H13)
  have HR4 := heap_new W3 (.cells #[.int .i64 0] 22)
  have B4 := (unhide B3).trans (b4.mono (unhide B3).size)
  have hz4 : (W3.alloc (.cells #[.int .i64 0] 22)).heap.size = W3.heap.size + 1 := by simp
  have KM := unhide HMSG (W3.alloc (.cells #[.int .i64 0] 22)) b a' cap' R4
  generalize hW4 : W3.alloc (.cells #[.int .i64 0] 22) = W4 at *
  have K1 := dec1_ok (mb := w.heap.size + 1) (cs := (mgL mg0).toArray) C4 (mg_size mg0) (R := fun L u => Keeps W4.heap.size u.heap.size u (Q L) ∧ (L.length = 59 ∧ L.toArray.all (·.oneCell') = true) ∧ Touch (fun q => q = b ∨ W4.heap.size ≤ q) W4 u) (fun L u h => h.2.2.keep H14 (by omega)) KM
  have KT : Calls Try.prog 29 #[.func (.func 34) #[] #[.pointer (some ⟨c, 0, none⟩), .pointer (some ⟨w.heap.size + 1, 0, none⟩)]] W3 fun e w' => TD 0 (fun u => ∃ L : List Value, Keeps W4.heap.size u.heap.size u (Q L) ∧ (L.length = 59 ∧ L.toArray.all (·.oneCell') = true) ∧ u.heap[w.heap.size + 1]? = some (.cells L.toArray 41) ∧ u.heap[w.heap.size]? = some (.cells (mgL mg0).toArray 41) ∧ Below w.heap.size w u) W3.heap.size e w' :=
    tried_ok enters_dec (by
      rw [hW4]
      refine K1.mono fun e w' h => ?_
      obtain ⟨he, L, u, ⟨p1, p2, p3⟩, h2, t2⟩ := h
      have s3 := p3.size
      refine ⟨he, t2.keep (p3.keep HR4 (by omega)) (by omega), L, (p1.step t2 (fun k hk => .inl (by have := lt_of_heap H14; omega))).wide (Nat.le_refl _) t2.size (Nat.le_refl _), p2, h2, t2.keep (p3.keep H04 (by omega)) (by omega), ?_⟩
      exact below_touch (below_touch B4 p3 B4.size (fun k hk => by have := B4.size; omega)) t2 (by have := B4.size; omega) (fun k hk => by omega))
  have HKT := hide KT
  have hrl : w.heap.size + 2 ≤ W3.heap.size := by omega
  have hz44 : W4.heap.size = W3.heap.size + 1 := hz4
  clear KT K1 KM hW4 B4 HR4 H14 H04 C4 R4 b4 hz4
  go_wp2_with fail
  refine (unhide HKT).mono ?_
  rintro e w5 ⟨rfl, u, ⟨L, p1, p2, h2, h3, b5⟩, t5⟩
  have A5 := hide (t5.keep h2 (by omega))
  have Z5 := hide (t5.keep h3 (by omega))
  have B5 := hide (below_touch b5 t5 b5.size (fun k hk => by omega))
  have HRG := hide (range_of (o := 0) (ds := L) (unhide A5) (fun j v hv => by rw [Nat.zero_add]; exact hv))
  have HT : Hid (w5.there w.heap.size 0 L.toArray.size) := hide (there_of (unhide Z5) (by rw [mg_size]; simp [p2.1]))
  have HI1 : Hid ((Try.prog.info? 41).map (·.size) = some L.length) := hide (by rw [info_msg, p2.1])
  have HI2 : Hid ((Try.prog.info? 41).map (·.size) = some L.toArray.size) := hide (by rw [info_msg]; simp [p2.1])
  have HW := hide p2.2
  have HLN := hide p2.1
  have HP := hide (p1.step t5 (fun k hk => .inl (by omega)))
  clear p1 p2 h2 h3 b5 t5 HKT
  go_wp2_with (first
    | (with_reducible (show wpList _ _ _ (Oper.mk _ (Op.load _ _) _ _ _ _ :: _) _ _); refine wpList_load_mid rfl 41 (.tmp 4) rfl (w.heap.size + 1) 0 rfl L _ (unhide HRG) Try.underlying41 rfl (unhide HI1) ?_)
    | (with_reducible (show wpList _ _ _ (Oper.mk _ (Op.store _ _ _) _ _ _ _ :: _) _ _); refine wpList_store_mid rfl 41 (.tmp 2) (.tmp 16) rfl w.heap.size 0 L.toArray rfl rfl (unhide HT) (unhide HI2) (unhide HW) ?_))
  obtain ⟨q1, q2⟩ := heap_setCells L 0 w5 _ (unhide Z5)
  rw [lay_all (by rw [mg_size, unhide HLN])] at q1
  have FF : Hid (DcW Q w 0 (.returned (.tuple #[.agg L.toArray, .int .i64 0])) (w5.setCells w.heap.size 0 L)) := hide ⟨L, ((unhide HP).step q2 (fun k hk => .inl (by omega))).now, unhide HLN, rfl, below_touch (unhide B5) q2 (unhide B5).size (fun k hk => by omega)⟩
  refine bodyPost_ret (res_decL q1 (unhide HLN) rfl rfl) rfl ?_
  exact unhide FF

theorem oneE_zero {E : Int} {t : List Nat} {s : Rst} (h : oneE E t s = 0) : E = 0 ∧ rE t s = 0 := by
  unfold oneE at h
  split at h
  · exact absurd h (by assumption)
  · exact ⟨by omega, by omega⟩
/-- msg of any text: what is wrong with it, and what it tells. -/
theorem rmsg_all (HEAD : HdAll) {t : List Nat} (hy : ∀ x ∈ t, x < 256) : ∃ (E : Int) (D : Mg → Prop), pE t = E ∧ (E = 0 → ∀ m, D m → finE m = 0 ∧ finL m = t) ∧
    ∀ (W : World) (b : Nat) (a : Option Addr) (cap : Nat), RdAt 97 W b a cap t ⟨0, 0⟩ → Calls Try.prog 35 #[.agg #[.pointer (some ⟨b, 0, none⟩)]] W fun e w' => MsQ W b E D e w' := by
  obtain ⟨k1, t1, d1⟩ : ∃ x s, rI t ⟨0, 0⟩ = (x, s) := ⟨_, _, pair_eq _⟩
  obtain ⟨k2, t2, d2⟩ : ∃ x s, rI t t1 = (x, s) := ⟨_, _, pair_eq _⟩
  obtain ⟨k3, t3, d3⟩ : ∃ x s, rI t t2 = (x, s) := ⟨_, _, pair_eq _⟩
  obtain ⟨k4, t4, d4⟩ : ∃ x s, rI t t3 = (x, s) := ⟨_, _, pair_eq _⟩
  obtain ⟨k5, s0, d5⟩ : ∃ x s, rI t t4 = (x, s) := ⟨_, _, pair_eq _⟩
  by_cases hk0 : kndE k1 ≠ 0
  · refine ⟨1, fun _ => False, by unfold pE; rw [d1]; exact if_pos hk0, fun h => absurd h (by decide), fun W b a cap h => ?_⟩
    refine (msg_no h hk0 (fun {W} h => HEAD h d1 d2 d3 d4 d5)).mono ?_
    rintro e w' ⟨he, tc⟩
    exact ⟨tc, fun h => absurd h (by decide), fun _ => he⟩
  have hk : 1 ≤ k1 ∧ k1 ≤ 15 := by
    unfold kndE at hk0
    split at hk0
    · exact absurd (by decide) hk0
    · omega
  have hn : ¬ kndE k1 ≠ 0 := hk0
  clear hk0
  have hH : nI t 5 ⟨0, 0⟩ = s0 := by simp only [nI, d1, d2, d3, d4, d5]
  have hP : pE t = if k1 = 1 then pRaft t s0 else if k1 = 2 then pFetch t s0 else if k1 = 3 then pFetched t s0 else if k1 = 4 then pCmd t s0 else pOthers t s0 := by
    unfold pE
    rw [hH, d1, if_neg hn]
  clear hn hH
  by_cases h1 : k1 = 1
  · obtain ⟨x1, s1, e1⟩ : ∃ x s, rI t s0 = (x, s) := ⟨_, _, pair_eq _⟩
    obtain ⟨x2, s2, e2⟩ : ∃ x s, rI t s1 = (x, s) := ⟨_, _, pair_eq _⟩
    obtain ⟨x3, s3, e3⟩ : ∃ x s, rI t s2 = (x, s) := ⟨_, _, pair_eq _⟩
    obtain ⟨x4, s4, e4⟩ : ∃ x s, rI t s3 = (x, s) := ⟨_, _, pair_eq _⟩
    obtain ⟨x5, s5, e5⟩ : ∃ x s, rI t s4 = (x, s) := ⟨_, _, pair_eq _⟩
    obtain ⟨x6, s6, e6⟩ : ∃ x s, rI t s5 = (x, s) := ⟨_, _, pair_eq _⟩
    obtain ⟨x7, s7, e7⟩ : ∃ x s, rI t s6 = (x, s) := ⟨_, _, pair_eq _⟩
    obtain ⟨x8, s8, e8⟩ : ∃ x s, rF t s7 = (x, s) := ⟨_, _, pair_eq _⟩
    obtain ⟨EE, x9, s9, e9⟩ : ∃ E x s, rAll t (rEn t) s8 = (E, x, s) := ⟨_, _, _, rfl⟩
    obtain ⟨x10, s10, e10⟩ : ∃ x s, rB t s9 = (x, s) := ⟨_, _, pair_eq _⟩
    refine ⟨_, _, by rw [hP, if_pos h1]; unfold pRaft; simp only [nI, e1, e2, e3, e4, e5, e6, e7, e8, e9, e10], fun hE m hm => ?_, fun W b a cap h => rmsg_raft HEAD h h1 d1 d2 d3 d4 d5 e1 e2 e3 e4 e5 e6 e7 e8 e9 e10⟩
    obtain ⟨q1, q2⟩ := oneE_zero hE
    subst q1
    exact back_raft hy d1 d2 d3 d4 d5 h1 e1 e2 e3 e4 e5 e6 e7 e8 e9 e10 q2 hm
  by_cases h2 : k1 = 2
  · obtain ⟨x1, s1, e1⟩ : ∃ x s, rI t s0 = (x, s) := ⟨_, _, pair_eq _⟩
    obtain ⟨x2, s2, e2⟩ : ∃ x s, rI t s1 = (x, s) := ⟨_, _, pair_eq _⟩
    obtain ⟨x3, s3, e3⟩ : ∃ x s, rI t s2 = (x, s) := ⟨_, _, pair_eq _⟩
    obtain ⟨x4, s4, e4⟩ : ∃ x s, rI t s3 = (x, s) := ⟨_, _, pair_eq _⟩
    obtain ⟨x5, s5, e5⟩ : ∃ x s, rI t s4 = (x, s) := ⟨_, _, pair_eq _⟩
    refine ⟨_, _, by rw [hP, if_neg h1, if_pos h2]; unfold pFetch; simp only [nI, e1, e2, e3, e4, e5], fun hE m hm => ?_, fun W b a cap h => rmsg_fetch HEAD h h2 d1 d2 d3 d4 d5 e1 e2 e3 e4 e5⟩
    obtain ⟨q1, q2⟩ := oneE_zero hE
    exact back_fetch hy d1 d2 d3 d4 d5 h2 e1 e2 e3 e4 e5 q2 (rE_er q2) hm
  by_cases h3 : k1 = 3
  · obtain ⟨x1, s1, e1⟩ : ∃ x s, rI t s0 = (x, s) := ⟨_, _, pair_eq _⟩
    obtain ⟨x2, s2, e2⟩ : ∃ x s, rI t s1 = (x, s) := ⟨_, _, pair_eq _⟩
    obtain ⟨x3, s3, e3⟩ : ∃ x s, rI t s2 = (x, s) := ⟨_, _, pair_eq _⟩
    obtain ⟨x4, s4, e4⟩ : ∃ x s, rI t s3 = (x, s) := ⟨_, _, pair_eq _⟩
    obtain ⟨x5, s5, e5⟩ : ∃ x s, rI t s4 = (x, s) := ⟨_, _, pair_eq _⟩
    obtain ⟨x6, s6, e6⟩ : ∃ x s, rI t s5 = (x, s) := ⟨_, _, pair_eq _⟩
    obtain ⟨x7, s7, e7⟩ : ∃ x s, rI t s6 = (x, s) := ⟨_, _, pair_eq _⟩
    obtain ⟨x8, s8, e8⟩ : ∃ x s, rI t s7 = (x, s) := ⟨_, _, pair_eq _⟩
    obtain ⟨x9, s9, e9⟩ : ∃ x s, rF t s8 = (x, s) := ⟨_, _, pair_eq _⟩
    obtain ⟨EE, x10, s10, e10⟩ : ∃ E x s, rAll t (rBa t) s9 = (E, x, s) := ⟨_, _, _, rfl⟩
    refine ⟨_, _, by rw [hP, if_neg h1, if_neg h2, if_pos h3]; unfold pFetched; simp only [nI, e1, e2, e3, e4, e5, e6, e7, e8, e9, e10], fun hE m hm => ?_, fun W b a cap h => rmsg_fetched HEAD h h3 d1 d2 d3 d4 d5 e1 e2 e3 e4 e5 e6 e7 e8 e9 e10⟩
    obtain ⟨q1, q2⟩ := oneE_zero hE
    subst q1
    exact back_fetched hy d1 d2 d3 d4 d5 h3 e1 e2 e3 e4 e5 e6 e7 e8 e9 e10 q2 hm
  by_cases h4 : k1 = 4
  · obtain ⟨x1, s1, e1⟩ : ∃ x s, rB t s0 = (x, s) := ⟨_, _, pair_eq _⟩
    refine ⟨_, _, by rw [hP, if_neg h1, if_neg h2, if_neg h3, if_pos h4]; unfold pCmd; simp only [e1], fun hE m hm => ?_, fun W b a cap h => rmsg_cmd HEAD h h4 d1 d2 d3 d4 d5 e1⟩
    obtain ⟨q1, q2⟩ := oneE_zero hE
    exact back_cmd hy d1 d2 d3 d4 d5 h4 e1 q1 q2 hm
  obtain ⟨x1, s1, e1⟩ : ∃ x s, rI t s0 = (x, s) := ⟨_, _, pair_eq _⟩
  obtain ⟨x2, s2, e2⟩ : ∃ x s, rI t s1 = (x, s) := ⟨_, _, pair_eq _⟩
  obtain ⟨x3, s3, e3⟩ : ∃ x s, rI t s2 = (x, s) := ⟨_, _, pair_eq _⟩
  obtain ⟨x4, s4, e4⟩ : ∃ x s, rI t s3 = (x, s) := ⟨_, _, pair_eq _⟩
  obtain ⟨x5, s5, e5⟩ : ∃ x s, rI t s4 = (x, s) := ⟨_, _, pair_eq _⟩
  obtain ⟨x6, s6, e6⟩ : ∃ x s, rI t s5 = (x, s) := ⟨_, _, pair_eq _⟩
  obtain ⟨x7, s7, e7⟩ : ∃ x s, rI t s6 = (x, s) := ⟨_, _, pair_eq _⟩
  obtain ⟨x8, s8, e8⟩ : ∃ x s, rI t s7 = (x, s) := ⟨_, _, pair_eq _⟩
  obtain ⟨x9, s9, e9⟩ : ∃ x s, rI t s8 = (x, s) := ⟨_, _, pair_eq _⟩
  obtain ⟨x10, s10, e10⟩ : ∃ x s, rU t s9 = (x, s) := ⟨_, _, pair_eq _⟩
  obtain ⟨x11, s11, e11⟩ : ∃ x s, rF t s10 = (x, s) := ⟨_, _, pair_eq _⟩
  obtain ⟨ms, s12, e12⟩ : ∃ x s, rL t s11 = (x, s) := ⟨_, _, pair_eq _⟩
  obtain ⟨xb, s13, e13⟩ : ∃ x s, rB t s12 = (x, s) := ⟨_, _, pair_eq _⟩
  obtain ⟨EB, lb, s14, e14⟩ : ∃ E x s, rAll t (rBa t) s13 = (E, x, s) := ⟨_, _, _, rfl⟩
  obtain ⟨EA, la, s15, e15⟩ : ∃ E x s, rAll t (rAb t) s14 = (E, x, s) := ⟨_, _, _, rfl⟩
  refine ⟨_, _, by rw [hP, if_neg h1, if_neg h2, if_neg h3, if_neg h4]; unfold pOthers; simp only [pAbs, pBas, pOwn, pLst, nI, e1, e2, e3, e4, e5, e6, e7, e8, e9, e10, e11, e12, e13, e14, e15], fun hE m hm => ?_, fun W b a cap h => rmsg_others HEAD h ⟨by omega, hk.2⟩ d1 d2 d3 d4 d5 e1 e2 e3 e4 e5 e6 e7 e8 e9 e10 e11 e12 e13 e14 e15⟩
  obtain ⟨q1, q2⟩ := oneE_zero hE
  exact back_others hy d1 d2 d3 d4 d5 ⟨by omega, hk.2⟩ e1 e2 e3 e4 e5 e6 e7 e8 e9 e10 e11 e12 e13 e14 e15 q1 q2 hm
end
end Go.Proofs.Ytblmondkdcpkaaa
