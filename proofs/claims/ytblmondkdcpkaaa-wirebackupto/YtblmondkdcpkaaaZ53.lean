/-
  A message with just what its kind has; what of it is laid, and what the law looks at. Plain lemmas. No conditions.
-/
import Derived.Test.YtblmondkdcpkaaaZ46

namespace Go.Proofs.Ytblmondkdcpkaaa
open Go.RowKit
set_option linter.unusedVariables false

def bareRaft (m : Mg) : Mg := { hdM m.kd m.fr m.tt m.co m.er with r1 := m.r1, r2 := m.r2, r3 := m.r3, r4 := m.r4, r5 := m.r5, r6 := m.r6, r7 := m.r7, rj := m.rj, en := m.en, ea := m.ea, ec := m.ec, sn := m.sn, sa := m.sa, sc := m.sc }
def bareFetch (m : Mg) : Mg := { hdM m.kd m.fr m.tt m.co m.er with f1 := m.f1, f2 := m.f2, f3 := m.f3, f4 := m.f4, f5 := m.f5 }
def bareFetched (m : Mg) : Mg := { hdM m.kd m.fr m.tt m.co m.er with g1 := m.g1, g2 := m.g2, g3 := m.g3, g4 := m.g4, gd := m.gd, g5 := m.g5, g6 := m.g6, g7 := m.g7, g8 := m.g8, gb := m.gb, ga := m.ga, gc := m.gc }
def bareCmd (m : Mg) : Mg := { hdM m.kd m.fr m.tt m.co m.er with c := m.c }
def bareOthers (m : Mg) : Mg := { m with r1 := 0, r2 := 0, r3 := 0, r4 := 0, r5 := 0, r6 := 0, r7 := 0, rj := false, en := [], ea := none, ec := 0, sn := [], sa := none, sc := 0, f1 := 0, f2 := 0, f3 := 0, f4 := 0, f5 := 0, g1 := 0, g2 := 0, g3 := 0, g4 := 0, gd := false, g5 := 0, g6 := 0, g7 := 0, g8 := 0, gb := [], ga := none, gc := 0, c := ⟨0, 0, 0, 0, 0, none, 0, []⟩ }
/-- A message with just what its kind has. -/
def bareM (m : Mg) : Mg := if m.kd = 1 then bareRaft m else if m.kd = 2 then bareFetch m else if m.kd = 3 then bareFetched m else if m.kd = 4 then bareCmd m else bareOthers m
/-- What the law looks at. -/
structure Key (x y : Mg) : Prop where
  kd : x.kd = y.kd
  o1 : x.o1 = y.o1
  o2 : x.o2 = y.o2
  o3 : x.o3 = y.o3
  o4 : x.o4 = y.o4
  pid : x.pid = y.pid
  o5 : x.o5 = y.o5
  cm : x.cm = y.cm
  o6 : x.o6 = y.o6
  o7 : x.o7 = y.o7
  o8 : x.o8 = y.o8
  o9 : x.o9 = y.o9
  ms : x.ms.length = y.ms.length
  ab : x.ab.length = y.ab.length
  bs : x.bs.length = y.bs.length
  r1 : x.r1 = y.r1
  en : x.en.length = y.en.length
  f1 : x.f1 = y.f1
  f2 : x.f2 = y.f2
  f3 : x.f3 = y.f3
  f4 : x.f4 = y.f4
  f5 : x.f5 = y.f5
  g4 : x.g4 = y.g4
  gb : x.gb.length = y.gb.length
  ck : x.c.kd = y.c.kd
  cl : x.c.l.length = y.c.l.length
theorem Key.refl (x : Mg) : Key x x := by constructor <;> rfl
theorem Key.trans {x y z : Mg} (h : Key x y) (g : Key y z) : Key x z := by
  constructor
  · exact h.kd.trans g.kd
  · exact h.o1.trans g.o1
  · exact h.o2.trans g.o2
  · exact h.o3.trans g.o3
  · exact h.o4.trans g.o4
  · exact h.pid.trans g.pid
  · exact h.o5.trans g.o5
  · exact h.cm.trans g.cm
  · exact h.o6.trans g.o6
  · exact h.o7.trans g.o7
  · exact h.o8.trans g.o8
  · exact h.o9.trans g.o9
  · exact h.ms.trans g.ms
  · exact h.ab.trans g.ab
  · exact h.bs.trans g.bs
  · exact h.r1.trans g.r1
  · exact h.en.trans g.en
  · exact h.f1.trans g.f1
  · exact h.f2.trans g.f2
  · exact h.f3.trans g.f3
  · exact h.f4.trans g.f4
  · exact h.f5.trans g.f5
  · exact h.g4.trans g.g4
  · exact h.gb.trans g.gb
  · exact h.ck.trans g.ck
  · exact h.cl.trans g.cl
theorem bareM_1 {m : Mg} (h : m.kd = 1) : bareM m = bareRaft m := by unfold bareM; rw [if_pos h]
theorem bareM_2 {m : Mg} (h : m.kd = 2) : bareM m = bareFetch m := by unfold bareM; rw [if_neg (by omega), if_pos h]
theorem bareM_3 {m : Mg} (h : m.kd = 3) : bareM m = bareFetched m := by unfold bareM; rw [if_neg (by omega), if_neg (by omega), if_pos h]
theorem bareM_4 {m : Mg} (h : m.kd = 4) : bareM m = bareCmd m := by unfold bareM; rw [if_neg (by omega), if_neg (by omega), if_neg (by omega), if_pos h]
theorem bareM_5 {m : Mg} (h : ¬ m.kd = 1 ∧ ¬ m.kd = 2 ∧ ¬ m.kd = 3 ∧ ¬ m.kd = 4) : bareM m = bareOthers m := by unfold bareM; rw [if_neg h.1, if_neg h.2.1, if_neg h.2.2.1, if_neg h.2.2.2]
theorem fin_same {x y : Mg} (hk : x.kd = y.kd) (he : restE x = restE y) (hs : ∀ s, restS s x = restS s y) (hh : ∀ s, headS s x = headS s y) : finE x = finE y ∧ finL x = finL y := by
  have h1 : msgE x = msgE y := by unfold msgE; rw [hk, he]
  have h2 : msgS ([], false) x = msgS ([], false) y := by unfold msgS; rw [hh, hs]
  have h3 : finE x = finE y := by unfold finE; rw [h1, h2]
  exact ⟨h3, by unfold finL; rw [h3, h2]⟩
/-- What is laid of a message is laid of what its kind has. -/
theorem bare_fin (m : Mg) : finE (bareM m) = finE m ∧ finL (bareM m) = finL m := by
  by_cases h1 : m.kd = 1
  · rw [bareM_1 h1]
    exact fin_same rfl (by unfold restE; rw [if_pos (show (bareRaft m).kd = 1 from h1), if_pos h1]; rfl) (fun s => by unfold restS; rw [if_pos (show (bareRaft m).kd = 1 from h1), if_pos h1]; rfl) (fun s => rfl)
  by_cases h2 : m.kd = 2
  · rw [bareM_2 h2]
    exact fin_same rfl (by unfold restE; rw [if_neg (show ¬ (bareFetch m).kd = 1 from h1), if_neg h1, if_pos (show (bareFetch m).kd = 2 from h2), if_pos h2]) (fun s => by unfold restS; rw [if_neg (show ¬ (bareFetch m).kd = 1 from h1), if_neg h1, if_pos (show (bareFetch m).kd = 2 from h2), if_pos h2]; rfl) (fun s => rfl)
  by_cases h3 : m.kd = 3
  · rw [bareM_3 h3]
    exact fin_same rfl (by unfold restE; rw [if_neg (show ¬ (bareFetched m).kd = 1 from h1), if_neg h1, if_neg (show ¬ (bareFetched m).kd = 2 from h2), if_neg h2, if_pos (show (bareFetched m).kd = 3 from h3), if_pos h3]; rfl) (fun s => by unfold restS; rw [if_neg (show ¬ (bareFetched m).kd = 1 from h1), if_neg h1, if_neg (show ¬ (bareFetched m).kd = 2 from h2), if_neg h2, if_pos (show (bareFetched m).kd = 3 from h3), if_pos h3]; rfl) (fun s => rfl)
  by_cases h4 : m.kd = 4
  · rw [bareM_4 h4]
    exact fin_same rfl (by unfold restE; rw [if_neg (show ¬ (bareCmd m).kd = 1 from h1), if_neg h1, if_neg (show ¬ (bareCmd m).kd = 2 from h2), if_neg h2, if_neg (show ¬ (bareCmd m).kd = 3 from h3), if_neg h3, if_pos (show (bareCmd m).kd = 4 from h4), if_pos h4]; rfl) (fun s => by unfold restS; rw [if_neg (show ¬ (bareCmd m).kd = 1 from h1), if_neg h1, if_neg (show ¬ (bareCmd m).kd = 2 from h2), if_neg h2, if_neg (show ¬ (bareCmd m).kd = 3 from h3), if_neg h3, if_pos (show (bareCmd m).kd = 4 from h4), if_pos h4]; rfl) (fun s => rfl)
  · rw [bareM_5 ⟨h1, h2, h3, h4⟩]
    exact fin_same rfl (by rw [restE_o h1 h2 h3 h4, restE_o (m := bareOthers m) h1 h2 h3 h4]; rfl) (fun s => by rw [restS_o h1 h2 h3 h4, restS_o (m := bareOthers m) h1 h2 h3 h4]; rfl) (fun s => rfl)
/-- It lies where the message lies. -/
theorem bare_in {w : World} {m : Mg} (h : MgIn w m) : MgIn w (bareM m) := by
  have z := hd_in (W := w) h.hd
  by_cases h1 : m.kd = 1
  · rw [bareM_1 h1]; exact { z with rf := h.rf, en := h.en, ein := h.ein, em := h.em, sn := h.sn, sc := h.sc }
  by_cases h2 : m.kd = 2
  · rw [bareM_2 h2]; exact { z with fe := h.fe }
  by_cases h3 : m.kd = 3
  · rw [bareM_3 h3]; exact { z with ge := h.ge, gb := h.gb, gin := h.gin, gm := h.gm }
  by_cases h4 : m.kd = 4
  · rw [bareM_4 h4]; exact { z with c := h.c, cf := h.cf }
  · rw [bareM_5 ⟨h1, h2, h3, h4⟩]
    exact { h with rf := z.rf, en := z.en, ein := z.ein, em := z.em, sn := z.sn, sc := z.sc, fe := z.fe, ge := z.ge, gb := z.gb, gin := z.gin, gm := z.gm, c := z.c, cf := z.cf }
theorem bare_s {m : Mg} (h : MgS m) : MgS (bareM m) := by
  by_cases h1 : m.kd = 1
  · rw [bareM_1 h1]; exact ⟨h.en, h.sn, Nat.zero_le _, Nat.zero_le _, Nat.zero_le _, Nat.zero_le _, Nat.zero_le _⟩
  by_cases h2 : m.kd = 2
  · rw [bareM_2 h2]; exact ⟨⟨Nat.zero_le _, fun o ho => by cases ho⟩, Nat.zero_le _, Nat.zero_le _, Nat.zero_le _, Nat.zero_le _, Nat.zero_le _, Nat.zero_le _⟩
  by_cases h3 : m.kd = 3
  · rw [bareM_3 h3]; exact ⟨⟨Nat.zero_le _, fun o ho => by cases ho⟩, Nat.zero_le _, h.gb, Nat.zero_le _, Nat.zero_le _, Nat.zero_le _, Nat.zero_le _⟩
  by_cases h4 : m.kd = 4
  · rw [bareM_4 h4]; exact ⟨⟨Nat.zero_le _, fun o ho => by cases ho⟩, Nat.zero_le _, Nat.zero_le _, h.c, Nat.zero_le _, Nat.zero_le _, Nat.zero_le _⟩
  · rw [bareM_5 ⟨h1, h2, h3, h4⟩]; exact ⟨⟨Nat.zero_le _, fun o ho => by cases ho⟩, Nat.zero_le _, Nat.zero_le _, Nat.zero_le _, h.ms, h.bs, h.ab⟩
/-- A message that has just what its kind has, in small lists. -/
structure Cn (m : Mg) : Prop where
  s : MgS m
  k : Key m (bareM m)
section
variable {k1 k2 k3 k4 k5 : Int} {m : Mg} {w : World}
theorem cn_raft {x1 x2 x3 x4 x5 x6 x7 : Int} {x8 : Bool} {x9 : List (Int × List Nat)} {x10 : List Nat} (hk : k1 = 1) (hm : ∃ (os : List En) (ea : Option Addr) (ec : Nat) (sa : Option Addr) (sc : Nat), m = { hdM k1 k2 k3 k4 k5 with r1 := x1, r2 := x2, r3 := x3, r4 := x4, r5 := x5, r6 := x6, r7 := x7, rj := x8, en := os, ea := ea, ec := ec, sn := x10, sa := sa, sc := sc } ∧ os.map En.vl = x9) (hi : MgIn w m) (hE : finE m = 0) : Cn m := by
  obtain ⟨hf, _⟩ := fine_of hi hE
  obtain ⟨os, ea, ec, sa, sc, rfl, _⟩ := hm
  have f := hf.en hk
  refine ⟨⟨⟨Nat.le_trans f.1 (by decide), fun o ho => Nat.le_trans (f.2.2 o ho) (by decide)⟩, Nat.le_trans f.2.1 (by decide), by simp [hdM, mg0], by simp [hdM, mg0], by simp [hdM, mg0], by simp [hdM, mg0], by simp [hdM, mg0]⟩, ?_⟩
  rw [bareM_1 hk]
  constructor <;> rfl
theorem cn_fetch {x1 x2 x3 x4 x5 : Int} (hk : k1 = 2) (hm : m = { hdM k1 k2 k3 k4 k5 with f1 := x1, f2 := x2, f3 := x3, f4 := x4, f5 := x5 }) : Cn m := by
  subst hm
  refine ⟨⟨⟨by simp [hdM, mg0], fun o ho => by simp [hdM, mg0] at ho⟩, by simp [hdM, mg0], by simp [hdM, mg0], by simp [hdM, mg0], by simp [hdM, mg0], by simp [hdM, mg0], by simp [hdM, mg0]⟩, ?_⟩
  rw [bareM_2 hk]
  constructor <;> rfl
theorem cn_fetched {x1 x2 x3 x4 x5 x6 x7 x8 : Int} {x9 : Bool} {x10 : List Bt} (hk : k1 = 3) (hm : ∃ (os : List Ba) (ea : Option Addr) (ec : Nat), m = { hdM k1 k2 k3 k4 k5 with g1 := x1, g2 := x2, g3 := x3, g4 := x4, gd := x9, g5 := x5, g6 := x6, g7 := x7, g8 := x8, gb := os, ga := ea, gc := ec } ∧ os.map Ba.vl = x10) (hi : MgIn w m) (hE : finE m = 0) : Cn m := by
  obtain ⟨hf, _⟩ := fine_of hi hE
  obtain ⟨os, ea, ec, rfl, _⟩ := hm
  have f := hf.gb hk
  refine ⟨⟨⟨by simp [hdM, mg0], fun o ho => by simp [hdM, mg0] at ho⟩, by simp [hdM, mg0], Nat.le_trans f.1 (by decide), by simp [hdM, mg0], by simp [hdM, mg0], by simp [hdM, mg0], by simp [hdM, mg0]⟩, ?_⟩
  rw [bareM_3 hk]
  constructor <;> rfl
theorem cn_cmd {x1 : List Nat} (hk : k1 = 4) (hm : ∃ c : Cm, m = { hdM k1 k2 k3 k4 k5 with c := c } ∧ { c with a := none, k := 0 } = rawC x1) (hi : MgIn w m) (hE : finE m = 0) : Cn m := by
  obtain ⟨hf, _⟩ := fine_of hi hE
  obtain ⟨c, rfl, _⟩ := hm
  have f := isC_few (hf.c hk).1
  refine ⟨⟨⟨by simp [hdM, mg0], fun o ho => by simp [hdM, mg0] at ho⟩, by simp [hdM, mg0], by simp [hdM, mg0], Nat.le_trans f (by decide), by simp [hdM, mg0], by simp [hdM, mg0], by simp [hdM, mg0]⟩, ?_⟩
  rw [bareM_4 hk]
  constructor <;> rfl
theorem cn_others {x1 x2 x3 x4 x5 x6 x7 x8 x9 : Int} {x10 : Nat} {x11 : Bool} {ms : List Int} {xb : List Nat} {lb : List Bt} {la : List (Nat × Int × Int)} (hk : 4 < k1 ∧ k1 ≤ 15)
    (hm : ∃ L : OL, m = L.put ms { hdM k1 k2 k3 k4 k5 with o1 := x1, o2 := x2, o3 := x3, o4 := x4, o5 := x5, o6 := x6, o7 := x7, o8 := x8, o9 := x9, pid := x10, cm := x11 } ∧ OLV L xb lb la) (hi : MgIn w m) (hE : finE m = 0) : Cn m := by
  obtain ⟨hf, _⟩ := fine_of hi hE
  obtain ⟨L, rfl, ov⟩ := hm
  have hk' : ¬ k1 = 1 ∧ ¬ k1 = 2 ∧ ¬ k1 = 3 ∧ ¬ k1 = 4 := by omega
  have f := hf.ot hk'
  refine ⟨⟨⟨by simp [OL.put, hdM, mg0], fun o ho => by simp [OL.put, hdM, mg0] at ho⟩, by simp [OL.put, hdM, mg0], by simp [OL.put, hdM, mg0], by simp [OL.put, hdM, mg0], Nat.le_trans f.1 (by decide), Nat.le_trans f.2.2.1 (by decide), Nat.le_trans f.2.2.2.2 (by decide)⟩, ?_⟩
  rw [bareM_5 (m := L.put ms { hdM k1 k2 k3 k4 k5 with o1 := x1, o2 := x2, o3 := x3, o4 := x4, o5 := x5, o6 := x6, o7 := x7, o8 := x8, o9 := x9, pid := x10, cm := x11 }) hk']
  constructor <;> rfl
end
end Go.Proofs.Ytblmondkdcpkaaa
