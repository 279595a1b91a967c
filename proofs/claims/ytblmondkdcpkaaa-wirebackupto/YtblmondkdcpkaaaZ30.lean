/-
  wire.Decode of a beginning of a message's bytes, and of these with bytes behind them. Conditions: the bytes as they lie.
-/
import Derived.Test.YtblmondkdcpkaaaZ27
import Derived.Test.YtblmondkdcpkaaaZ28

/-
  What a message is written as is read without an error, whatever stands behind it, in plain words. No Go text is read here. No conditions.
-/
namespace Go.Proofs.Ytblmondkdcpkaaa
open Go.RowKit
set_option linter.unusedVariables false

theorem rL_enc {t u : List Nat} {l : List Int} {s : Rst} (h0 : s.er = 0) (hd : t.drop s.pl = enc l.length ++ encL l ++ u) (hl : l.length ≤ 4096) (hf : ∀ x ∈ l, -9223372036854775808 ≤ x ∧ x < 9223372036854775808) : rL t s = (l, ⟨s.pl + (enc l.length ++ encL l).length, 0⟩) := by
  rw [List.append_assoc] at hd
  have hU := rU_enc h0 hd (n := l.length) (by omega)
  have hC : rC t s = rU t s := by unfold rC; rw [hU, if_neg (by simp only; omega)]
  rw [rL_C, hC, hU]
  simp only [if_true]
  have hd2 := drop_next hd
  have := rNs_enc (t := t) (u := u) l (s := ⟨s.pl + (enc l.length).length, 0⟩) [] rfl hd2 hf
  rw [this]
  simp only [List.nil_append, List.length_append]
  congr 2
  omega
section
variable {t u : List Nat} {s : Rst}
theorem Ahead.nI : ∀ (l : List Int) {s : Rst}, Ahead t s (encL l ++ u) → (∀ x ∈ l, I64 x) → Ahead t (nI t l.length s) u
  | [], s, h, _ => by simpa [encL, Go.Proofs.Ytblmondkdcpkaaa.nI] using h
  | x :: r, s, h, hx => by
    have e : encL (x :: r) ++ u = enc (zig x) ++ (encL r ++ u) := by simp [encL]
    rw [e] at h
    have h1 := (h.I (hx x (by simp))).2
    exact Ahead.nI r h1 (fun y hy => hx y (by simp [hy]))
theorem Ahead.F1 {q : Bool} (h : Ahead t s ([q.toNat] ++ u)) : Ahead t (rF t s).2 u := by
  have e : [q.toNat] = enc q.toNat := (enc_lt (by cases q <;> decide)).symm
  rw [e] at h
  exact h.F.2
theorem Ahead.L {l : List Int} (h : Ahead t s ((enc l.length ++ encL l) ++ u)) (hl : l.length ≤ 4096) (hx : ∀ x ∈ l, I64 x) : (rL t s).1 = l ∧ Ahead t (rL t s).2 u := by
  have e := rL_enc (t := t) (u := u) (l := l) (s := s) h.er (by rw [h.rest]) hl hx
  rw [e]
  exact ⟨rfl, h.step⟩
theorem Ahead.N {α : Type} {one : Rst → Int × α × Rst} {lay : α → List Nat} : ∀ (l : List α) {s : Rst}, Ahead t s (l.flatMap lay ++ u) → (∀ x ∈ l, ∀ s u, Ahead t s (lay x ++ u) → (one s).1 = 0 ∧ Ahead t (one s).2.2 u) → (rN one l.length s).1 = 0 ∧ Ahead t (rN one l.length s).2.2 u
  | [], s, h, _ => ⟨rfl, by simpa [rN] using h⟩
  | x :: r, s, h, hx => by
    rw [List.flatMap_cons, List.append_assoc] at h
    obtain ⟨h1, h2⟩ := hx x (by simp) s _ h
    obtain ⟨h3, h4⟩ := Ahead.N r h2 (fun y hy => hx y (by simp [hy]))
    rw [List.length_cons, rN_ok h1]
    exact ⟨h3, h4⟩
theorem Ahead.All {α : Type} {one : Rst → Int × α × Rst} {lay : α → List Nat} {l : List α} (h : Ahead t s ((enc l.length ++ l.flatMap lay) ++ u)) (hl : l.length ≤ 512) (hx : ∀ x ∈ l, ∀ s u, Ahead t s (lay x ++ u) → (one s).1 = 0 ∧ Ahead t (one s).2.2 u) :
    (rAll t one s).1 = 0 ∧ Ahead t (rAll t one s).2.2 u := by
  rw [List.append_assoc] at h
  obtain ⟨h1, h2⟩ := h.U (by omega)
  unfold rAll
  rw [h1, if_neg (by omega)]
  exact Ahead.N l h2 hx
theorem aheadEn {p : Int × List Nat} (hp : I64 p.1) (hd : p.2.length ≤ 4096) (s : Rst) (u : List Nat) (h : Ahead t s (encEn p ++ u)) : (rEn t s).1 = 0 ∧ Ahead t (rEn t s).2.2 u := by
  unfold encEn at h
  rw [List.append_assoc] at h
  exact ⟨rfl, ((h.I hp).2.B hd).2⟩
theorem aheadAb {p : Nat × Int × Int} (h1 : p.1 < 18446744073709551616) (h2 : I64 p.2.1) (h3 : I64 p.2.2) (s : Rst) (u : List Nat) (h : Ahead t s (encAb p ++ u)) : (rAb t s).1 = 0 ∧ Ahead t (rAb t s).2.2 u := by
  have e : encAb p ++ u = enc p.1 ++ (enc (zig p.2.1) ++ (enc (zig p.2.2) ++ u)) := by simp [encAb, encL]
  rw [e] at h
  exact ⟨rfl, (((h.U h1).2.I h2).2.I h3).2⟩
theorem ba_len {B : Bt} (hf : B.Fits) (hb : batE B = 0) : (encBa B).length ≤ 4096 ∧ baE (encBa B) = 0 := by
  unfold encBa
  by_cases hz : B.ctl = false ∧ B.vs.length = 0
  · rw [if_pos hz]
    exact ⟨by simp, rfl⟩
  · rw [if_neg hz]
    have hc : chk B = 0 := by unfold batE at hb; rw [if_neg hz] at hb; omega
    have h1 := encB_len hf hc
    have h2 := encB_pos B
    refine ⟨by omega, ?_⟩
    unfold baE
    rw [if_neg (by omega), (there hf hc).1]
    rfl
theorem aheadBa {B : Bt} (hf : B.Fits) (hb : batE B = 0) (s : Rst) (u : List Nat) (h : Ahead t s (layBa B ++ u)) : (rBa t s).1 = 0 ∧ Ahead t (rBa t s).2.2 u := by
  obtain ⟨h1, h2⟩ := h.B (v := encBa B) (ba_len hf hb).1
  refine ⟨?_, h2⟩
  show baE (rB t s).1 = 0
  rw [h1]
  exact (ba_len hf hb).2
end
theorem cmd_there {c : Cm} (hf : CFit c) (hC : isC c = true) : cmdX (encC c) = 0 := by
  have hl := isC_few hC
  obtain ⟨T, hT⟩ : ∃ T, T = encC c := ⟨_, rfl⟩
  have a0 : Ahead T ⟨0, 0⟩ (enc (zig c.kd) ++ (enc (zig c.nd) ++ (enc (zig c.pt) ++ (enc (zig c.ep) ++ (enc (zig c.ve) ++ ((enc c.l.length ++ encL c.l) ++ [])))))) := by
    have := Ahead.start T
    have e : T = enc (zig c.kd) ++ (enc (zig c.nd) ++ (enc (zig c.pt) ++ (enc (zig c.ep) ++ (enc (zig c.ve) ++ ((enc c.l.length ++ encL c.l) ++ []))))) := by rw [hT]; simp [encC]
    rw [← e]
    exact this
  obtain ⟨y1, a1⟩ := a0.I hf.kd
  obtain ⟨y2, a2⟩ := a1.I hf.nd
  obtain ⟨y3, a3⟩ := a2.I hf.pt
  obtain ⟨y4, a4⟩ := a3.I hf.ep
  obtain ⟨y5, a5⟩ := a4.I hf.ve
  obtain ⟨y6, a6⟩ := a5.L (by omega) hf.l
  have hE : rE T (c6 T).2 = 0 := by
    have h1 : Ahead T (c6 T).2 [] := a6
    have h2 := congrArg List.length h1.rest
    rw [List.length_drop] at h2
    simp at h2
    have h3 := h1.pl
    unfold rE
    rw [if_neg (by omega)]
    exact h1.er
  have hR : rawC T = ⟨c.kd, c.nd, c.pt, c.ep, c.ve, none, 0, c.l⟩ := by
    unfold rawC
    have z1 : (c1 T).1 = c.kd := y1
    have z2 : (c2 T).1 = c.nd := y2
    have z3 : (c3 T).1 = c.pt := y3
    have z4 : (c4 T).1 = c.ep := y4
    have z5 : (c5 T).1 = c.ve := y5
    have z6 : (c6 T).1 = c.l := y6
    rw [z1, z2, z3, z4, z5, z6]
  rw [← hT]
  unfold cmdX
  rw [hE, hR, if_neg (by decide), if_pos]
  exact hC
end Go.Proofs.Ytblmondkdcpkaaa


/-
  A text begins with what a message is written as: it is read without an error just if nothing stands behind it, in plain words. No Go text is read here. Conditions: the message's numbers fit.
-/
namespace Go.Proofs.Ytblmondkdcpkaaa
open Go.RowKit
set_option linter.unusedVariables false

theorem rE_ahead {t u : List Nat} {s : Rst} (h : Ahead t s u) : rE t s = 0 ↔ u = [] := by
  have h1 := h.er
  have h2 := h.pl
  have h3 := h.rest
  unfold rE
  constructor
  · intro g
    by_cases hp : s.pl < t.length
    · rw [if_pos ⟨h1, hp⟩] at g
      omega
    · rw [← h3]
      exact List.drop_eq_nil_of_le (by omega)
  · rintro rfl
    have := congrArg List.length h3
    rw [List.length_drop, List.length_nil] at this
    rw [if_neg (by omega)]
    exact h1
theorem oneE_ahead {t u : List Nat} {s : Rst} {E : Int} (h : Ahead t s u) (hE : E = 0) : oneE E t s = 0 ↔ u = [] := by
  rw [oneE_ok hE, ← rE_ahead h]
  omega
theorem wX_flag {s : Ws} {x : List Nat} (h : (wX s x).2 = false) : s.2 = false := h
theorem wB_flag {s : Ws} {d : List Nat} (h : (wB s d).2 = false) : s.2 = false ∧ d.length ≤ 4096 := by
  unfold wB at h
  split at h
  · cases h
  · exact ⟨h, by omega⟩
theorem foldEn_flag : ∀ (os : List En) {s : Ws}, (os.foldl stepEn s).2 = false → s.2 = false ∧ ∀ o ∈ os, o.d.length ≤ 4096
  | [], s, h => ⟨h, fun _ hx => by cases hx⟩
  | o :: r, s, h => by
    rw [List.foldl_cons] at h
    obtain ⟨h1, h2⟩ := foldEn_flag r h
    obtain ⟨h3, h4⟩ := wB_flag (show (wB (wX s (enc (zig o.t))) o.d).2 = false from h1)
    refine ⟨h3, fun x hx => ?_⟩
    rcases List.mem_cons.1 hx with e | e
    · rw [e]; exact h4
    · exact h2 x e
/-- What is laid behind the head, where nothing is too long. -/
def raftT (m : Mg) : List Nat := encL [m.r1, m.r2, m.r3, m.r4, m.r5, m.r6, m.r7] ++ ([m.rj.toNat] ++ ((enc (m.en.map En.vl).length ++ (m.en.map En.vl).flatMap encEn) ++ (enc m.sn.length ++ m.sn)))
def fetchT (m : Mg) : List Nat := encL [m.f1, m.f2, m.f3, m.f4, m.f5]
def fetchedT (m : Mg) : List Nat := encL [m.g1, m.g2, m.g3, m.g4, m.g5, m.g6, m.g7, m.g8] ++ ([m.gd.toNat] ++ (enc (m.gb.map Ba.vl).length ++ (m.gb.map Ba.vl).flatMap layBa))
def cmdT (m : Mg) : List Nat := enc (encC m.c).length ++ encC m.c
def othersT (m : Mg) : List Nat := encL [m.o1, m.o2, m.o3, m.o4, m.o5, m.o6, m.o7, m.o8, m.o9] ++ (enc m.pid ++ ([m.cm.toNat] ++ ((enc m.ms.length ++ encL m.ms) ++ (layBa m.B ++ ((enc (m.bs.map Ba.vl).length ++ (m.bs.map Ba.vl).flatMap layBa) ++ (enc (m.ab.map Ab.vl).length ++ (m.ab.map Ab.vl).flatMap encAb))))))
def restT (m : Mg) : List Nat := if m.kd = 1 then raftT m else if m.kd = 2 then fetchT m else if m.kd = 3 then fetchedT m else if m.kd = 4 then cmdT m else othersT m
theorem cnt_le {n : Nat} (h : cntE n = 0) : n ≤ 512 := by
  unfold cntE at h
  split at h
  · cases h
  · omega
theorem fst0_nil {x : Int} {r : List Int} (h : fst0 (x :: r) = 0) : x = 0 ∧ fst0 r = 0 := by
  have hx : x = 0 := Decidable.byContradiction fun g => g (fst0_hit h g).symm
  exact ⟨hx, fst0_pass h hx⟩
theorem errs_zero : ∀ {os : List Ba}, errs os = 0 → ∀ o ∈ os, batE o.b = 0
  | [], _, o, hx => by cases hx
  | o :: r, h, x, hx => by
    rw [errs] at h
    by_cases h0 : batE o.b = 0
    · rw [if_neg (by omega)] at h
      rcases List.mem_cons.1 hx with e | e
      · rw [e]; exact h0
      · exact errs_zero h x e
    · rw [if_pos h0] at h
      exact absurd h h0
/-- What is known of a message that is written without an error. -/
structure Fine (m : Mg) : Prop where
  kd : kndE m.kd = 0
  en : m.kd = 1 → m.en.length ≤ 512 ∧ m.sn.length ≤ 4096 ∧ ∀ o ∈ m.en, o.d.length ≤ 4096
  gb : m.kd = 3 → m.gb.length ≤ 512 ∧ ∀ o ∈ m.gb, batE o.b = 0
  c : m.kd = 4 → isC m.c = true ∧ (encC m.c).length ≤ 4096
  ot : (¬ m.kd = 1 ∧ ¬ m.kd = 2 ∧ ¬ m.kd = 3 ∧ ¬ m.kd = 4) → m.ms.length ≤ 512 ∧ batE m.B = 0 ∧ m.bs.length ≤ 512 ∧ (∀ o ∈ m.bs, batE o.b = 0) ∧ m.ab.length ≤ 512
theorem fine_of {w : World} {m : Mg} (hm : MgIn w m) (h : finE m = 0) : Fine m ∧ finL m = encL [m.kd, m.fr, m.tt, m.co, m.er] ++ restT m := by
  have hE : msgE m = 0 := Decidable.byContradiction fun g => by unfold finE at h; rw [if_pos g] at h; exact g h
  have hF : (msgS ([], false) m).2 = false := by
    unfold finE at h
    rw [if_neg (by omega)] at h
    cases hq : (msgS ([], false) m).2
    · rfl
    · rw [hq] at h; cases h
  have hL : finL m = (msgS ([], false) m).1 := by unfold finL; rw [if_pos h]
  have hk : kndE m.kd = 0 := Decidable.byContradiction fun g => by unfold msgE at hE; rw [if_pos g] at hE; cases hE
  have hr : restE m = 0 := msgE_zero hE
  have hS : msgS ([], false) m = restS (encL [m.kd, m.fr, m.tt, m.co, m.er], false) m := rfl
  rw [hS] at hF hL
  rw [hL]
  generalize encL [m.kd, m.fr, m.tt, m.co, m.er] = H at *
  unfold restE at hr
  unfold restS at hF hL ⊢
  unfold restT
  by_cases h1 : m.kd = 1
  · rw [if_pos h1] at hr hF ⊢
    rw [if_pos h1]
    have c1 := cnt_le (fst0_nil hr).1
    unfold raftS at hF ⊢
    obtain ⟨f1, f2⟩ := wB_flag hF
    have f3 := (foldEn_flag m.en f1).2
    refine ⟨⟨hk, fun _ => ⟨c1, f2, f3⟩, fun g => by omega, fun g => by omega, fun g => absurd h1 g.1⟩, ?_⟩
    rw [wX_ok, wX_ok, wX_ok, foldEn _ _ f3, wB_ok _ f2]
    simp [raftT]
  rw [if_neg h1] at hr hF ⊢
  rw [if_neg h1]
  by_cases h2 : m.kd = 2
  · rw [if_pos h2] at hr hF ⊢
    rw [if_pos h2]
    refine ⟨⟨hk, fun g => by omega, fun g => by omega, fun g => by omega, fun g => absurd h2 g.2.1⟩, ?_⟩
    unfold fetchS
    rw [wX_ok]
    rfl
  rw [if_neg h2] at hr hF ⊢
  rw [if_neg h2]
  by_cases h3 : m.kd = 3
  · rw [if_pos h3] at hr hF ⊢
    rw [if_pos h3]
    have c1 := cnt_le (fst0_nil hr).1
    have c2 := errs_zero (fst0_nil (fst0_nil hr).2).1
    refine ⟨⟨hk, fun g => by omega, fun _ => ⟨c1, c2⟩, fun g => by omega, fun g => absurd h3 g.2.2.1⟩, ?_⟩
    unfold fetchedS
    rw [wX_ok, wX_ok, wX_ok, foldBa _ _ (fun o ho => ⟨(hm.gin o ho).2, c2 o ho⟩)]
    simp [fetchedT]
  rw [if_neg h3] at hr hF ⊢
  rw [if_neg h3]
  by_cases h4 : m.kd = 4
  · rw [if_pos h4] at hr hF ⊢
    rw [if_pos h4]
    obtain ⟨f1, f2⟩ := wB_flag hF
    have hc : isC m.c = true := by
      unfold cmdE at hr
      split at hr
      · assumption
      · cases hr
    refine ⟨⟨hk, fun g => by omega, fun g => by omega, fun _ => ⟨hc, f2⟩, fun g => absurd h4 g.2.2.2⟩, ?_⟩
    rw [wB_ok _ f2]
    rfl
  rw [if_neg h4] at hr hF ⊢
  rw [if_neg h4]
  obtain ⟨q1, hr⟩ := fst0_nil hr
  obtain ⟨q2, hr⟩ := fst0_nil hr
  obtain ⟨q3, hr⟩ := fst0_nil hr
  obtain ⟨q4, hr⟩ := fst0_nil hr
  have q5 := (fst0_nil hr).1
  have c4 := errs_zero q4
  refine ⟨⟨hk, fun g => by omega, fun g => by omega, fun g => by omega, fun _ => ⟨cnt_le q1, q2, cnt_le q3, c4, cnt_le q5⟩⟩, ?_⟩
  unfold othersS
  rw [wX_ok, wX_ok, wX_ok, wX_ok, bat_ok hm.bf q2, wX_ok, foldBa _ _ (fun o ho => ⟨(hm.bin o ho).2, c4 o ho⟩), wX_ok, foldAb]
  simp [othersT]
section
variable {t u : List Nat} {s : Rst}
theorem pRaft_end {m : Mg} {w : World} (hm : MgIn w m) (hf : Fine m) (hk : m.kd = 1) (h : Ahead t s (raftT m ++ u)) : pRaft t s = 0 ↔ u = [] := by
  obtain ⟨c1, c2, c3⟩ := hf.en hk
  unfold raftT at h
  rw [List.append_assoc] at h
  have a1 : Ahead t (nI t 7 s) _ := Ahead.nI [m.r1, m.r2, m.r3, m.r4, m.r5, m.r6, m.r7] h hm.rf
  rw [List.append_assoc] at a1
  have a2 := a1.F1
  rw [List.append_assoc] at a2
  obtain ⟨e3, a3⟩ := a2.All (one := rEn t) (by simp; omega) (fun x hx s u h => by
    obtain ⟨o, ho, rfl⟩ := List.mem_map.1 hx
    exact aheadEn (hm.ein o ho).2.2 (c3 o ho) s u h)
  exact oneE_ahead (a3.B c2).2 e3
theorem pFetch_end {m : Mg} {w : World} (hm : MgIn w m) (h : Ahead t s (fetchT m ++ u)) : pFetch t s = 0 ↔ u = [] := by
  unfold fetchT at h
  have a1 : Ahead t (nI t 5 s) _ := Ahead.nI [m.f1, m.f2, m.f3, m.f4, m.f5] h hm.fe
  exact oneE_ahead a1 rfl
theorem pFetched_end {m : Mg} {w : World} (hm : MgIn w m) (hf : Fine m) (hk : m.kd = 3) (h : Ahead t s (fetchedT m ++ u)) : pFetched t s = 0 ↔ u = [] := by
  obtain ⟨c1, c2⟩ := hf.gb hk
  unfold fetchedT at h
  rw [List.append_assoc] at h
  have a1 : Ahead t (nI t 8 s) _ := Ahead.nI [m.g1, m.g2, m.g3, m.g4, m.g5, m.g6, m.g7, m.g8] h hm.ge
  rw [List.append_assoc] at a1
  have a2 := a1.F1
  obtain ⟨e3, a3⟩ := a2.All (one := rBa t) (by simp; omega) (fun x hx s u h => by
    obtain ⟨o, ho, rfl⟩ := List.mem_map.1 hx
    exact aheadBa (hm.gin o ho).2 (c2 o ho) s u h)
  exact oneE_ahead a3 e3
theorem pCmd_end {m : Mg} {w : World} (hm : MgIn w m) (hf : Fine m) (hk : m.kd = 4) (h : Ahead t s (cmdT m ++ u)) : pCmd t s = 0 ↔ u = [] := by
  obtain ⟨c1, c2⟩ := hf.c hk
  unfold cmdT at h
  obtain ⟨e1, a1⟩ := h.B c2
  exact oneE_ahead a1 (by rw [e1]; exact cmd_there hm.cf c1)
end
end Go.Proofs.Ytblmondkdcpkaaa


/-
  A text begins with what a message is written as: the rest of Rb3. Conditions: the message's numbers fit.
-/
namespace Go.Proofs.Ytblmondkdcpkaaa
open Go.RowKit
set_option linter.unusedVariables false

section
variable {t u : List Nat} {s : Rst}
set_option maxHeartbeats 2000000 in
theorem pOthers_end {m : Mg} {w : World} (hm : MgIn w m) (hf : Fine m) (hk : ¬ m.kd = 1 ∧ ¬ m.kd = 2 ∧ ¬ m.kd = 3 ∧ ¬ m.kd = 4) (h : Ahead t s (othersT m ++ u)) : pOthers t s = 0 ↔ u = [] := by
  obtain ⟨c1, c2, c3, c4, c5⟩ := hf.ot hk
  unfold othersT at h
  rw [List.append_assoc] at h
  have a1 : Ahead t (nI t 9 s) _ := Ahead.nI [m.o1, m.o2, m.o3, m.o4, m.o5, m.o6, m.o7, m.o8, m.o9] h hm.ot
  rw [List.append_assoc] at a1
  have a2 := (a1.U hm.pid).2
  rw [List.append_assoc] at a2
  have a3 := a2.F1
  rw [List.append_assoc] at a3
  obtain ⟨e4, a4⟩ : (pLst t s).1 = m.ms ∧ Ahead t (pLst t s).2 _ := a3.L (by omega) hm.msf
  rw [List.append_assoc] at a4
  rw [show layBa m.B = enc (encBa m.B).length ++ encBa m.B from rfl] at a4
  obtain ⟨e5, a5⟩ : (pOwn t s).1 = encBa m.B ∧ Ahead t (pOwn t s).2 _ := a4.B (ba_len hm.bf c2).1
  rw [List.append_assoc] at a5
  have n6 : (m.bs.map Ba.vl).length ≤ 512 := by rw [List.length_map]; omega
  have x6 : ∀ x ∈ m.bs.map Ba.vl, ∀ s u, Ahead t s (layBa x ++ u) → (rBa t s).1 = 0 ∧ Ahead t (rBa t s).2.2 u := fun x hx s u h => by
    obtain ⟨o, ho, rfl⟩ := List.mem_map.1 hx
    exact aheadBa (hm.bin o ho).2 (c4 o ho) s u h
  have r6 := Ahead.All (t := t) (one := rBa t) (lay := layBa) (l := m.bs.map Ba.vl) a5 n6 x6
  have d6 : pBas t s = rAll t (rBa t) (pOwn t s).2 := rfl
  rw [← d6] at r6
  obtain ⟨e6, a6⟩ := r6
  have n7 : (m.ab.map Ab.vl).length ≤ 512 := by rw [List.length_map]; omega
  have x7 : ∀ x ∈ m.ab.map Ab.vl, ∀ s u, Ahead t s (encAb x ++ u) → (rAb t s).1 = 0 ∧ Ahead t (rAb t s).2.2 u := fun x hx s u h => by
    obtain ⟨o, ho, rfl⟩ := List.mem_map.1 hx
    exact aheadAb (p := Ab.vl o) (hm.ain o ho).1 (hm.ain o ho).2.1 (hm.ain o ho).2.2 s u h
  have r7 := Ahead.All (t := t) (one := rAb t) (lay := encAb) (l := m.ab.map Ab.vl) a6 n7 x7
  have d7 : pAbs t s = rAll t (rAb t) (pBas t s).2.2 := rfl
  rw [← d7] at r7
  obtain ⟨e7, a7⟩ := r7
  unfold pOthers
  refine oneE_ahead a7 ?_
  rw [e4, e5, e6, e7]
  exact oE_four (by omega) (ba_len hm.bf c2).2 rfl
end
theorem pE_fin {w : World} {m : Mg} (hm : MgIn w m) (h : finE m = 0) (u : List Nat) : pE (finL m ++ u) = 0 ↔ u = [] := by
  obtain ⟨hf, hL⟩ := fine_of hm h
  rw [hL]
  generalize ht : (encL [m.kd, m.fr, m.tt, m.co, m.er] ++ restT m) ++ u = t
  have a : Ahead t ⟨0, 0⟩ (encL [m.kd, m.fr, m.tt, m.co, m.er] ++ (restT m ++ u)) := by
    have := Ahead.start t
    rw [← List.append_assoc, ht]
    exact this
  have a0 : Ahead t (nI t 5 ⟨0, 0⟩) (restT m ++ u) := Ahead.nI [m.kd, m.fr, m.tt, m.co, m.er] a hm.hd
  have k0 : (rI t ⟨0, 0⟩).1 = m.kd := by
    have e : encL [m.kd, m.fr, m.tt, m.co, m.er] ++ (restT m ++ u) = enc (zig m.kd) ++ (encL [m.fr, m.tt, m.co, m.er] ++ (restT m ++ u)) := by simp [encL]
    rw [e] at a
    exact (a.I (hm.hd m.kd (by simp))).1
  unfold pE
  rw [k0, if_neg (by rw [hf.kd]; decide)]
  unfold restT at a0
  by_cases h1 : m.kd = 1
  · rw [if_pos h1] at a0 ⊢
    exact pRaft_end hm hf h1 a0
  rw [if_neg h1] at a0 ⊢
  by_cases h2 : m.kd = 2
  · rw [if_pos h2] at a0 ⊢
    exact pFetch_end hm a0
  rw [if_neg h2] at a0 ⊢
  by_cases h3 : m.kd = 3
  · rw [if_pos h3] at a0 ⊢
    exact pFetched_end hm hf h3 a0
  rw [if_neg h3] at a0 ⊢
  by_cases h4 : m.kd = 4
  · rw [if_pos h4] at a0 ⊢
    exact pCmd_end hm hf h4 a0
  rw [if_neg h4] at a0 ⊢
  exact pOthers_end hm hf ⟨h1, h2, h3, h4⟩ a0
end Go.Proofs.Ytblmondkdcpkaaa


namespace Go.Proofs.Ytblmondkdcpkaaa
open Go.RowKit
set_option linter.unusedVariables false

theorem fin_len {w : World} {m : Mg} (hm : MgIn w m) (h : finE m = 0) : 0 < (finL m).length ∧ (finL m).length ≤ 20000100 := by
  obtain ⟨hf, _⟩ := fine_of hm h
  have hk : 1 ≤ m.kd ∧ m.kd ≤ 15 := by
    have := hf.kd
    unfold kndE at this
    split at this
    · cases this
    · omega
  obtain ⟨r, er⟩ := fin_first h hk
  refine ⟨by rw [er]; simp, ?_⟩
  have hE : msgE m = 0 := Decidable.byContradiction fun g => by unfold finE at h; rw [if_pos g] at h; exact g h
  have h1 := rest_len hm (encL [m.kd, m.fr, m.tt, m.co, m.er], false) (msgE_zero hE)
  have h2 := encL_len [m.kd, m.fr, m.tt, m.co, m.er] hm.hd
  have e : finL m = (restS (encL [m.kd, m.fr, m.tt, m.co, m.er], false) m).1 := by unfold finL; rw [if_pos h]; rfl
  rw [e]
  simp only [List.length_cons, List.length_nil] at h1 h2
  omega
theorem cut_not {w w' : World} {m m' : Mg} (hm : MgIn w m) (h : finE m = 0) {k : Nat} (hk : k < (finL m).length) (hm' : MgIn w' m') (h' : finE m' = 0) : finL m' ≠ (finL m).take k := by
  intro e
  have z1 := (pE_fin hm' h' ((finL m).drop k)).1
  rw [e, List.take_append_drop] at z1
  have z2 := (pE_fin hm h []).2 rfl
  rw [List.append_nil] at z2
  have z3 := congrArg List.length (z1 z2)
  rw [List.length_drop, List.length_nil] at z3
  omega
/-- What Decode leaves: an error just where G is false. -/
def DcB (G : Bool) (w : World) (e : Ending) (w' : World) : Prop := ∃ (E : Int) (L : List Value), e = .returned (.tuple #[.agg L.toArray, .int .i64 E]) ∧ L.length = 59 ∧ L.toArray.all (·.oneCell') = true ∧ (E == 0) = G ∧ Below w.heap.size w w'
def KCut (T : List Nat) : Prop := ∀ (k : Nat), k < T.length → ∀ (W : World) (a : Option Addr) (cap : Nat) (TK : List Nat), TK = T.take k → LAt W a TK → (a = none → cap = 0) → Calls Try.prog 13 #[.slice a TK.length cap] W fun e w' => DcB false W e w'
def KMore (T : List Nat) : Prop := ∀ (W : World) (a : Option Addr) (cap : Nat) (t TT : List Nat), TT = T ++ t → t.length ≤ 1048576 → LAt W a TT → (a = none → cap = 0) → Calls Try.prog 13 #[.slice a TT.length cap] W fun e w' => DcB ((t.length : Int) == 0) W e w'
theorem decode_cut (HEAD : HdAll) {w : World} {m : Mg} (hm : MgIn w m) (h : finE m = 0) : KCut (finL m) := by
  intro k hk W a cap TK hTK ht hn
  have hl := (fin_len hm h).2
  have hl2 : TK.length ≤ 140737488355328 := by rw [hTK, List.length_take]; omega
  refine (decode_all HEAD ht hn hl2).mono ?_
  rintro e w' ⟨E, m', rfl, hb, h0, h1, hp⟩
  refine ⟨E, mgL m', rfl, rfl, mg_one m', ?_, hb⟩
  by_cases hE : E = 0
  · obtain ⟨i, f1, f2⟩ := h0 hE
    rw [hTK] at f2
    exact absurd f2 (cut_not hm h hk i f1)
  · exact beq_eq_false_iff_ne.2 hE
theorem decode_more (HEAD : HdAll) {w : World} {m : Mg} (hm : MgIn w m) (h : finE m = 0) : KMore (finL m) := by
  intro W a cap t TT hTT htl ht hn
  have hl := (fin_len hm h).2
  refine (decode_all HEAD ht hn (by rw [hTT, List.length_append]; omega)).mono ?_
  rintro e w' ⟨E, m', rfl, hb, h0, h1, hp⟩
  refine ⟨E, mgL m', rfl, rfl, mg_one m', ?_, hb⟩
  have z := pE_fin hm h t
  rw [← hTT, hp] at z
  by_cases hE : E = 0
  · have ht0 := z.1 hE
    subst ht0 hE
    rfl
  · have ht0 : t ≠ [] := fun g => hE (z.2 g)
    have : ¬ (t.length : Int) = 0 := by have := List.length_pos_iff.2 ht0; omega
    rw [beq_eq_false_iff_ne.2 hE, beq_eq_false_iff_ne.2 this]
end Go.Proofs.Ytblmondkdcpkaaa
