/-
  Two messages with one text are alike in what the law looks at. Conditions: the messages as they lie.
-/
import Derived.Test.YtblmondkdcpkaaaZ53

namespace Go.Proofs.Ytblmondkdcpkaaa
open Go.RowKit
set_option linter.unusedVariables false

section
variable {w w' : World} {x m : Mg} {t : List Nat} {s : Rst} {u : List Nat}
/-- The place behind the head. -/
theorem behind_head (hm : MgIn w m) (hE : finE m = 0) (ht : finL m = t) : Ahead t (nI t 5 ⟨0, 0⟩) (restT m) := by
  obtain ⟨_, l1⟩ := fine_of hm hE
  have a0 := Ahead.start t
  have e : t = encL [m.kd, m.fr, m.tt, m.co, m.er] ++ restT m := by rw [← ht]; exact l1
  have a1 : Ahead t ⟨0, 0⟩ (encL [m.kd, m.fr, m.tt, m.co, m.er] ++ restT m) := by rw [← e]; exact a0
  exact a1.nI [m.kd, m.fr, m.tt, m.co, m.er] hm.hd
theorem Ahead.I1 {i : Int} {r : List Int} (h : Ahead t s (encL (i :: r) ++ u)) (hi : I64 i) : (rI t s).1 = i ∧ Ahead t (rI t s).2 (encL r ++ u) := by
  have e : encL (i :: r) ++ u = enc (zig i) ++ (encL r ++ u) := by simp [encL]
  rw [e] at h
  exact h.I hi
theorem aheadF1 {q : Bool} (h : Ahead t s ([q.toNat] ++ u)) : (rF t s).1 = q ∧ Ahead t (rF t s).2 u := by
  have e : enc q.toNat = [q.toNat] := (flag_enc q).symm
  rw [← e] at h
  exact h.F
theorem raft_tells (hm : MgIn w m) (hE : finE m = 0) (ht : finL m = t) (hk : m.kd = 1) :
    (rI t (nI t 5 ⟨0, 0⟩)).1 = m.r1 ∧ (rU t (rF t (nI t 7 (nI t 5 ⟨0, 0⟩))).2).1 = m.en.length := by
  have a := behind_head hm hE ht
  have f := (fine_of hm hE).1.en hk
  have er : restT m = raftT m := by unfold restT; rw [if_pos hk]
  rw [er] at a
  unfold raftT at a
  have b := (a.I1 (hm.rf _ (by simp))).1
  have c := Ahead.nI [m.r1, m.r2, m.r3, m.r4, m.r5, m.r6, m.r7] a hm.rf
  have d := (aheadF1 c).2
  rw [List.append_assoc] at d
  have g := (d.U (by rw [List.length_map]; omega)).1
  rw [List.length_map] at g
  exact ⟨b, g⟩
theorem fetch_tells (hm : MgIn w m) (hE : finE m = 0) (ht : finL m = t) (hk : m.kd = 2) :
    (rI t (nI t 5 ⟨0, 0⟩)).1 = m.f1 ∧ (rI t (nI t 1 (nI t 5 ⟨0, 0⟩))).1 = m.f2 ∧ (rI t (nI t 2 (nI t 5 ⟨0, 0⟩))).1 = m.f3 ∧ (rI t (nI t 3 (nI t 5 ⟨0, 0⟩))).1 = m.f4 ∧ (rI t (nI t 4 (nI t 5 ⟨0, 0⟩))).1 = m.f5 := by
  have a := behind_head hm hE ht
  have er : restT m = fetchT m ++ [] := by unfold restT; rw [if_neg (by omega), if_pos hk, List.append_nil]
  rw [er] at a
  unfold fetchT at a
  have b1 := a.I1 (hm.fe _ (by simp))
  have b2 := b1.2.I1 (hm.fe _ (by simp))
  have b3 := b2.2.I1 (hm.fe _ (by simp))
  have b4 := b3.2.I1 (hm.fe _ (by simp))
  have b5 := b4.2.I1 (hm.fe _ (by simp))
  exact ⟨b1.1, b2.1, b3.1, b4.1, b5.1⟩
theorem fetched_tells (hm : MgIn w m) (hE : finE m = 0) (ht : finL m = t) (hk : m.kd = 3) :
    (rI t (nI t 3 (nI t 5 ⟨0, 0⟩))).1 = m.g4 ∧ (rU t (rF t (nI t 8 (nI t 5 ⟨0, 0⟩))).2).1 = m.gb.length := by
  have a := behind_head hm hE ht
  have f := (fine_of hm hE).1.gb hk
  have er : restT m = fetchedT m := by unfold restT; rw [if_neg (by omega), if_neg (by omega), if_pos hk]
  rw [er] at a
  unfold fetchedT at a
  have b1 := a.I1 (hm.ge _ (by simp))
  have b2 := b1.2.I1 (hm.ge _ (by simp))
  have b3 := b2.2.I1 (hm.ge _ (by simp))
  have b4 := b3.2.I1 (hm.ge _ (by simp))
  have c := Ahead.nI [m.g1, m.g2, m.g3, m.g4, m.g5, m.g6, m.g7, m.g8] a hm.ge
  have d := (aheadF1 c).2
  have g := (d.U (by rw [List.length_map]; omega)).1
  rw [List.length_map] at g
  exact ⟨b4.1, g⟩
theorem cmd_tells (hm : MgIn w m) (hE : finE m = 0) (ht : finL m = t) (hk : m.kd = 4) : (rB t (nI t 5 ⟨0, 0⟩)).1 = encC m.c := by
  have a := behind_head hm hE ht
  have f := (fine_of hm hE).1.c hk
  have er : restT m = cmdT m ++ [] := by unfold restT; rw [if_neg (by omega), if_neg (by omega), if_neg (by omega), if_pos hk, List.append_nil]
  rw [er] at a
  unfold cmdT at a
  exact (a.B f.2).1
theorem c_tells {c : Cm} (hf : CFit c) (hC : isC c = true) (ht : encC c = t) : (rI t ⟨0, 0⟩).1 = c.kd ∧ (rU t (nI t 5 ⟨0, 0⟩)).1 = c.l.length := by
  have h5 := isC_few hC
  have e : t = encL [c.kd, c.nd, c.pt, c.ep, c.ve] ++ (enc c.l.length ++ encL c.l) := by rw [← ht]; unfold encC; simp [encL]
  have a : Ahead t ⟨0, 0⟩ (encL [c.kd, c.nd, c.pt, c.ep, c.ve] ++ (enc c.l.length ++ encL c.l)) := by rw [← e]; exact Ahead.start t
  have b1 := a.I1 hf.kd
  have hx : ∀ x ∈ [c.kd, c.nd, c.pt, c.ep, c.ve], I64 x := by
    intro x hx
    simp only [List.mem_cons, List.not_mem_nil, or_false] at hx
    rcases hx with rfl | rfl | rfl | rfl | rfl
    · exact hf.kd
    · exact hf.nd
    · exact hf.pt
    · exact hf.ep
    · exact hf.ve
  have b5 := Ahead.nI [c.kd, c.nd, c.pt, c.ep, c.ve] a hx
  exact ⟨b1.1, (b5.U (by omega)).1⟩
/-- What a text of kind 5 and more tells. -/
structure OtT (t : List Nat) (s0 : Rst) (m : Mg) : Prop where
  o1 : (rI t s0).1 = m.o1
  o2 : (rI t (nI t 1 s0)).1 = m.o2
  o3 : (rI t (nI t 2 s0)).1 = m.o3
  o4 : (rI t (nI t 3 s0)).1 = m.o4
  o5 : (rI t (nI t 4 s0)).1 = m.o5
  o6 : (rI t (nI t 5 s0)).1 = m.o6
  o7 : (rI t (nI t 6 s0)).1 = m.o7
  o8 : (rI t (nI t 7 s0)).1 = m.o8
  o9 : (rI t (nI t 8 s0)).1 = m.o9
  pid : (rU t (nI t 9 s0)).1 = m.pid
  cm : (rF t (rU t (nI t 9 s0)).2).1 = m.cm
  ms : (pLst t s0).1 = m.ms
  bs : (rU t (pOwn t s0).2).1 = m.bs.length
  ab : (rU t (pBas t s0).2.2).1 = m.ab.length
theorem others_tells (hm : MgIn w m) (hE : finE m = 0) (ht : finL m = t) (hk : ¬ m.kd = 1 ∧ ¬ m.kd = 2 ∧ ¬ m.kd = 3 ∧ ¬ m.kd = 4) : OtT t (nI t 5 ⟨0, 0⟩) m := by
  have a := behind_head hm hE ht
  have f := (fine_of hm hE).1.ot hk
  have er : restT m = othersT m := by unfold restT; rw [if_neg hk.1, if_neg hk.2.1, if_neg hk.2.2.1, if_neg hk.2.2.2]
  rw [er] at a
  unfold othersT at a
  generalize nI t 5 ⟨0, 0⟩ = s0 at *
  have b1 := a.I1 (hm.ot _ (by simp))
  have b2 := b1.2.I1 (hm.ot _ (by simp))
  have b3 := b2.2.I1 (hm.ot _ (by simp))
  have b4 := b3.2.I1 (hm.ot _ (by simp))
  have b5 := b4.2.I1 (hm.ot _ (by simp))
  have b6 := b5.2.I1 (hm.ot _ (by simp))
  have b7 := b6.2.I1 (hm.ot _ (by simp))
  have b8 := b7.2.I1 (hm.ot _ (by simp))
  have b9 := b8.2.I1 (hm.ot _ (by simp))
  have c0 := Ahead.nI [m.o1, m.o2, m.o3, m.o4, m.o5, m.o6, m.o7, m.o8, m.o9] a hm.ot
  have c1 := c0.U hm.pid
  have c2 := aheadF1 c1.2
  have c3 := Ahead.L c2.2 (Nat.le_trans f.1 (by decide)) hm.msf
  have c3' : (pLst t s0).1 = m.ms ∧ Ahead t (pLst t s0).2 (layBa m.B ++ ((enc (m.bs.map Ba.vl).length ++ (m.bs.map Ba.vl).flatMap layBa) ++ (enc (m.ab.map Ab.vl).length ++ (m.ab.map Ab.vl).flatMap encAb))) := c3
  have hb := ba_len hm.bf f.2.1
  have c4 : Ahead t (rB t (pLst t s0).2).2 ((enc (m.bs.map Ba.vl).length ++ (m.bs.map Ba.vl).flatMap layBa) ++ (enc (m.ab.map Ab.vl).length ++ (m.ab.map Ab.vl).flatMap encAb)) := by
    have h := c3'.2
    unfold layBa at h
    exact (h.B hb.1).2
  have d : pOwn t s0 = rB t (pLst t s0).2 := rfl
  rw [← d] at c4
  have c4' := c4
  rw [List.append_assoc] at c4'
  have c5 := (c4'.U (by rw [List.length_map]; omega)).1
  rw [List.length_map] at c5
  have c6 := (Ahead.All (one := rBa t) (lay := layBa) c4 (by rw [List.length_map]; exact f.2.2.1) (fun y hy s u h => by
    obtain ⟨z, hz, rfl⟩ := List.mem_map.1 hy
    exact aheadBa (hm.bin z hz).2 (f.2.2.2.1 z hz) s u h)).2
  have d2 : pBas t s0 = rAll t (rBa t) (pOwn t s0).2 := rfl
  rw [← d2] at c6
  have c7 := (c6.U (by rw [List.length_map]; omega)).1
  rw [List.length_map] at c7
  exact ⟨b1.1, b2.1, b3.1, b4.1, b5.1, b6.1, b7.1, b8.1, b9.1, c1.1, c2.1, c3'.1, c5, c7⟩
end
theorem head_same' {w w' : World} {a b : Mg} (ha : MgIn w a) (hb : MgIn w' b) (hE : finE a = 0) (hF : finE b = 0) (h : finL a = finL b) : a.kd = b.kd ∧ a.fr = b.fr ∧ a.tt = b.tt ∧ a.co = b.co := by
  obtain ⟨_, l1⟩ := fine_of ha hE
  obtain ⟨_, l2⟩ := fine_of hb hF
  have hd : ∀ (m : Mg), (∀ x ∈ [m.kd, m.fr, m.tt, m.co, m.er], I64 x) → ∀ r t, t = encL [m.kd, m.fr, m.tt, m.co, m.er] ++ r → (rI t ⟨0, 0⟩).1 = m.kd ∧ (rI t (nI t 1 ⟨0, 0⟩)).1 = m.fr ∧ (rI t (nI t 2 ⟨0, 0⟩)).1 = m.tt ∧ (rI t (nI t 3 ⟨0, 0⟩)).1 = m.co := by
    intro m hx r t ht
    have a0 : Ahead t ⟨0, 0⟩ (enc (zig m.kd) ++ (enc (zig m.fr) ++ (enc (zig m.tt) ++ (enc (zig m.co) ++ (enc (zig m.er) ++ r))))) := by
      have := Ahead.start t
      have e : t = enc (zig m.kd) ++ (enc (zig m.fr) ++ (enc (zig m.tt) ++ (enc (zig m.co) ++ (enc (zig m.er) ++ r)))) := by rw [ht]; simp [encL]
      rw [← e]
      exact this
    obtain ⟨y1, a1⟩ := a0.I (hx m.kd (by simp))
    obtain ⟨y2, a2⟩ := a1.I (hx m.fr (by simp))
    obtain ⟨y3, a3⟩ := a2.I (hx m.tt (by simp))
    obtain ⟨y4, _⟩ := a3.I (hx m.co (by simp))
    exact ⟨y1, y2, y3, y4⟩
  obtain ⟨p1, p2, p3, p4⟩ := hd a ha.hd _ _ l1
  obtain ⟨q1, q2, q3, q4⟩ := hd b hb.hd _ _ (h.trans l2)
  exact ⟨p1.symm.trans q1, p2.symm.trans q2, p3.symm.trans q3, p4.symm.trans q4⟩
section
variable {w w' : World} {x m : Mg}
theorem key_same (hx : MgIn w x) (hm : MgIn w' m) (hE : finE x = 0) (hF : finE m = 0) (h : finL x = finL m) : Key (bareM x) (bareM m) := by
  obtain ⟨k, _⟩ := head_same' hx hm hE hF h
  obtain ⟨t, ht⟩ : ∃ t, finL m = t := ⟨_, rfl⟩
  have hx' := h.trans ht
  by_cases h1 : m.kd = 1
  · have g1 := k.trans h1
    obtain ⟨p1, p2⟩ := raft_tells hx hE hx' g1
    obtain ⟨q1, q2⟩ := raft_tells hm hF ht h1
    rw [bareM_1 h1, bareM_1 g1]
    constructor
    all_goals first
      | rfl
      | exact k
      | exact p1.symm.trans q1
      | exact p2.symm.trans q2
  by_cases h2 : m.kd = 2
  · have g2 := k.trans h2
    obtain ⟨p1, p2, p3, p4, p5⟩ := fetch_tells hx hE hx' g2
    obtain ⟨q1, q2, q3, q4, q5⟩ := fetch_tells hm hF ht h2
    rw [bareM_2 h2, bareM_2 g2]
    constructor
    all_goals first
      | rfl
      | exact k
      | exact p1.symm.trans q1
      | exact p2.symm.trans q2
      | exact p3.symm.trans q3
      | exact p4.symm.trans q4
      | exact p5.symm.trans q5
  by_cases h3 : m.kd = 3
  · have g3 := k.trans h3
    obtain ⟨p1, p2⟩ := fetched_tells hx hE hx' g3
    obtain ⟨q1, q2⟩ := fetched_tells hm hF ht h3
    rw [bareM_3 h3, bareM_3 g3]
    constructor
    all_goals first
      | rfl
      | exact k
      | exact p1.symm.trans q1
      | exact p2.symm.trans q2
  by_cases h4 : m.kd = 4
  · have g4 := k.trans h4
    have e : encC x.c = encC m.c := (cmd_tells hx hE hx' g4).symm.trans (cmd_tells hm hF ht h4)
    obtain ⟨p1, p2⟩ := c_tells hx.cf ((fine_of hx hE).1.c g4).1 e
    obtain ⟨q1, q2⟩ := c_tells hm.cf ((fine_of hm hF).1.c h4).1 rfl
    rw [bareM_4 h4, bareM_4 g4]
    constructor
    all_goals first
      | rfl
      | exact k
      | exact p1.symm.trans q1
      | exact p2.symm.trans q2
  · have hh : ¬ m.kd = 1 ∧ ¬ m.kd = 2 ∧ ¬ m.kd = 3 ∧ ¬ m.kd = 4 := ⟨h1, h2, h3, h4⟩
    have gg : ¬ x.kd = 1 ∧ ¬ x.kd = 2 ∧ ¬ x.kd = 3 ∧ ¬ x.kd = 4 := by rw [k]; exact hh
    have p := others_tells hx hE hx' gg
    have q := others_tells hm hF ht hh
    rw [bareM_5 hh, bareM_5 gg]
    constructor
    · exact k
    · exact p.o1.symm.trans q.o1
    · exact p.o2.symm.trans q.o2
    · exact p.o3.symm.trans q.o3
    · exact p.o4.symm.trans q.o4
    · exact p.pid.symm.trans q.pid
    · exact p.o5.symm.trans q.o5
    · exact p.cm.symm.trans q.cm
    · exact p.o6.symm.trans q.o6
    · exact p.o7.symm.trans q.o7
    · exact p.o8.symm.trans q.o8
    · exact p.o9.symm.trans q.o9
    · exact congrArg List.length (p.ms.symm.trans q.ms)
    · exact p.ab.symm.trans q.ab
    · exact p.bs.symm.trans q.bs
    all_goals rfl
end
end Go.Proofs.Ytblmondkdcpkaaa
