/-
  wire.Decode of what was written: a message with just what its kind has, and these bytes. Conditions: the bytes as they lie.
-/
import Derived.Test.YtblmondkdcpkaaaZ54

namespace Go.Proofs.Ytblmondkdcpkaaa
open Go.RowKit
set_option linter.unusedVariables false

/-- msg of any text: what is wrong with it, and what it tells. -/
theorem rmsg_cn (HEAD : HdAll) {t : List Nat} (hy : ∀ x ∈ t, x < 256) : ∃ (E : Int) (D : Mg → Prop), pE t = E ∧ (E = 0 → ∀ m, D m → (finE m = 0 ∧ finL m = t) ∧ ∀ W, MgIn W m → Cn m) ∧
    ∀ (W : World) (b : Nat) (a : Option Addr) (cap : Nat), RdAt 97 W b a cap t ⟨0, 0⟩ → Calls Try.prog 35 #[.agg #[.pointer (some ⟨b, 0, none⟩)]] W fun e w' => MsQ W b E D e w' := by
  obtain ⟨k1, t1, d1⟩ : ∃ x s, rI t ⟨0, 0⟩ = (x, s) := ⟨_, _, pair_eq _⟩
  obtain ⟨k2, t2, d2⟩ : ∃ x s, rI t t1 = (x, s) := ⟨_, _, pair_eq _⟩
  obtain ⟨k3, t3, d3⟩ : ∃ x s, rI t t2 = (x, s) := ⟨_, _, pair_eq _⟩
  obtain ⟨k4, t4, d4⟩ : ∃ x s, rI t t3 = (x, s) := ⟨_, _, pair_eq _⟩
  obtain ⟨k5, s0, d5⟩ : ∃ x s, rI t t4 = (x, s) := ⟨_, _, pair_eq _⟩
  by_cases hk0 : kndE k1 ≠ 0
  · refine ⟨1, fun _ => False, by unfold pE; rw [d1]; exact if_pos hk0, fun h => absurd h (by decide), fun W b a cap h => ?_⟩
    refine (msg_no h hk0 (fun {W} h => HEAD h d1 d2 d3 d4 d5)).mono ?_
    rintro e w' ⟨he, tc⟩
    exact ⟨tc, fun h => absurd h (by decide), fun _ => he⟩
  have hk : 1 ≤ k1 ∧ k1 ≤ 15 := by
    unfold kndE at hk0
    split at hk0
    · exact absurd (by decide) hk0
    · omega
  have hn : ¬ kndE k1 ≠ 0 := hk0
  clear hk0
  have hH : nI t 5 ⟨0, 0⟩ = s0 := by simp only [nI, d1, d2, d3, d4, d5]
  have hP : pE t = if k1 = 1 then pRaft t s0 else if k1 = 2 then pFetch t s0 else if k1 = 3 then pFetched t s0 else if k1 = 4 then pCmd t s0 else pOthers t s0 := by
    unfold pE
    rw [hH, d1, if_neg hn]
  clear hn hH
  by_cases h1 : k1 = 1
  · obtain ⟨x1, s1, e1⟩ : ∃ x s, rI t s0 = (x, s) := ⟨_, _, pair_eq _⟩
    obtain ⟨x2, s2, e2⟩ : ∃ x s, rI t s1 = (x, s) := ⟨_, _, pair_eq _⟩
    obtain ⟨x3, s3, e3⟩ : ∃ x s, rI t s2 = (x, s) := ⟨_, _, pair_eq _⟩
    obtain ⟨x4, s4, e4⟩ : ∃ x s, rI t s3 = (x, s) := ⟨_, _, pair_eq _⟩
    obtain ⟨x5, s5, e5⟩ : ∃ x s, rI t s4 = (x, s) := ⟨_, _, pair_eq _⟩
    obtain ⟨x6, s6, e6⟩ : ∃ x s, rI t s5 = (x, s) := ⟨_, _, pair_eq _⟩
    obtain ⟨x7, s7, e7⟩ : ∃ x s, rI t s6 = (x, s) := ⟨_, _, pair_eq _⟩
    obtain ⟨x8, s8, e8⟩ : ∃ x s, rF t s7 = (x, s) := ⟨_, _, pair_eq _⟩
    obtain ⟨EE, x9, s9, e9⟩ : ∃ E x s, rAll t (rEn t) s8 = (E, x, s) := ⟨_, _, _, rfl⟩
    obtain ⟨x10, s10, e10⟩ : ∃ x s, rB t s9 = (x, s) := ⟨_, _, pair_eq _⟩
    refine ⟨_, _, by rw [hP, if_pos h1]; unfold pRaft; simp only [nI, e1, e2, e3, e4, e5, e6, e7, e8, e9, e10], fun hE m hm => ?_, fun W b a cap h => rmsg_raft HEAD h h1 d1 d2 d3 d4 d5 e1 e2 e3 e4 e5 e6 e7 e8 e9 e10⟩
    obtain ⟨q1, q2⟩ := oneE_zero hE
    subst q1
    have bk := back_raft hy d1 d2 d3 d4 d5 h1 e1 e2 e3 e4 e5 e6 e7 e8 e9 e10 q2 hm
    exact ⟨bk, fun W hi => cn_raft h1 hm hi bk.1⟩
  by_cases h2 : k1 = 2
  · obtain ⟨x1, s1, e1⟩ : ∃ x s, rI t s0 = (x, s) := ⟨_, _, pair_eq _⟩
    obtain ⟨x2, s2, e2⟩ : ∃ x s, rI t s1 = (x, s) := ⟨_, _, pair_eq _⟩
    obtain ⟨x3, s3, e3⟩ : ∃ x s, rI t s2 = (x, s) := ⟨_, _, pair_eq _⟩
    obtain ⟨x4, s4, e4⟩ : ∃ x s, rI t s3 = (x, s) := ⟨_, _, pair_eq _⟩
    obtain ⟨x5, s5, e5⟩ : ∃ x s, rI t s4 = (x, s) := ⟨_, _, pair_eq _⟩
    refine ⟨_, _, by rw [hP, if_neg h1, if_pos h2]; unfold pFetch; simp only [nI, e1, e2, e3, e4, e5], fun hE m hm => ?_, fun W b a cap h => rmsg_fetch HEAD h h2 d1 d2 d3 d4 d5 e1 e2 e3 e4 e5⟩
    obtain ⟨q1, q2⟩ := oneE_zero hE
    have bk := back_fetch hy d1 d2 d3 d4 d5 h2 e1 e2 e3 e4 e5 q2 (rE_er q2) hm
    exact ⟨bk, fun W hi => cn_fetch h2 hm⟩
  by_cases h3 : k1 = 3
  · obtain ⟨x1, s1, e1⟩ : ∃ x s, rI t s0 = (x, s) := ⟨_, _, pair_eq _⟩
    obtain ⟨x2, s2, e2⟩ : ∃ x s, rI t s1 = (x, s) := ⟨_, _, pair_eq _⟩
    obtain ⟨x3, s3, e3⟩ : ∃ x s, rI t s2 = (x, s) := ⟨_, _, pair_eq _⟩
    obtain ⟨x4, s4, e4⟩ : ∃ x s, rI t s3 = (x, s) := ⟨_, _, pair_eq _⟩
    obtain ⟨x5, s5, e5⟩ : ∃ x s, rI t s4 = (x, s) := ⟨_, _, pair_eq _⟩
    obtain ⟨x6, s6, e6⟩ : ∃ x s, rI t s5 = (x, s) := ⟨_, _, pair_eq _⟩
    obtain ⟨x7, s7, e7⟩ : ∃ x s, rI t s6 = (x, s) := ⟨_, _, pair_eq _⟩
    obtain ⟨x8, s8, e8⟩ : ∃ x s, rI t s7 = (x, s) := ⟨_, _, pair_eq _⟩
    obtain ⟨x9, s9, e9⟩ : ∃ x s, rF t s8 = (x, s) := ⟨_, _, pair_eq _⟩
    obtain ⟨EE, x10, s10, e10⟩ : ∃ E x s, rAll t (rBa t) s9 = (E, x, s) := ⟨_, _, _, rfl⟩
    refine ⟨_, _, by rw [hP, if_neg h1, if_neg h2, if_pos h3]; unfold pFetched; simp only [nI, e1, e2, e3, e4, e5, e6, e7, e8, e9, e10], fun hE m hm => ?_, fun W b a cap h => rmsg_fetched HEAD h h3 d1 d2 d3 d4 d5 e1 e2 e3 e4 e5 e6 e7 e8 e9 e10⟩
    obtain ⟨q1, q2⟩ := oneE_zero hE
    subst q1
    have bk := back_fetched hy d1 d2 d3 d4 d5 h3 e1 e2 e3 e4 e5 e6 e7 e8 e9 e10 q2 hm
    exact ⟨bk, fun W hi => cn_fetched h3 hm hi bk.1⟩
  by_cases h4 : k1 = 4
  · obtain ⟨x1, s1, e1⟩ : ∃ x s, rB t s0 = (x, s) := ⟨_, _, pair_eq _⟩
    refine ⟨_, _, by rw [hP, if_neg h1, if_neg h2, if_neg h3, if_pos h4]; unfold pCmd; simp only [e1], fun hE m hm => ?_, fun W b a cap h => rmsg_cmd HEAD h h4 d1 d2 d3 d4 d5 e1⟩
    obtain ⟨q1, q2⟩ := oneE_zero hE
    have bk := back_cmd hy d1 d2 d3 d4 d5 h4 e1 q1 q2 hm
    exact ⟨bk, fun W hi => cn_cmd h4 hm hi bk.1⟩
  obtain ⟨x1, s1, e1⟩ : ∃ x s, rI t s0 = (x, s) := ⟨_, _, pair_eq _⟩
  obtain ⟨x2, s2, e2⟩ : ∃ x s, rI t s1 = (x, s) := ⟨_, _, pair_eq _⟩
  obtain ⟨x3, s3, e3⟩ : ∃ x s, rI t s2 = (x, s) := ⟨_, _, pair_eq _⟩
  obtain ⟨x4, s4, e4⟩ : ∃ x s, rI t s3 = (x, s) := ⟨_, _, pair_eq _⟩
  obtain ⟨x5, s5, e5⟩ : ∃ x s, rI t s4 = (x, s) := ⟨_, _, pair_eq _⟩
  obtain ⟨x6, s6, e6⟩ : ∃ x s, rI t s5 = (x, s) := ⟨_, _, pair_eq _⟩
  obtain ⟨x7, s7, e7⟩ : ∃ x s, rI t s6 = (x, s) := ⟨_, _, pair_eq _⟩
  obtain ⟨x8, s8, e8⟩ : ∃ x s, rI t s7 = (x, s) := ⟨_, _, pair_eq _⟩
  obtain ⟨x9, s9, e9⟩ : ∃ x s, rI t s8 = (x, s) := ⟨_, _, pair_eq _⟩
  obtain ⟨x10, s10, e10⟩ : ∃ x s, rU t s9 = (x, s) := ⟨_, _, pair_eq _⟩
  obtain ⟨x11, s11, e11⟩ : ∃ x s, rF t s10 = (x, s) := ⟨_, _, pair_eq _⟩
  obtain ⟨ms, s12, e12⟩ : ∃ x s, rL t s11 = (x, s) := ⟨_, _, pair_eq _⟩
  obtain ⟨xb, s13, e13⟩ : ∃ x s, rB t s12 = (x, s) := ⟨_, _, pair_eq _⟩
  obtain ⟨EB, lb, s14, e14⟩ : ∃ E x s, rAll t (rBa t) s13 = (E, x, s) := ⟨_, _, _, rfl⟩
  obtain ⟨EA, la, s15, e15⟩ : ∃ E x s, rAll t (rAb t) s14 = (E, x, s) := ⟨_, _, _, rfl⟩
  refine ⟨_, _, by rw [hP, if_neg h1, if_neg h2, if_neg h3, if_neg h4]; unfold pOthers; simp only [pAbs, pBas, pOwn, pLst, nI, e1, e2, e3, e4, e5, e6, e7, e8, e9, e10, e11, e12, e13, e14, e15], fun hE m hm => ?_, fun W b a cap h => rmsg_others HEAD h ⟨by omega, hk.2⟩ d1 d2 d3 d4 d5 e1 e2 e3 e4 e5 e6 e7 e8 e9 e10 e11 e12 e13 e14 e15⟩
  obtain ⟨q1, q2⟩ := oneE_zero hE
  have bk := back_others hy d1 d2 d3 d4 d5 ⟨by omega, hk.2⟩ e1 e2 e3 e4 e5 e6 e7 e8 e9 e10 e11 e12 e13 e14 e15 q1 q2 hm
  exact ⟨bk, fun W hi => cn_others ⟨by omega, hk.2⟩ hm hi bk.1⟩
/-- What Decode of a message's bytes answers. -/
def DcK (w : World) (T : List Nat) (e : Ending) (w' : World) : Prop := ∃ x : Mg, e = .returned (.tuple #[.agg (mgL x).toArray, .int .i64 0]) ∧ Below w.heap.size w w' ∧ MgIn w' x ∧ finE x = 0 ∧ finL x = T ∧ Cn x
theorem decode_back (HEAD : HdAll) {w0 w : World} {m : Mg} (hm : MgIn w0 m) (h : finE m = 0) {a : Option Addr} {cap : Nat} (ht : LAt w a (finL m)) (hn : a = none → cap = 0) :
    Calls Try.prog 13 #[.slice a (finL m).length cap] w fun e w' => DcK w (finL m) e w' := by
  obtain ⟨E, D, hp, h1, h2⟩ := rmsg_cn HEAD ht.bytes
  have hl := (fin_len hm h).2
  have hE : E = 0 := by
    have z := (pE_fin hm h []).2 rfl
    rw [List.append_nil, hp] at z
    exact z
  refine (wdec_any (Q := fun L W => ∃ m : Mg, L = mgL m ∧ D m ∧ MgIn W m) ht hn (by omega) (fun W b a' cap' h => (h2 W b a' cap' h).mono ?_)).mono ?_
  · rintro e w' ⟨tc, g, _⟩
    obtain ⟨m, he, hd, hk⟩ := g hE
    exact ⟨mgL m, he, rfl, mg_one m, hk.imp (fun W hW => ⟨m, rfl, hd, hW⟩), ⟨rfl, mg_one m⟩, tc⟩
  · rintro e w' ⟨L, ⟨x, rfl, hd, hx⟩, _, he, hb⟩
    obtain ⟨⟨f1, f2⟩, f3⟩ := h1 hE x hd
    exact ⟨x, he, hb, hx, f1, f2, f3 _ hx⟩
end Go.Proofs.Ytblmondkdcpkaaa
