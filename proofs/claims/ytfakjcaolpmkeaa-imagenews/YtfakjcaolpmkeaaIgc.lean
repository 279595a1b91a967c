/-
  CJoin and CBlock by Apply, in plain words. Conditions: as each says.
-/
import Derived.Test.YtfakjcaolpmkeaaIgb
namespace Go.Proofs.Ytfakjcaolpmkeaa
open Go.RowKit Go.Maps
set_option linter.unusedVariables false

/-- What Apply leaves. -/
def Does (w : World) (mb : Nat) (m : Im) (E : Int) (g : Img) (v : Value) (w' : World) : Prop := v = .int .i64 E ∧ ∃ m', ImTo w mb m w' m' ∧ m'.abs = g
section
variable {w w' : World} {mb : Nat} {m : Im}
theorem block_full (h : ImAt w mb m) (hn : 991 < m.nx) {x : Int} : Calls Try.prog 23 #[.pointer (some ⟨mb, 0, none⟩), .int .i64 x] w fun e w' => e = .returned (.int .i64 17) ∧ ImTo w mb m w' m := by
  obtain ⟨_, _, c2, _⟩ := h.c
  have K := block_any m.pb m.nx 1001 10 w h.ctr (by omega)
  have e1 : blk m.nx 1001 10 = (m.nx, 0, false) := by unfold blk; rw [if_neg (by omega)]
  rw [e1] at K
  have HK := hide K
  have H := hide h
  clear h K e1
  go_enter Try.func23, Try.ntmps23
  go_wp2_with (go_at_call 43; refine (unhide HK).mono ?_; rintro e w1 ⟨rfl, q1, q2⟩; have Q1 := hide q1; have Q2 := hide q2; clear q1 q2)
  go_returns
  refine ⟨rfl, ?_⟩
  have := (unhide H).updX m.nx (unhide Q2) (unhide Q1)
  exact ⟨this, (unhide Q2).mono (fun k hk => .inr (.inl hk)), fun k hk => .inl hk⟩
set_option maxHeartbeats 2000000 in
theorem block_gives (h : ImAt w mb m) (hn : m.nx ≤ 991) {x : Nat} (hx : x < m.ns.length) : Calls Try.prog 23 #[.pointer (some ⟨mb, 0, none⟩), .int .i64 x] w fun e w' => e = .returned (.int .i64 0) ∧ ImTo w mb m w' ⟨m.nv, m.pv, m.pb, m.ns.set x ⟨(m.ns[x]).th, (m.ns[x]).tm, m.nx⟩, m.ps, m.nx + 10, m.ct⟩ := by
  obtain ⟨_, _, c2, _⟩ := h.c
  have K := block_any m.pb m.nx 1001 10 w h.ctr (by omega)
  have e1 : blk m.nx 1001 10 = (m.nx + 10, m.nx, true) := by unfold blk; rw [if_pos (by omega)]
  rw [e1] at K
  have HK := hide K
  have H := hide h
  obtain ⟨g, cap, e, _, h2, _⟩ := h.nc hx
  have hbig : m.ns.length ≤ 9223372036854775807 := by unfold maxLen at h2; omega
  have hxz : (x : Int) < (m.ns.length : Int) := by omega
  have S : Hid (∀ W, CtrAt W m.pb (m.nx + 10) 1001 → Touch (· = m.pb) w W → W.cell? ⟨mb, 0, none⟩ = some (.slice (some ⟨g, 0, none⟩) m.ns.length cap) ∧ W.cell? ⟨g, x * 3 + 2, none⟩ = some (.int .u64 (m.ns[x]).bk) ∧ W.frozen? ⟨g, x * 3 + 2, none⟩ = false ∧ Hid (ImTo w mb m (W.setCell ⟨g, x * 3 + 2, none⟩ (.int .u64 m.nx)) ⟨m.nv, m.pv, m.pb, m.ns.set x ⟨(m.ns[x]).th, (m.ns[x]).tm, m.nx⟩, m.ps, m.nx + 10, m.ct⟩)) := hide (fun W hW t => by
    have i1 : ImTo w mb m W ⟨m.nv, m.pv, m.pb, m.ns, m.ps, m.nx + 10, m.ct⟩ := ⟨h.updX _ t hW, t.mono (fun k hk => .inr (.inl hk)), fun k hk => .inl hk⟩
    obtain ⟨g', cap', e', _, _, h3, h4⟩ := i1.at_.nc (i := x) hx
    have e2 : m.nv = .slice (some ⟨g', 0, none⟩) m.ns.length cap' := e'
    rw [e] at e2
    cases e2
    have NB : m.nv.ownBlock = some g := by rw [e]; rfl
    have d2 := h3 2 (by omega)
    refine ⟨by rw [← e]; exact i1.at_.c.1, d2, h4 _, hide (i1.trans ?_)⟩
    have hw := i1.at_.nds
    have hw1 : Wide W 76 3 (.slice (some ⟨g, 0, none⟩) m.ns.length cap) m.ns.length (m.ns.flatMap ndC) := by rw [← e]; exact hw
    have hw2 := hw1.set (x * 3 + 2) (.int .u64 m.nx)
    rw [flat_set ndC ndC_len m.ns x 2 (.int .u64 m.nx) ⟨(m.ns[x]).th, (m.ns[x]).tm, m.nx⟩ hx (by omega) rfl] at hw2
    have tt := touch_set W g (x * 3 + 2) (.int .u64 m.nx)
    have A := i1.at_.updN (m.ns.set x ⟨(m.ns[x]).th, (m.ns[x]).tm, m.nx⟩) (by simp) tt (fun k hk => by rw [hk]; exact NB) (by rw [← e] at hw2; exact hw2)
    exact ⟨A, tt.mono (fun k hk => .inr (.inr (.inl (by rw [hk]; exact NB)))), fun k hk => .inl hk⟩)
  clear h K e1 e
  generalize m.ns[x].bk = ob at *
  go_enter Try.func23, Try.ntmps23
  go_wp2_with (go_at_call 43; refine (unhide HK).mono ?_; rintro e w1 ⟨rfl, q1, q2⟩; obtain ⟨s1, s2, s3, S4⟩ := unhide S w1 q1 q2; clear q1 q2)
  go_returns
  exact ⟨rfl, unhide S4⟩
theorem fits_in {n p : Nat} {c : Cm} (h : fitsB n p c = true) (h4 : c.kd ≠ 4) : isN n c.nd = true := by
  unfold fitsB at h
  rw [if_neg h4] at h
  by_cases h3 : c.kd = 3
  · rw [if_pos h3] at h
    simp only [Bool.and_eq_true] at h
    exact h.2.1.1
  · rw [if_neg h3] at h
    simp only [Bool.and_eq_true] at h
    exact h.2
theorem isN_nat {n : Nat} {x : Int} (h : isN n x = true) : ∃ k : Nat, x = (k : Int) ∧ k < n := by
  simp only [isN, Bool.and_eq_true, decide_eq_true_eq] at h
  exact ⟨x.toNat, by omega, by omega⟩
def Far (m : Im) (mb : Nat) (c : Cm) : Prop := 0 < c.l.length → ∀ x, c.a = some x → ¬ m.R mb x.block
theorem does_block {c : Cm} (h : ImAt w mb m) (hc : CIn w c) (hap : Far m mb c) (h0 : 0 ≤ m.ct) (h1 : m.ct ≤ 4611686018427387904) (hf : fitsB m.ns.length m.ps.length c = true) (hk : c.kd = 5) {x : Nat} (hx : c.nd = (x : Int)) (hxl : x < m.ns.length) :
    Calls Try.prog 10 #[.pointer (some ⟨mb, 0, none⟩), .agg (cmA c)] w fun e w' => ∃ v, e = .returned v ∧
      ((m.nx ≤ 991 → Does w mb m 0 ⟨m.ns.set x ⟨(m.ns[x]).th, (m.ns[x]).tm, m.nx⟩, m.ps.map Pm.q, m.nx + 10, m.ct + 1⟩ v w') ∧ (991 < m.nx → Does w mb m 17 ⟨m.ns, m.ps.map Pm.q, m.nx, m.ct + 1⟩ v w')) := by
  refine apply_k5 (P := fun v w' => (m.nx ≤ 991 → Does w mb m 0 ⟨m.ns.set x ⟨(m.ns[x]).th, (m.ns[x]).tm, m.nx⟩, m.ps.map Pm.q, m.nx + 10, m.ct + 1⟩ v w') ∧ (991 < m.nx → Does w mb m 17 ⟨m.ns, m.ps.map Pm.q, m.nx, m.ct + 1⟩ v w')) h hc hap h0 h1 hf hk (fun W R => ?_)
  rw [hx]
  by_cases hn : m.nx ≤ 991
  · refine (block_gives R.to_.at_ (x := x) hn hxl).mono ?_
    rintro e w2 ⟨rfl, t2⟩
    exact ⟨_, rfl, fun _ => ⟨rfl, _, R.to_.trans t2, rfl⟩, fun h => by omega⟩
  · refine (block_full R.to_.at_ (x := (x : Int)) (by show 991 < m.nx; omega)).mono ?_
    rintro e w2 ⟨rfl, t2⟩
    exact ⟨_, rfl, fun h => by omega, fun _ => ⟨rfl, _, R.to_.trans t2, rfl⟩⟩
theorem does_join {c : Cm} (h : ImAt w mb m) (hc : CIn w c) (hap : Far m mb c) (h0 : 0 ≤ m.ct) (h1 : m.ct ≤ 4611686018427387904) (hf : fitsB m.ns.length m.ps.length c = true) (hk : c.kd = 1) {x : Nat} (hx : c.nd = (x : Int)) (hxl : x < m.ns.length) (ok : ∀ p ∈ m.ps, POk m.ns.length p.q) :
    Calls Try.prog 10 #[.pointer (some ⟨mb, 0, none⟩), .agg (cmA c)] w fun e w' => ∃ v, e = .returned v ∧
      (((m.ns[x]).tm < c.ep → Does w mb m 0 ⟨m.ns.set x ⟨true, c.ep, (m.ns[x]).bk⟩, (m.ps.map Pm.q).map (joinQ (m.ns.set x ⟨true, c.ep, (m.ns[x]).bk⟩) x), m.nx, m.ct + 1⟩ v w') ∧ (c.ep ≤ (m.ns[x]).tm → Does w mb m 5 ⟨m.ns, m.ps.map Pm.q, m.nx, m.ct + 1⟩ v w')) := by
  refine apply_k1 (P := fun v w' => ((m.ns[x]).tm < c.ep → Does w mb m 0 ⟨m.ns.set x ⟨true, c.ep, (m.ns[x]).bk⟩, (m.ps.map Pm.q).map (joinQ (m.ns.set x ⟨true, c.ep, (m.ns[x]).bk⟩) x), m.nx, m.ct + 1⟩ v w') ∧ (c.ep ≤ (m.ns[x]).tm → Does w mb m 5 ⟨m.ns, m.ps.map Pm.q, m.nx, m.ct + 1⟩ v w')) h hc hap h0 h1 hf hk (fun W R => ?_)
  rw [hx]
  by_cases hn : (m.ns[x]).tm < c.ep
  · refine (join_any R.to_.at_ (x := x) hxl hn ok _ rfl).mono ?_
    rintro e w2 ⟨rfl, t2⟩
    refine ⟨_, rfl, fun _ => ⟨rfl, _, R.to_.trans t2, ?_⟩, fun h => by omega⟩
    unfold Im.abs
    simp only [List.map_map]
    rfl
  · refine (join_old R.to_.at_ (x := x) hxl (t := c.ep) (by show c.ep ≤ (m.ns[x]).tm; omega)).mono ?_
    rintro e w2 ⟨rfl, rfl⟩
    exact ⟨_, rfl, fun h => by omega, fun _ => ⟨rfl, _, R.to_, rfl⟩⟩
end
end Go.Proofs.Ytfakjcaolpmkeaa
