/-
  SameTx of two that tell one; two states side by side. Conditions: as each says.
-/
import Derived.Test.YtijfjhafjblefaaNm15
import Derived.Test.YtijfjhafjblefaaSi15
namespace Go.Proofs.Ytijfjhafjblefaa
open Go.RowKit Go.Maps
set_option linter.unusedVariables false

set_option maxRecDepth 100000 in
set_option maxHeartbeats 4000000 in
theorem sametx_any {w : World} {p q : Td} {x : Tx} (hp : TFit w p x) (hq : TFit w q x) : Calls Try.prog 26 #[tdV p, tdV q] w fun e w' => e = .returned (.bool true) ∧ Touch (fun _ => False) w w' := by
  obtain ⟨ia, ic, ie, iI, il, im, _, _⟩ := hp.row.iat
  obtain ⟨ja, jc, je, jI, jl, jm, _, _⟩ := hq.row.iat
  obtain ⟨st, ix, px, xe, pg, pn, pc, la, lp, cx⟩ := p
  obtain ⟨st2, ix2, px2, xe2, qg, qn, qc, la2, lp2, cx2⟩ := q
  have e1 : st2 = st := hq.st.trans hp.st.symm
  have e2 : ix2 = ix := hq.inc.trans hp.inc.symm
  have e3 : px2 = px := hq.pid.trans hp.pid.symm
  have e4 : xe2 = xe := hq.ep.trans hp.ep.symm
  have e5 : la2 = la := hq.la.trans hp.la.symm
  have e6 : lp2 = lp := hq.lp.trans hp.lp.symm
  have e7 : cx2 = cx := hq.co.trans hp.co.symm
  subst e1 e2 e3 e4 e5 e6 e7
  simp only [tdS] at ie je
  injection ie with ie1 ie2 ie3
  injection je with je1 je2 je3
  simp only [tdV, tdC, tdS]
  rw [ie1, ie2, je1, je2]
  have b1 : Below w.heap.size w ((w.alloc (.cells #[.int .i64 st2, .int .i64 ix2, .int .u64 px2, .int .i64 xe2, .slice ia x.ps.length pc, .int .i64 la2, .int .u64 lp2, .bool cx2] 57)).alloc (.cells #[.int .i64 st2, .int .i64 ix2, .int .u64 px2, .int .i64 xe2, .slice ja x.ps.length qc, .int .i64 la2, .int .u64 lp2, .bool cx2] 57)) := ((Below.refl _ _).alloc (Nat.le_refl _) _).alloc (by simp) _
  have KS := samei_any _ ia ja pc qc x.ps x.ps (iI.later b1) (jI.later b1) (Nat.le_trans il im) (Nat.le_trans jl jm)
  rw [decide_eq_true rfl] at KS
  have KSH := hide KS
  have B1 := hide b1
  clear KS b1 hp hq iI il im jI jl jm ie1 ie2 ie3 je1 je2 je3
  generalize x.ps.length = n at *
  go_enter Try.func26, Try.ntmps26
  go_wp2_with (go_at_call 48; refine (unhide KSH).mono ?_; rintro e w3 ⟨rfl, m, rfl⟩)
  go_returns
  refine ⟨rfl, ?_⟩
  have t := Touch.of_below (S := fun _ => False) (unhide B1)
  exact ⟨t.os, t.tape, t.output, t.size, fun k hk hs => t.block k hk hs⟩
/-- Two states; no block is both's, and none is in N. -/
def Two (W : World) (N : Nat → Prop) (sb xb : Nat) (K L : Int → Option Tx) (c : Nat) : Prop :=
  ∃ mv m R mv' m' R', TS W sb mv m K R ∧ TS W xb mv' m' L R' ∧ m.length ≤ c ∧ m'.length ≤ c ∧ (∀ k, R k → ¬ R' k) ∧ ∀ k, N k → ¬ R k ∧ ¬ R' k
section
variable {W W' : World} {N N' S : Nat → Prop} {sb xb c : Nat} {K L : Int → Option Tx}
theorem Two.swap (h : Two W N sb xb K L c) : Two W N xb sb L K c := by
  obtain ⟨mv, m, R, mv', m', R', h1, h2, h3, h4, h5, h6⟩ := h
  exact ⟨mv', m', R', mv, m, R, h2, h1, h4, h3, fun k hk hr => h5 k hr hk, fun k hk => (h6 k hk).symm⟩
theorem Two.keep (h : Two W N sb xb K L c) (t : Touch S W W') (hs : ∀ k, k < W.heap.size → S k → N k) : Two W' N sb xb K L c := by
  obtain ⟨mv, m, R, mv', m', R', h1, h2, h3, h4, h5, h6⟩ := h
  exact ⟨mv, m, R, mv', m', R', h1.keep t (fun k hk e => (h6 k (hs k (h1.inR k hk) e)).1 hk), h2.keep t (fun k hk e => (h6 k (hs k (h2.inR k hk) e)).2 hk), h3, h4, h5, h6⟩
theorem Two.later (h : Two W N sb xb K L c) (hb : Below W.heap.size W W') : Two W' N sb xb K L c := h.keep (Touch.of_below (S := fun _ => False) hb) (fun _ _ h => h.elim)
theorem Two.weak (h : Two W N sb xb K L c) (hn : ∀ k, N' k → N k) : Two W N' sb xb K L c := by
  obtain ⟨mv, m, R, mv', m', R', h1, h2, h3, h4, h5, h6⟩ := h
  exact ⟨mv, m, R, mv', m', R', h1, h2, h3, h4, h5, fun k hk => h6 k (hn k hk)⟩
theorem Two.add (h : Two W N sb xb K L c) : Two W (fun k => N k ∨ W.heap.size ≤ k) sb xb K L c := by
  obtain ⟨mv, m, R, mv', m', R', h1, h2, h3, h4, h5, h6⟩ := h
  exact ⟨mv, m, R, mv', m', R', h1, h2, h3, h4, h5, fun k hk => hk.elim (h6 k) (fun e => ⟨fun hr => by have := h1.inR k hr; omega, fun hr => by have := h2.inR k hr; omega⟩)⟩
theorem Two.more {c' : Nat} (h : Two W N sb xb K L c) (hc : c ≤ c') : Two W N sb xb K L c' := by
  obtain ⟨mv, m, R, mv', m', R', h1, h2, h3, h4, h5, h6⟩ := h
  exact ⟨mv, m, R, mv', m', R', h1, h2, by omega, by omega, h5, h6⟩
theorem two_new (w : World) : Two ((w.alloc (.cells #[.map none] 91)).alloc (.cells #[.map none] 91)) (fun k => k < w.heap.size) w.heap.size (w.heap.size + 1) (fun _ => none) (fun _ => none) 0 := by
  have h1 := (ts_new w).later ((Below.refl _ _).alloc (Nat.le_refl _) (.cells #[.map none] 91))
  have h2 := ts_new (w.alloc (.cells #[.map none] 91))
  have e : (w.alloc (.cells #[.map none] 91)).heap.size = w.heap.size + 1 := by simp
  rw [e] at h2
  exact ⟨_, _, _, _, _, _, h1, h2, Nat.le_refl _, Nat.le_refl _, fun k hk e => by omega, fun k hk => ⟨fun e => by omega, fun e => by omega⟩⟩
theorem Two.left (h : Two W N sb xb K L c) : TW W N sb K c := by
  obtain ⟨mv, m, R, mv', m', R', h1, h2, h3, h4, h5, h6⟩ := h
  exact ⟨mv, m, R, h1, h3, fun k hk => (h6 k hk).1⟩
/-- Apply to the first one. -/
theorem Two.apply {r : Re} {a : Option Addr} {cp : Nat} (h : Two W N sb xb K L c) (hN : ∀ k, N k → k < W.heap.size) (hr : IAt W a r.ps) (hc : a = none → cp = 0) (hn : I64 r.tx) (hl : (getT K r.tx).ps.length + r.ps.length ≤ 17592186044416) (hm : c < 4611686018427387904) :
    Calls Try.prog 18 #[.pointer (some ⟨sb, 0, none⟩), .agg (reC r a cp)] W fun e w' => e = .returned (.tuple #[]) ∧ Two w' N sb xb (putT K r.tx (apT r (getT K r.tx))) L (c + 1) ∧ Touch (fun k => ¬ N k) W w' := by
  obtain ⟨mv, m, R, mv', m', R', h1, h2, h3, h4, h5, h6⟩ := h
  refine (apply_any h1 hr hc hn hl (by omega)).mono ?_
  rintro e w' ⟨rfl, mv2, m2, e1, e2, e3⟩
  refine ⟨rfl, ⟨mv2, m2, _, mv', m', R', e1, h2.keep e3 (fun k hk hr => h5 k hr hk), by omega, by omega, fun k hk hr => hk.elim (fun e => h5 k e hr) (fun e => by have := h2.inR k hr; omega), fun k hk => ⟨fun hr => hr.elim (h6 k hk).1 (fun e => by have := hN k hk; omega), (h6 k hk).2⟩⟩, e3.mono (fun k hk hn => (h6 k hn).1 hk)⟩
end
theorem rise_ext : ∀ {l r : List Int}, l.Pairwise (· < ·) → r.Pairwise (· < ·) → (∀ x, x ∈ l ↔ x ∈ r) → l = r
  | [], [], _, _, _ => rfl
  | [], y :: r, _, _, h => by have := (h y).2 (by simp); cases this
  | x :: l, [], _, _, h => by have := (h x).1 (by simp); cases this
  | x :: l, y :: r, hl, hr, h => by
    obtain ⟨l1, l2⟩ := List.pairwise_cons.1 hl
    obtain ⟨r1, r2⟩ := List.pairwise_cons.1 hr
    have e : x = y := by
      rcases List.mem_cons.1 ((h x).1 (by simp)) with e | e
      · exact e
      · rcases List.mem_cons.1 ((h y).2 (by simp)) with e' | e'
        · exact e'.symm
        · have := r1 x e; have := l1 y e'; omega
    subst e
    have := rise_ext l2 r2 (fun z => by
      constructor
      · intro hz
        rcases List.mem_cons.1 ((h z).1 (by simp [hz])) with e | e
        · have := l1 z hz; omega
        · exact e
      · intro hz
        rcases List.mem_cons.1 ((h z).2 (by simp [hz])) with e | e
        · have := r1 z hz; omega
        · exact e)
    rw [this]
end Go.Proofs.Ytijfjhafjblefaa
