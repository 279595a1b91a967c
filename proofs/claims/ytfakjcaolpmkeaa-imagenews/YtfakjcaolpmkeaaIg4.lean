/-
  elect: a partition gets a new epoch, and the first one in sync that is there as its leader. Conditions: all in sync are nodes; the epoch is below 2^62.
-/
import Derived.Test.YtfakjcaolpmkeaaIg3
namespace Go.Proofs.Ytfakjcaolpmkeaa
open Go.RowKit Go.Maps
set_option linter.unusedVariables false

def Im.put (m : Im) (i : Nat) (p : Pm) : Im := ⟨m.nv, m.pv, m.pb, m.ns, m.ps.set i p, m.nx, m.ct⟩
theorem Im.put_put (m : Im) (i : Nat) (p p' : Pm) : (m.put i p).put i p' = m.put i p' := by simp [Im.put]
theorem Im.put_len (m : Im) (i : Nat) (p : Pm) : (m.put i p).ps.length = m.ps.length := by simp [Im.put]
theorem Im.put_at (m : Im) (i : Nat) (p : Pm) (h : i < (m.put i p).ps.length) : (m.put i p).ps[i] = p := by simp [Im.put]
theorem Im.R_put {m : Im} {mb i k : Nat} (hi : i < m.ps.length) {p : Pm} (h : (m.put i p).R mb k) : m.R mb k ∨ p.B k := by
  rcases h with h | h | h | h | ⟨j, hj, hB⟩
  · exact .inl (.inl h)
  · exact .inl (.inr (.inl h))
  · exact .inl (.inr (.inr (.inl h)))
  · exact .inl (.inr (.inr (.inr (.inl h))))
  · have hj' : j < m.ps.length := by simpa [Im.put] using hj
    have hB : ((m.ps.set i p)[j]'(by simpa using hj')).B k := hB
    by_cases e : i = j
    · subst e; exact .inr (by simpa using hB)
    · rw [List.getElem_set_ne e] at hB
      exact .inl (.inr (.inr (.inr (.inr ⟨j, hj', hB⟩))))
section
variable {w w' : World} {mb : Nat} {m : Im}
/-- A partition is changed: what a call leaves. -/
theorem ImAt.toPut (h : ImAt w mb m) {i : Nat} (hi : i < m.ps.length) (p' : Pm) {S : Nat → Prop} (t : Touch S w w') (hS : ∀ k, S k → m.pv.ownBlock = some k ∨ (m.ps[i]).B k)
    (hw : Wide w' 42 6 m.pv m.ps.length ((m.ps.set i p').flatMap pmC)) (hp : PIn w' p') (mv : ∀ k, p'.B k → (m.ps[i]).B k ∨ w.heap.size ≤ k) : ImTo w mb m w' (m.put i p') :=
  ⟨h.upd hi p' t hS hw hp mv, t.mono (fun k hk => by
    rcases hS k hk with e | e
    · exact .inr (.inr (.inr (.inl e)))
    · exact .inr (.inr (.inr (.inr ⟨i, hi, e⟩)))), fun k hk => by
    rcases Im.R_put hi hk with e | e
    · exact .inl e
    · rcases mv k e with e | e
      · exact .inl (.inr (.inr (.inr (.inr ⟨i, hi, e⟩))))
      · exact .inr e⟩
theorem ImAt.wide (h : ImAt w mb m) {i g cap : Nat} (hi : i < m.ps.length) (hg : m.pv = .slice (some ⟨g, 0, none⟩) m.ps.length cap) {f o : Nat} (hf : f < 6) (ho : o = i * 6 + f) (u : Value) {p' : Pm} (hx : (pmC m.ps[i]).set f u = pmC p') :
    Wide (w.setCell ⟨g, o, none⟩ u) 42 6 m.pv m.ps.length ((m.ps.set i p').flatMap pmC) := by
  have h1 := h.pts
  rw [hg] at h1 ⊢
  rw [← flat_set pmC pmC_len m.ps i f u p' hi hf hx, ← ho]
  exact h1.set o u
/-- A number of a partition is stored. -/
theorem ImAt.st (h : ImAt w mb m) {i g cap : Nat} (hi : i < m.ps.length) (hg : m.pv = .slice (some ⟨g, 0, none⟩) m.ps.length cap) {f o : Nat} (hf : f < 6) (ho : o = i * 6 + f) (u : Value) {p' : Pm} (hx : (pmC m.ps[i]).set f u = pmC p')
    (hs : p'.vi = (m.ps[i]).vi ∧ p'.vr = (m.ps[i]).vr ∧ p'.vt = (m.ps[i]).vt ∧ p'.q.is = (m.ps[i]).q.is ∧ p'.q.rs = (m.ps[i]).q.rs ∧ p'.q.ts = (m.ps[i]).q.ts) : ImTo w mb m (w.setCell ⟨g, o, none⟩ u) (m.put i p') := by
  have hb : m.pv.ownBlock = some g := by rw [hg]; rfl
  have t := touch_set w g o u
  obtain ⟨h1, h2, h3, h4, h5, h6⟩ := hs
  have hB : ∀ k, p'.B k → (m.ps[i]).B k := fun k hk => by unfold Pm.B at hk ⊢; rwa [h1, h2, h3] at hk
  refine h.toPut hi p' t (fun k hk => .inl (by rw [hb, hk])) (h.wide hi hg hf ho u hx) ?_ (fun k hk => .inl (hB k hk))
  have hp := (h.each i hi).keep t (fun k hk e => (h.pi hb).2.2.2 i hi (by rw [← e]; exact hk))
  exact ⟨by rw [h1, h4]; exact hp.li, by rw [h2, h5]; exact hp.lr, by rw [h3, h6]; exact hp.lt, by rw [h1, h2]; exact hp.ir, by rw [h1, h3]; exact hp.it, by rw [h2, h3]; exact hp.rt⟩
/-- Who leads: the first of a list that is there. -/
def elec (ns : List Nd) (l : List Int) : Int := if idxI (thr ns) l = -1 then -1 else l.getD (idxI (thr ns) l).toNat 0
def electQ (ns : List Nd) (q : Pt) : Pt := ⟨elec ns q.is, q.ep + 1, q.ve, q.is, q.rs, q.ts⟩
theorem idxI_lt (p : Int → Bool) (l : List Int) (h : 0 ≤ idxI p l) : idxI p l < (l.length : Int) := by
  induction l with
  | nil => simp [idxI] at h
  | cons x r ih =>
    cases hx : p x with
    | true => simp [idxI, hx]
    | false =>
      simp only [idxI, hx, Bool.false_eq_true, if_false] at h ⊢
      by_cases e : idxI p r = -1
      · rw [if_pos e] at h; omega
      · rw [if_neg e] at h ⊢
        have := ih (by omega)
        rw [List.length_cons]; omega
theorem Im.set_same (m : Im) {i : Nat} (hi : i < m.ps.length) : m.put i m.ps[i] = m := by simp [Im.put]
set_option maxHeartbeats 2000000 in
theorem elect_any (h : ImAt w mb m) {i g cap : Nat} (hi : i < m.ps.length) (hg : m.pv = .slice (some ⟨g, 0, none⟩) m.ps.length cap) {q : Pt} {vi vr vt : Value} (hp : m.ps[i] = ⟨q, vi, vr, vt⟩) (hin : inN m.ns.length q.is) (h0 : 0 ≤ q.ep) (hep : q.ep ≤ 4611686018427387904) :
    Calls Try.prog 35 #[.pointer (some ⟨mb, 0, none⟩), .pointer (some ⟨g, i * 6, none⟩)] w fun e w' => e = .returned (.tuple #[]) ∧ ImTo w mb m w' (m.put i ⟨electQ m.ns q, vi, vr, vt⟩) := by
  obtain ⟨ld, ep, ve, is, rs, ts⟩ := q
  simp only at h0 hep hin
  obtain ⟨g', cap', e', _, _, hc, hf⟩ := h.pc hi
  rw [hg] at e'
  cases e'
  have c0 := hc 0 (by omega)
  have c1 := hc 1 (by omega)
  have f0 := hf (i * 6)
  have f1 := hf (i * 6 + 1)
  rw [hp] at c0 c1
  simp only [pmC, List.getElem?_cons_succ, List.getElem?_cons_zero, Nat.add_zero] at c0 c1
  have w1 : wrap64 (ep + 1) = ep + 1 := wrap64_low (by omega) (by omega)
  have w2 : IntKind.i64.wrap (ep + 1) = ep + 1 := wrap_low (by omega) (by omega)
  -- the two stores
  have S1 := h.st (p' := ⟨⟨ld, ep + 1, ve, is, rs, ts⟩, vi, vr, vt⟩) hi hg (f := 1) (by omega) rfl (.int .i64 (ep + 1)) (by rw [hp]; rfl) (by rw [hp]; exact ⟨rfl, rfl, rfl, rfl, rfl, rfl⟩)
  have S2 := S1.at_.st (p' := ⟨⟨-1, ep + 1, ve, is, rs, ts⟩, vi, vr, vt⟩) (i := i) (g := g) (cap := cap) (by rw [Im.put_len]; exact hi) (by rw [Im.put_len]; exact hg) (f := 0) (o := i * 6) (by omega) rfl (.int .i64 (-1)) (by rw [Im.put_at]; rfl) (by rw [Im.put_at]; exact ⟨rfl, rfl, rfl, rfl, rfl, rfl⟩)
  rw [Im.put_put] at S2
  have S3 := hide (S1.trans S2)
  clear S1 S2 hc
  have HG := hide hg
  have HI := hide hi
  have HIN := hide hin
  clear hi hin hg hp
  go_enter Try.func35, Try.ntmps35
  go_upto_region 2 with fail
  generalize (w.setCell ⟨g, i * 6 + 1, none⟩ (.int .i64 (ep + 1))).setCell ⟨g, i * 6, none⟩ (.int .i64 (-1)) = W at *
  clear c0 c1 f0 f1 hf w1 w2 h
  obtain ⟨pn, PN⟩ : ∃ pn : Pm, Hid (pn = ⟨⟨-1, ep + 1, ve, is, rs, ts⟩, vi, vr, vt⟩) := ⟨_, hide rfl⟩
  rw [← unhide PN] at S3
  have hi2 : i < (m.put i pn).ps.length := by rw [Im.put_len]; exact unhide HI
  obtain ⟨g', cap', e', _, _, hc, hf⟩ := (unhide S3).at_.pc hi2
  have e2 : m.pv = .slice (some ⟨g', 0, none⟩) (m.put i pn).ps.length cap' := e'
  rw [unhide HG] at e2
  have eg : g = g' := by injection e2 with e2; injection e2 with e2; injection e2
  subst eg
  have c3 := hc 3 (by omega)
  have c0 := hc 0 (by omega)
  have f0 := hf (i * 6)
  have hpi := (unhide S3).at_.each i hi2
  rw [Im.put_at, unhide PN] at c3 c0 hpi
  simp only [pmC, List.getElem?_cons_succ, List.getElem?_cons_zero, Nat.add_zero] at c3 c0
  obtain ⟨a, cp, ev, hia, _, hcm, _⟩ := hpi.li.iat
  simp only at ev hia
  have hll := hpi.li.len
  simp only at hll
  rw [ev] at c3
  have K := hide (indexF_any (c := cp) eg_there hia hll (tells_there (unhide S3).at_ (unhide HIN)))
  have HB := hide hia
  have HL := hide hll
  have E1 := (idxI_any (thr m.ns) is).2
  have E2 := idxI_lt (thr m.ns) is
  have EQ : Hid (elec m.ns is = if idxI (thr m.ns) is = -1 then -1 else is.getD (idxI (thr m.ns) is).toNat 0) := rfl
  have EV := hide ev
  have ens : (m.put i pn).ns = m.ns := rfl
  rw [ens] at K
  clear hc hf hpi hia hll e2 e' hcm ev ens
  generalize idxI (thr m.ns) is = r at *
  generalize hn : is.length = n at *
  have HN := hide hn
  clear hn
  have hnb : n ≤ 9223372036854775807 := by have := unhide HL; unfold maxLen at this; omega
  rcases E1 with hr | hr
  · subst hr
    go_wp2_with (go_at_call 57; refine (unhide K).mono ?_; rintro e w' ⟨rfl, t2⟩; have T2 := hide t2; clear t2)
    go_returns
    refine ⟨rfl, ?_⟩
    have e2 : pn = ⟨electQ m.ns ⟨ld, ep, ve, is, rs, ts⟩, vi, vr, vt⟩ := by rw [unhide PN]; unfold electQ; simp only; rw [unhide EQ]; rfl
    rw [← e2]
    exact (unhide S3).quiet (unhide T2)
  · obtain ⟨k, rfl⟩ := Int.eq_ofNat_of_zero_le hr
    have hkn : (k : Int) < (n : Int) := E2 hr
    clear E2
    have KW := fun (w' : World) (t : Touch (fun _ => False) W w') => hide ((unhide S3).quiet t)
    obtain ⟨b, off, ea, hbs, hcell⟩ := unhide HB k (by rw [unhide HN]; omega)
    have ex : Hid (is.getD k 0 = elec m.ns is) := hide (by rw [unhide EQ, if_neg (by omega), Int.toNat_natCast])
    rw [unhide ex] at hcell
    subst ea
    have bl := lt_of_cell c3
    have keepc : ∀ (w' : World), Touch (fun _ => False) W w' → w'.cell? ⟨g, i * 6 + 3, none⟩ = some (.slice (some ⟨b, off, none⟩) n cp) ∧ w'.cell? ⟨g, i * 6, none⟩ = some (.int .i64 (-1)) ∧ w'.frozen? ⟨g, i * 6, none⟩ = false ∧ w'.cell? ⟨b, off + k, none⟩ = some (.int .i64 (elec m.ns is)) := fun w' t => by
      have e1 := t.block g bl (fun h => h)
      have e2 := t.block b hbs (fun h => h)
      refine ⟨(World.cell?_of_block (a := ⟨g, i * 6 + 3, none⟩) e1).trans c3, (World.cell?_of_block (a := ⟨g, i * 6, none⟩) e1).trans c0, ?_, (World.cell?_of_block (a := ⟨b, off + k, none⟩) e2).trans hcell⟩
      rw [← f0]; unfold World.frozen?; rw [e1]
    have KC := hide keepc
    clear keepc hcell c0 f0 bl hbs
    obtain ⟨y, YE⟩ : ∃ y, Hid (elec m.ns is = y) := ⟨_, hide rfl⟩
    rw [unhide YE] at KC
    go_wp2_with (go_at_call 57; refine (unhide K).mono ?_; rintro e w' ⟨rfl, t2⟩; obtain ⟨d3, d0, df, dc⟩ := unhide KC w' t2; have S4 := KW w' t2; have T2 := hide t2; clear t2)
    go_returns
    refine ⟨rfl, ?_⟩
    have st := (unhide S4).at_.st (p' := ⟨⟨y, ep + 1, ve, is, rs, ts⟩, vi, vr, vt⟩) (i := i) (g := g) (cap := cap) hi2 (by rw [Im.put_len]; exact unhide HG) (f := 0) (o := i * 6) (by omega) rfl (.int .i64 y) (by rw [Im.put_at, unhide PN]; rfl) (by rw [Im.put_at, unhide PN]; exact ⟨rfl, rfl, rfl, rfl, rfl, rfl⟩)
    rw [Im.put_put] at st
    have e2 : electQ m.ns ⟨ld, ep, ve, is, rs, ts⟩ = ⟨y, ep + 1, ve, is, rs, ts⟩ := by unfold electQ; simp only; rw [unhide YE]
    rw [e2]
    exact (unhide S4).trans st
end
end Go.Proofs.Ytfakjcaolpmkeaa
