/-
  move: a partition shall stand on other nodes. Conditions: as endMove's.
-/
import Derived.Test.YthaedepnglincaaIge
namespace Go.Proofs.Ythaedepnglincaa
open Go.RowKit Go.Maps
set_option linter.unusedVariables false

section
variable {w w' : World} {mb : Nat} {m : Im}
/-- A list of a partition is another one from now on: a new row. -/
theorem ImAt.laid {W : World} (h : ImAt w mb m) {i pg cap f : Nat} (hi : i < m.ps.length) (hg : m.pv = .slice (some ⟨pg, 0, none⟩) m.ps.length cap) {v : Value} {l : List Int} (p' : Pm) (hf : f < 6) (hx : (pmC m.ps[i]).set f v = pmC p') (hb : Below w.heap.size w W) (hl : IL W v l) (hn : New w v)
    (hp : ∀ Z, PIn Z m.ps[i] → IL Z v l → PIn Z p') (hB : ∀ k, p'.B k → (m.ps[i]).B k ∨ v.ownBlock = some k) : ImTo w mb m (W.setCell ⟨pg, i * 6 + f, none⟩ v) (m.put i p') := by
  have hbk : m.pv.ownBlock = some pg := by rw [hg]; rfl
  have t1 := touch_set W pg (i * 6 + f) v
  have T : Touch (· = pg) w (W.setCell ⟨pg, i * 6 + f, none⟩ v) := (Touch.of_below hb).trans t1
  have hw := (h.later hb).wide hi hg hf rfl v hx
  have hpl := h.lt (k := pg) (.inr (.inr (.inr (.inl hbk))))
  refine h.toPut hi p' T (fun k hk => .inl (by rw [hbk, hk])) hw (hp _ ?_ ?_) (fun k hk => ?_)
  · exact ((h.later hb).each i hi).keep t1 (fun k hk e => (h.pi hbk).2.2.2 i hi (by rw [← e]; exact hk))
  · exact hl.keep t1 (fun k hk e => by have := hn k hk; omega)
  · rcases hB k hk with e | e
    · exact .inl e
    · exact .inr (hn k e)
def moveQ (ns : List Nd) (q : Pt) (l : List Int) : Pt := endQ ns ⟨q.ld, q.ep, q.ve, q.is, q.rs, l⟩
set_option maxHeartbeats 4000000 in
theorem move_busy (h : ImAt w mb m) {i pg cap : Nat} (hi : i < m.ps.length) (hg : m.pv = .slice (some ⟨pg, 0, none⟩) m.ps.length cap) {q : Pt} {vi vr vt : Value} (hp : m.ps[i] = ⟨q, vi, vr, vt⟩) (hne : q.ts.length ≠ 0) {lv : Value} :
    Calls Try.prog 20 #[.pointer (some ⟨mb, 0, none⟩), .pointer (some ⟨pg, i * 6, none⟩), lv] w fun e w' => e = .returned (.int .i64 16) ∧ w' = w := by
  obtain ⟨pg', cap', e', _, _, hc, hf⟩ := h.pc hi
  rw [hg] at e'
  cases e'
  rw [hp] at hc
  have d5 := hc 5 (by omega)
  simp only [pmC, List.getElem?_cons_zero, List.getElem?_cons_succ] at d5
  have PI := h.each i hi
  rw [hp] at PI
  obtain ⟨ta, tc, et, ti, _, _, _⟩ := PI.lt.iat
  simp only at et
  rw [et] at d5
  have hz : (0 : Int) < (q.ts.length : Int) := by omega
  clear h hi hg hp hne hc hf PI ti et
  generalize q.ts.length = tl at *
  go_enter Try.func20, Try.ntmps20
  go_wp2
  go_ret
  exact ⟨rfl, rfl⟩
set_option maxHeartbeats 4000000 in
theorem move_any (h : ImAt w mb m) {i pg cap : Nat} (hi : i < m.ps.length) (hg : m.pv = .slice (some ⟨pg, 0, none⟩) m.ps.length cap) {q : Pt} {vi vr vt : Value} (hp : m.ps[i] = ⟨q, vi, vr, vt⟩) (hz : q.ts.length = 0) {a : Option Addr} {l : List Int} {c : Nat} (hl : IAt w a l) (hl5 : l.length ≤ 1000000) (hin : inN m.ns.length l) (hpo : (0 ≤ q.ep ∧ q.ep ≤ 4611686018427387904) ∧ 0 ≤ q.ve ∧ q.ve ≤ 4611686018427387904) :
    Calls Try.prog 20 #[.pointer (some ⟨mb, 0, none⟩), .pointer (some ⟨pg, i * 6, none⟩), .slice a l.length c] w fun e w' => e = .returned (.int .i64 0) ∧ ∃ ui ur ut, ImTo w mb m w' (m.put i ⟨moveQ m.ns q l, ui, ur, ut⟩) := by
  obtain ⟨pg', cap', e', _, _, hc, hf⟩ := h.pc hi
  rw [hg] at e'
  cases e'
  rw [hp] at hc
  have d5 := hc 5 (by omega)
  simp only [pmC, List.getElem?_cons_zero, List.getElem?_cons_succ] at d5
  have PI := h.each i hi
  rw [hp] at PI
  obtain ⟨ta, tc, et, ti, _, _, _⟩ := PI.lt.iat
  simp only at et
  rw [et, hz] at d5
  have f5 := hf (i * 6 + 5)
  have hpgw : pg < w.heap.size := h.lt (.inr (.inr (.inr (.inl (by rw [hg]; rfl)))))
  have KC : Hid (Calls Try.prog 23 #[.slice a l.length c] w fun e w' => ∃ a3 k3, e = .returned (.slice a3 l.length k3) ∧ w'.cell? ⟨pg, i * 6 + 5, none⟩ = some (.slice ta 0 tc) ∧ w'.frozen? ⟨pg, i * 6 + 5, none⟩ = false ∧ Hid (∃ ui ur ut, ImTo w mb m (w'.setCell ⟨pg, i * 6 + 5, none⟩ (.slice a3 l.length k3)) (m.put i ⟨⟨q.ld, q.ep, q.ve, q.is, q.rs, l⟩, ui, ur, ut⟩))) := hide (by
    refine (clonei_any (c := c) hl (by omega) (fun e => by
      cases l with
      | nil => rfl
      | cons y r => exfalso; obtain ⟨b, off, e2, _⟩ := hl 0 (by simp); rw [e] at e2; cases e2)).mono ?_
    rintro e w' ⟨v, rfl, j1, j2, j3⟩
    obtain ⟨a3, k3, e3, _⟩ := j1.iat
    subst e3
    refine ⟨a3, k3, rfl, (j3.cell (p := ⟨pg, i * 6 + 5, none⟩) hpgw).trans d5, by rw [← f5]; unfold World.frozen?; rw [j3.block pg hpgw], hide ⟨vi, vr, .slice a3 l.length k3, ?_⟩⟩
    have hap : ∀ v0 : Value, (∀ k, v0.ownBlock = some k → (m.ps[i]).B k) → Apt v0 (.slice a3 l.length k3) := fun v0 h0 k h1 h2 => by
      have := j2 k h2
      have := h.lt (k := k) (.inr (.inr (.inr (.inr ⟨i, hi, h0 k h1⟩))))
      omega
    refine h.laid hi hg (f := 5) (l := l) ⟨⟨q.ld, q.ep, q.ve, q.is, q.rs, l⟩, vi, vr, .slice a3 l.length k3⟩ (by omega) (by rw [hp]; rfl) j3 j1 j2 (fun Z hP hI => ?_) (fun k hk => ?_)
    · rw [hp] at hP
      exact ⟨hP.li, hP.lr, hI, hP.ir, hap vi (fun k hk => by rw [hp]; exact .inl hk), hap vr (fun k hk => by rw [hp]; exact .inr (.inl hk))⟩
    · rw [hp]
      rcases hk with e | e | e
      · exact .inl (.inl e)
      · exact .inl (.inr (.inl e))
      · exact .inr e)
  have KM : Hid (∀ W, (∃ ui ur ut, ImTo w mb m W (m.put i ⟨⟨q.ld, q.ep, q.ve, q.is, q.rs, l⟩, ui, ur, ut⟩)) → Calls Try.prog 37 #[.pointer (some ⟨mb, 0, none⟩), .pointer (some ⟨pg, i * 6, none⟩)] W fun e w' => e = .returned (.tuple #[]) ∧ ∃ ui ur ut, ImTo w mb m w' (m.put i ⟨moveQ m.ns q l, ui, ur, ut⟩)) := hide (by
    rintro W ⟨ui, ur, ut, hW⟩
    refine (endMove_any hW.at_ (i := i) (pg := pg) (cap := cap) (by rw [Im.put_len]; exact hi) (by rw [Im.put_len]; exact hg) (Im.put_at _ _ _ _) hin hpo hl5).mono ?_
    rintro e w' ⟨rfl, vi', vr', vt', t2⟩
    refine ⟨rfl, vi', vr', vt', ?_⟩
    have := hW.trans t2
    rw [Im.put_put] at this
    exact this)
  clear h hi hg hp hc hf PI ti et hl hl5 hin hpo hz f5
  go_enter Try.func20, Try.ntmps20
  go_wp2_with (first
    | (go_at_call 23; refine (unhide KC).mono ?_; rintro e w1 ⟨a3, k3, rfl, r5, rf, S1⟩; have KM2 := hide (unhide KM _ (unhide S1)))
    | (go_at_call 37; refine (unhide KM2).mono ?_; rintro e w2 ⟨rfl, t2⟩; have T2 := hide t2; clear t2))
  go_ret
  exact ⟨rfl, unhide T2⟩
end
end Go.Proofs.Ythaedepnglincaa
