/-
  Apply, whole, in plain words. Conditions: the image as it lies; the command's list lies elsewhere; all lists are of nodes; epochs, versions and the count are below 2^61.
-/
import Derived.Test.YthaedepnglincaaIgc
import Derived.Test.YthaedepnglincaaIgj
import Derived.Test.YthaedepnglincaaIgi
namespace Go.Proofs.Ythaedepnglincaa
open Go.RowKit Go.Maps
set_option linter.unusedVariables false

/-- What holds of a partition between the commands. -/
structure PFit (n : Nat) (q : Pt) : Prop where
  is : inN n q.is
  ts : inN n q.ts
  il : q.is.length ≤ 1000
  rl : q.rs.length ≤ 1000
  tl : q.ts.length ≤ 1000
  ep : 0 ≤ q.ep ∧ q.ep ≤ 2305843009213693952
  ve : 0 ≤ q.ve ∧ q.ve ≤ 2305843009213693952
def barrI (ns : List Nd) (q : Pt) (l : List Int) : Bool := l.any (barr ns q)
def isrI (g : Img) (q : Pt) (i : Nat) (c : Cm) : Int × Img :=
  if q.ld = c.nd ∧ q.ep = c.ep ∧ q.ve = c.ve then (if c.l.contains c.nd = true ∧ barrI g.ns q c.l = false then (0, ⟨g.ns, g.ps.set i (isrQ g.ns q c.l), g.nx, g.ct⟩) else (5, g)) else (12, g)
def moveI (g : Img) (q : Pt) (i : Nat) (c : Cm) : Int × Img :=
  if q.ts.length = 0 then (0, ⟨g.ns, g.ps.set i (moveQ g.ns q c.l), g.nx, g.ct⟩) else (16, g)
def joinI (g : Img) (d : Nd) (x : Nat) (c : Cm) : Int × Img :=
  if d.tm < c.ep then (0, ⟨g.ns.set x ⟨true, c.ep, d.bk⟩, g.ps.map (joinQ (g.ns.set x ⟨true, c.ep, d.bk⟩) x), g.nx, g.ct⟩) else (5, g)
def fenceI (g : Img) (d : Nd) (x : Nat) : Int × Img :=
  if d.th = true then (0, ⟨g.ns.set x ⟨false, d.tm, d.bk⟩, g.ps.map (goneQ (g.ns.set x ⟨false, d.tm, d.bk⟩) x), g.nx, g.ct⟩) else (4, g)
def blockI (g : Img) (d : Nd) (x : Nat) : Int × Img :=
  if g.nx ≤ 991 then (0, ⟨g.ns.set x ⟨d.th, d.tm, g.nx⟩, g.ps, g.nx + 10, g.ct⟩) else (17, g)
def applyI (g0 : Img) (c : Cm) : Int × Img :=
  let g : Img := ⟨g0.ns, g0.ps, g0.nx, g0.ct + 1⟩
  if fitsB g.ns.length g.ps.length c = false then (1, g)
  else if c.kd = 4 then moveI g (g.ps.getD c.pt.toNat default) c.pt.toNat c
  else if c.kd = 3 then isrI g (g.ps.getD c.pt.toNat default) c.pt.toNat c
  else if c.kd = 1 then joinI g (g.ns.getD c.nd.toNat default) c.nd.toNat c
  else if c.kd = 2 then fenceI g (g.ns.getD c.nd.toNat default) c.nd.toNat
  else blockI g (g.ns.getD c.nd.toNat default) c.nd.toNat
theorem fits_part {n p : Nat} {c : Cm} (h : fitsB n p c = true) (h4 : c.kd = 4 ∨ c.kd = 3) : isN p c.pt = true ∧ isL n c.l = true ∧ c.l.length ≤ 5 := by
  unfold fitsB at h
  simp only [Bool.and_eq_true] at h
  obtain ⟨hC, h⟩ := h
  have h5 : c.l.length ≤ 5 := by
    unfold isC at hC
    simp only [Bool.and_eq_true, decide_eq_true_eq] at hC
    exact hC.2
  rcases h4 with h4 | h3
  · rw [if_pos h4] at h
    simp only [Bool.and_eq_true] at h
    exact ⟨h.1, h.2, h5⟩
  · rw [if_neg (by omega), if_pos h3] at h
    simp only [Bool.and_eq_true] at h
    exact ⟨h.1.2, h.2, h5⟩
theorem isL_in {n : Nat} {l : List Int} (h : isL n l = true) : inN n l := by
  unfold isL at h
  simp only [Bool.and_eq_true] at h
  have gen : ∀ (l : List Int) (last : Int), risF n last l = true → inN n l := by
    intro l
    induction l with
    | nil => intro _ _ x hx; cases hx
    | cons y r ih =>
      intro last hr x hx
      simp only [risF, Bool.and_eq_true] at hr
      rcases List.mem_cons.1 hx with rfl | hx
      · exact hr.1.2
      · exact ih y hr.2 x hx
  exact gen l (-1) h.1
section
variable {w w' : World} {mb : Nat} {m : Im}
theorem does_unfit {c : Cm} (h : ImAt w mb m) (hc : CIn w c) (hap : Far m mb c) (h0 : 0 ≤ m.ct) (h1 : m.ct ≤ 4611686018427387904) (hf : fitsB m.ns.length m.ps.length c = false) :
    Calls Try.prog 7 #[.pointer (some ⟨mb, 0, none⟩), .agg (cmA c)] w fun e w' => ∃ v, e = .returned v ∧ Does w mb m 1 ⟨m.ns, m.ps.map Pm.q, m.nx, m.ct + 1⟩ v w' :=
  apply_unfit (P := fun v w' => Does w mb m 1 ⟨m.ns, m.ps.map Pm.q, m.nx, m.ct + 1⟩ v w') h hc hap h0 h1 hf (fun W R => ⟨rfl, _, R.to_, rfl⟩)
theorem does_fence {c : Cm} (h : ImAt w mb m) (hc : CIn w c) (hap : Far m mb c) (h0 : 0 ≤ m.ct) (h1 : m.ct ≤ 4611686018427387904) (hf : fitsB m.ns.length m.ps.length c = true) (hk : c.kd = 2) {x : Nat} (hx : c.nd = (x : Int)) (hxl : x < m.ns.length) (ok : ∀ p ∈ m.ps, POk m.ns.length p.q ∧ VOk p.q) :
    Calls Try.prog 7 #[.pointer (some ⟨mb, 0, none⟩), .agg (cmA c)] w fun e w' => ∃ v, e = .returned v ∧
      (((m.ns[x]).th = true → Does w mb m 0 ⟨m.ns.set x ⟨false, (m.ns[x]).tm, (m.ns[x]).bk⟩, (m.ps.map Pm.q).map (goneQ (m.ns.set x ⟨false, (m.ns[x]).tm, (m.ns[x]).bk⟩) x), m.nx, m.ct + 1⟩ v w') ∧ ((m.ns[x]).th = false → Does w mb m 4 ⟨m.ns, m.ps.map Pm.q, m.nx, m.ct + 1⟩ v w')) := by
  refine apply_k2 (P := fun v w' => ((m.ns[x]).th = true → Does w mb m 0 ⟨m.ns.set x ⟨false, (m.ns[x]).tm, (m.ns[x]).bk⟩, (m.ps.map Pm.q).map (goneQ (m.ns.set x ⟨false, (m.ns[x]).tm, (m.ns[x]).bk⟩) x), m.nx, m.ct + 1⟩ v w') ∧ ((m.ns[x]).th = false → Does w mb m 4 ⟨m.ns, m.ps.map Pm.q, m.nx, m.ct + 1⟩ v w')) h hc hap h0 h1 hf hk (fun W R => ?_)
  rw [hx]
  cases hn : (m.ns[x]).th with
  | true =>
    refine (fence_any R.to_.at_ (x := x) hxl hn ok _ rfl).mono ?_
    rintro e w2 ⟨rfl, t2⟩
    refine ⟨_, rfl, fun _ => ⟨rfl, _, R.to_.trans t2, ?_⟩, fun h => by simp at h⟩
    unfold Im.abs
    simp only [List.map_map]
    rfl
  | false =>
    refine (fence_none R.to_.at_ (x := x) hxl hn).mono ?_
    rintro e w2 ⟨rfl, b2⟩
    exact ⟨_, rfl, fun h => by simp at h, fun _ => ⟨rfl, _, ⟨R.to_.at_.later b2, touch_new R.to_.touch (Touch.of_below (S := fun _ => False) b2) (fun _ h => h.elim), R.to_.moved⟩, rfl⟩⟩
theorem put_abs (m : Im) (i : Nat) (q : Pt) (a b c : Value) : (m.put i ⟨q, a, b, c⟩).abs = ⟨m.ns, (m.ps.map Pm.q).set i q, m.nx, m.ct⟩ := by simp [Im.put, Im.abs, List.map_set]
theorem does_move {c : Cm} (h : ImAt w mb m) (hc : CIn w c) (hap : Far m mb c) (h0 : 0 ≤ m.ct) (h1 : m.ct ≤ 4611686018427387904) (hf : fitsB m.ns.length m.ps.length c = true) (hk : c.kd = 4) {i : Nat} (hx : c.pt = (i : Int)) (hxl : i < m.ps.length) (hF : PFit m.ns.length (m.ps[i]).q) :
    Calls Try.prog 7 #[.pointer (some ⟨mb, 0, none⟩), .agg (cmA c)] w fun e w' => ∃ v, e = .returned v ∧
      (((m.ps[i]).q.ts.length = 0 → Does w mb m 0 ⟨m.ns, (m.ps.map Pm.q).set i (moveQ m.ns (m.ps[i]).q c.l), m.nx, m.ct + 1⟩ v w') ∧ ((m.ps[i]).q.ts.length ≠ 0 → Does w mb m 16 ⟨m.ns, m.ps.map Pm.q, m.nx, m.ct + 1⟩ v w')) := by
  obtain ⟨pg, cap, hpv, _⟩ := h.pc hxl
  obtain ⟨_, hL, h5⟩ := fits_part hf (.inl hk)
  refine apply_k4 (P := fun v w' => ((m.ps[i]).q.ts.length = 0 → Does w mb m 0 ⟨m.ns, (m.ps.map Pm.q).set i (moveQ m.ns (m.ps[i]).q c.l), m.nx, m.ct + 1⟩ v w') ∧ ((m.ps[i]).q.ts.length ≠ 0 → Does w mb m 16 ⟨m.ns, m.ps.map Pm.q, m.nx, m.ct + 1⟩ v w')) h hc hap h0 h1 hf hk hx hxl hpv (fun W R => ?_)
  by_cases hz : (m.ps[i]).q.ts.length = 0
  · refine (move_any R.to_.at_ (i := i) (pg := pg) (cap := cap) hxl hpv (q := (m.ps[i]).q) (vi := (m.ps[i]).vi) (vr := (m.ps[i]).vr) (vt := (m.ps[i]).vt) rfl hz R.cin.li (by omega) (isL_in hL) ⟨⟨hF.ep.1, by have := hF.ep.2; omega⟩, hF.ve.1, by have := hF.ve.2; omega⟩).mono ?_
    rintro e w2 ⟨rfl, ui, ur, ut, t2⟩
    exact ⟨_, rfl, fun _ => ⟨rfl, _, R.to_.trans t2, put_abs _ _ _ _ _ _⟩, fun h => absurd hz h⟩
  · refine (move_busy R.to_.at_ (i := i) (pg := pg) (cap := cap) hxl hpv (q := (m.ps[i]).q) (vi := (m.ps[i]).vi) (vr := (m.ps[i]).vr) (vt := (m.ps[i]).vt) rfl hz).mono ?_
    rintro e w2 ⟨rfl, rfl⟩
    exact ⟨_, rfl, fun h => absurd h hz, fun _ => ⟨rfl, _, R.to_, rfl⟩⟩
theorem does_isr {c : Cm} (h : ImAt w mb m) (hc : CIn w c) (hap : Far m mb c) (h0 : 0 ≤ m.ct) (h1 : m.ct ≤ 4611686018427387904) (hf : fitsB m.ns.length m.ps.length c = true) (hk : c.kd = 3) {i : Nat} (hx : c.pt = (i : Int)) (hxl : i < m.ps.length) (hF : PFit m.ns.length (m.ps[i]).q) :
    Calls Try.prog 7 #[.pointer (some ⟨mb, 0, none⟩), .agg (cmA c)] w fun e w' => ∃ v, e = .returned v ∧ Does w mb m (isrI ⟨m.ns, m.ps.map Pm.q, m.nx, m.ct + 1⟩ (m.ps[i]).q i c).1 (isrI ⟨m.ns, m.ps.map Pm.q, m.nx, m.ct + 1⟩ (m.ps[i]).q i c).2 v w' := by
  obtain ⟨pg, cap, hpv, _⟩ := h.pc hxl
  obtain ⟨_, hL, h5⟩ := fits_part hf (.inr hk)
  refine apply_k3 (P := fun v w' => Does w mb m (isrI ⟨m.ns, m.ps.map Pm.q, m.nx, m.ct + 1⟩ (m.ps[i]).q i c).1 (isrI ⟨m.ns, m.ps.map Pm.q, m.nx, m.ct + 1⟩ (m.ps[i]).q i c).2 v w') h hc hap h0 h1 hf hk (fun W R => ?_)
  have K := setIsr_any R.to_.at_ (i := i) (pg := pg) (cap := cap) hxl hpv (q := (m.ps[i]).q) (vi := (m.ps[i]).vi) (vr := (m.ps[i]).vr) (vt := (m.ps[i]).vt) rfl (kd := c.kd) (nd := c.nd) (ep := c.ep) (ve := c.ve) (a := c.a) (k := c.k) (l := c.l) R.cin.li (by omega) (isL_in hL) hF.ts (by have := hF.tl; omega) ⟨⟨hF.ep.1, by have := hF.ep.2; omega⟩, hF.ve.1, by have := hF.ve.2; omega⟩
  rw [← hx] at K
  refine K.mono ?_
  rintro e w2 ⟨v, rfl, k1, k2, k3⟩
  refine ⟨v, rfl, ?_⟩
  by_cases ha : (m.ps[i]).q.ld = c.nd ∧ (m.ps[i]).q.ep = c.ep ∧ (m.ps[i]).q.ve = c.ve
  · by_cases hb : c.l.contains c.nd = true ∧ c.l.any (barr m.ns (m.ps[i]).q) = false
    · obtain ⟨rfl, ui, ur, ut, t2⟩ := k3 ha hb.1 hb.2
      have e1 : isrI ⟨m.ns, m.ps.map Pm.q, m.nx, m.ct + 1⟩ (m.ps[i]).q i c = (0, ⟨m.ns, (m.ps.map Pm.q).set i (isrQ m.ns (m.ps[i]).q c.l), m.nx, m.ct + 1⟩) := by unfold isrI barrI; simp only; rw [if_pos ha, if_pos hb]
      rw [e1]
      exact ⟨rfl, _, R.to_.trans t2, put_abs _ _ _ _ _ _⟩
    · obtain ⟨rfl, t2⟩ := k2 ha hb
      have e1 : isrI ⟨m.ns, m.ps.map Pm.q, m.nx, m.ct + 1⟩ (m.ps[i]).q i c = (5, ⟨m.ns, m.ps.map Pm.q, m.nx, m.ct + 1⟩) := by unfold isrI barrI; simp only; rw [if_pos ha, if_neg hb]
      rw [e1]
      exact ⟨rfl, _, R.to_.trans t2, rfl⟩
  · obtain ⟨rfl, t2⟩ := k1 ha
    have e1 : isrI ⟨m.ns, m.ps.map Pm.q, m.nx, m.ct + 1⟩ (m.ps[i]).q i c = (12, ⟨m.ns, m.ps.map Pm.q, m.nx, m.ct + 1⟩) := by unfold isrI; rw [if_neg ha]
    rw [e1]
    exact ⟨rfl, _, R.to_.trans t2, rfl⟩
theorem fits_kd {n p : Nat} {c : Cm} (h : fitsB n p c = true) : 1 ≤ c.kd ∧ c.kd ≤ 5 := by
  unfold fitsB isC at h
  simp only [Bool.and_eq_true, decide_eq_true_eq] at h
  exact h.1.1
/-- Apply of any command. -/
theorem does_any {c : Cm} (h : ImAt w mb m) (hc : CIn w c) (hap : Far m mb c) (h0 : 0 ≤ m.ct) (h1 : m.ct ≤ 4611686018427387904) (hF : ∀ q ∈ m.ps.map Pm.q, PFit m.ns.length q) :
    Calls Try.prog 7 #[.pointer (some ⟨mb, 0, none⟩), .agg (cmA c)] w fun e w' => ∃ v, e = .returned v ∧ Does w mb m (applyI m.abs c).1 (applyI m.abs c).2 v w' := by
  have hlen : (m.ps.map Pm.q).length = m.ps.length := by simp
  cases hf : fitsB m.ns.length m.ps.length c with
  | false =>
    have e1 : applyI m.abs c = (1, ⟨m.ns, m.ps.map Pm.q, m.nx, m.ct + 1⟩) := by
      unfold applyI Im.abs
      simp only [hlen]
      rw [if_pos hf]
    rw [e1]
    exact does_unfit h hc hap h0 h1 hf
  | true =>
    have hff : ¬ fitsB m.ns.length (m.ps.map Pm.q).length c = false := by rw [hlen, hf]; simp
    have hkd := fits_kd hf
    by_cases h4 : c.kd = 4
    · obtain ⟨i, hi, hil⟩ := isN_nat (fits_part hf (.inl h4)).1
      have hg : (m.ps.map Pm.q).getD c.pt.toNat default = (m.ps[i]).q := by rw [hi]; simp [List.getD, hil]
      have e1 : applyI m.abs c = moveI ⟨m.ns, m.ps.map Pm.q, m.nx, m.ct + 1⟩ (m.ps[i]).q i c := by
        unfold applyI Im.abs
        simp only
        rw [if_neg hff, if_pos h4, hg, hi, Int.toNat_natCast]
      rw [e1]
      refine (does_move h hc hap h0 h1 hf h4 hi hil (hF _ (List.mem_map_of_mem (List.getElem_mem hil)))).mono ?_
      rintro e w2 ⟨v, rfl, k1, k2⟩
      refine ⟨v, rfl, ?_⟩
      unfold moveI
      by_cases hz : (m.ps[i]).q.ts.length = 0
      · rw [if_pos hz]; exact k1 hz
      · rw [if_neg hz]; exact k2 hz
    · by_cases h3 : c.kd = 3
      · obtain ⟨i, hi, hil⟩ := isN_nat (fits_part hf (.inr h3)).1
        have hg : (m.ps.map Pm.q).getD c.pt.toNat default = (m.ps[i]).q := by rw [hi]; simp [List.getD, hil]
        have e1 : applyI m.abs c = isrI ⟨m.ns, m.ps.map Pm.q, m.nx, m.ct + 1⟩ (m.ps[i]).q i c := by
          unfold applyI Im.abs
          simp only
          rw [if_neg hff, if_neg h4, if_pos h3, hg, hi, Int.toNat_natCast]
        rw [e1]
        exact does_isr h hc hap h0 h1 hf h3 hi hil (hF _ (List.mem_map_of_mem (List.getElem_mem hil)))
      · obtain ⟨x, hx, hxl⟩ := isN_nat (fits_in hf h4)
        have hg : m.ns.getD c.nd.toNat default = m.ns[x] := by rw [hx]; simp [List.getD, hxl]
        have okP : ∀ p ∈ m.ps, POk m.ns.length p.q ∧ VOk p.q := fun p hp => by
          have := hF _ (List.mem_map_of_mem hp)
          exact ⟨⟨this.is, this.ep.1, by have := this.ep.2; omega⟩, this.ve.1, by have := this.ve.2; omega⟩
        by_cases k1 : c.kd = 1
        · have e1 : applyI m.abs c = joinI ⟨m.ns, m.ps.map Pm.q, m.nx, m.ct + 1⟩ (m.ns[x]) x c := by
            unfold applyI Im.abs
            simp only
            rw [if_neg hff, if_neg h4, if_neg h3, if_pos k1, hg, hx, Int.toNat_natCast]
          rw [e1]
          refine (does_join h hc hap h0 h1 hf k1 hx hxl (fun p hp => (okP p hp).1)).mono ?_
          rintro e w2 ⟨v, rfl, q1, q2⟩
          refine ⟨v, rfl, ?_⟩
          unfold joinI
          by_cases ht : (m.ns[x]).tm < c.ep
          · rw [if_pos ht]; exact q1 ht
          · rw [if_neg ht]; exact q2 (by omega)
        · by_cases k2 : c.kd = 2
          · have e1 : applyI m.abs c = fenceI ⟨m.ns, m.ps.map Pm.q, m.nx, m.ct + 1⟩ (m.ns[x]) x := by
              unfold applyI Im.abs
              simp only
              rw [if_neg hff, if_neg h4, if_neg h3, if_neg k1, if_pos k2, hg, hx, Int.toNat_natCast]
            rw [e1]
            refine (does_fence h hc hap h0 h1 hf k2 hx hxl okP).mono ?_
            rintro e w2 ⟨v, rfl, q1, q2⟩
            refine ⟨v, rfl, ?_⟩
            unfold fenceI
            by_cases ht : (m.ns[x]).th = true
            · rw [if_pos ht]; exact q1 ht
            · rw [if_neg ht]; exact q2 (by simpa using ht)
          · have e1 : applyI m.abs c = blockI ⟨m.ns, m.ps.map Pm.q, m.nx, m.ct + 1⟩ (m.ns[x]) x := by
              unfold applyI Im.abs
              simp only
              rw [if_neg hff, if_neg h4, if_neg h3, if_neg k1, if_neg k2, hg, hx, Int.toNat_natCast]
            rw [e1]
            refine (does_block h hc hap h0 h1 hf (by omega) hx hxl).mono ?_
            rintro e w2 ⟨v, rfl, q1, q2⟩
            refine ⟨v, rfl, ?_⟩
            unfold blockI
            by_cases ht : m.nx ≤ 991
            · rw [if_pos ht]; exact q1 ht
            · rw [if_neg ht]; exact q2 (by omega)
end
end Go.Proofs.Ythaedepnglincaa
