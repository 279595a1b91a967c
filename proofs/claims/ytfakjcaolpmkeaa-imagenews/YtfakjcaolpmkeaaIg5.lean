/-
  join: a node is there from now on. Conditions: it is a node; all in sync are nodes; the epochs are below 2^62.
-/
import Derived.Test.YtfakjcaolpmkeaaIg4
namespace Go.Proofs.Ytfakjcaolpmkeaa
open Go.RowKit Go.Maps
set_option linter.unusedVariables false

section
variable {α : Type}
/-- f of the first k. -/
def mapTo (f : α → α) (ps : List α) (k : Nat) : List α := (ps.take k).map f ++ ps.drop k
theorem mapTo_len (f : α → α) (ps : List α) (k : Nat) : (mapTo f ps k).length = ps.length := by
  simp [mapTo]; omega
theorem mapTo_zero (f : α → α) (ps : List α) : mapTo f ps 0 = ps := by simp [mapTo]
theorem mapTo_all (f : α → α) (ps : List α) : mapTo f ps ps.length = ps.map f := by simp [mapTo]
theorem mapTo_at (f : α → α) (ps : List α) (k : Nat) (h : k < ps.length) (h' : k < (mapTo f ps k).length) : (mapTo f ps k)[k] = ps[k] := by
  have e : (mapTo f ps k)[k]? = some ps[k] := by
    unfold mapTo
    rw [List.getElem?_append_right (by simp; omega)]
    simp only [List.length_map, List.length_take, Nat.min_eq_left (Nat.le_of_lt h), Nat.sub_self, List.getElem?_drop, Nat.add_zero]
    exact List.getElem?_eq_getElem h
  rw [List.getElem?_eq_getElem h'] at e
  exact Option.some.inj e
theorem mapTo_set (f : α → α) (ps : List α) (k : Nat) (h : k < ps.length) : (mapTo f ps k).set k (f ps[k]) = mapTo f ps (k + 1) := by
  apply List.ext_getElem?
  intro j
  rw [List.getElem?_set]
  unfold mapTo
  have e1 : ((ps.take k).map f).length = k := by simp; omega
  have e2 : ((ps.take (k + 1)).map f).length = k + 1 := by simp; omega
  by_cases hj : k = j
  · subst hj
    rw [if_pos rfl, if_pos (by simp; omega), List.getElem?_append_left (by rw [e2]; omega), List.getElem?_map, List.getElem?_take_of_lt (by omega), List.getElem?_eq_getElem h]
    rfl
  · rw [if_neg hj]
    by_cases hlt : j < k
    · rw [List.getElem?_append_left (by rw [e1]; omega), List.getElem?_append_left (by rw [e2]; omega), List.getElem?_map, List.getElem?_map, List.getElem?_take_of_lt hlt, List.getElem?_take_of_lt (by omega)]
    · rw [List.getElem?_append_right (by rw [e1]; omega), List.getElem?_append_right (by rw [e2]; omega), e1, e2, List.getElem?_drop, List.getElem?_drop]
      congr 1; omega
end
def Im.run (m : Im) (f : Pm → Pm) (k : Nat) : Im := ⟨m.nv, m.pv, m.pb, m.ns, mapTo f m.ps k, m.nx, m.ct⟩
theorem Im.run_zero (m : Im) (f : Pm → Pm) : m.run f 0 = m := by simp [Im.run, mapTo_zero]
theorem Im.run_len (m : Im) (f : Pm → Pm) (k : Nat) : (m.run f k).ps.length = m.ps.length := mapTo_len f m.ps k
theorem Im.run_at (m : Im) (f : Pm → Pm) (k : Nat) (h : k < m.ps.length) (h' : k < (m.run f k).ps.length) : (m.run f k).ps[k] = m.ps[k] := mapTo_at f m.ps k h _
theorem Im.run_put (m : Im) (f : Pm → Pm) (k : Nat) (h : k < m.ps.length) : (m.run f k).put k (f m.ps[k]) = m.run f (k + 1) := by
  unfold Im.put Im.run
  simp only [mapTo_set f m.ps k h]
theorem Im.run_skip (m : Im) (f : Pm → Pm) (k : Nat) (h : k < m.ps.length) (he : f m.ps[k] = m.ps[k]) : m.run f k = m.run f (k + 1) := by
  rw [← Im.run_put m f k h, he]
  have h' : k < (m.run f k).ps.length := by rw [Im.run_len]; exact h
  have := Im.set_same (m.run f k) h'
  rw [Im.run_at m f k h] at this
  exact this.symm
/-- What holds of a partition that may be elected. -/
def POk (n : Nat) (q : Pt) : Prop := inN n q.is ∧ 0 ≤ q.ep ∧ q.ep ≤ 4611686018427387904
def mustE (n : Int) (q : Pt) : Bool := q.ld == n || (q.ld == -1 && q.is.contains n)
def joinQ (ns : List Nd) (n : Int) (q : Pt) : Pt := if mustE n q then electQ ns q else q
def joinP (ns : List Nd) (n : Int) (p : Pm) : Pm := ⟨joinQ ns n p.q, p.vi, p.vr, p.vt⟩
section
variable {w w' : World} {mb : Nat} {m : Im}
set_option maxHeartbeats 2000000 in
theorem join_old (h : ImAt w mb m) {x : Nat} (hx : x < m.ns.length) {t : Int} (ht : t ≤ (m.ns[x]).tm) :
    Calls Try.prog 19 #[.pointer (some ⟨mb, 0, none⟩), .int .i64 x, .int .i64 t] w fun e w' => e = .returned (.int .i64 5) ∧ w' = w := by
  obtain ⟨c0, _⟩ := h.c
  obtain ⟨g, cap, e, _, h2, h3, _⟩ := h.nc hx
  rw [e] at c0
  have c1 := h3 1 (by omega)
  simp only [ndC, List.getElem?_cons_zero, List.getElem?_cons_succ] at c1
  have hbig : m.ns.length ≤ 9223372036854775807 := by unfold maxLen at h2; omega
  have hxz : (x : Int) < (m.ns.length : Int) := by omega
  generalize (m.ns[x]).tm = b at *
  clear h h3 e hx
  generalize m.ns.length = n at *
  go_enter Try.func19, Try.ntmps19
  go_wp2
  go_ret
  exact ⟨rfl, rfl⟩
set_option maxHeartbeats 2000000 in
theorem join_any (h : ImAt w mb m) {x : Nat} (hx : x < m.ns.length) {t : Int} (ht : (m.ns[x]).tm < t) (ok : ∀ p ∈ m.ps, POk m.ns.length p.q) (ns' : List Nd) (hns : ns' = m.ns.set x ⟨true, t, (m.ns[x]).bk⟩) :
    Calls Try.prog 19 #[.pointer (some ⟨mb, 0, none⟩), .int .i64 x, .int .i64 t] w fun e w' => e = .returned (.int .i64 0) ∧ ImTo w mb m w' ⟨m.nv, m.pv, m.pb, ns', m.ps.map (joinP ns' x), m.nx, m.ct⟩ := by
  obtain ⟨c0, c1, _⟩ := h.c
  obtain ⟨g, cap, e, _, h2, h3, hf⟩ := h.nc hx
  have n0 := h3 0 (by omega)
  have n1 := h3 1 (by omega)
  have fr0 := hf (x * 3)
  have fr1 := hf (x * 3 + 1)
  simp only [ndC, List.getElem?_cons_zero, List.getElem?_cons_succ, Nat.add_zero] at n0 n1
  have hbig : m.ns.length ≤ 9223372036854775807 := by unfold maxLen at h2; omega
  have hxz : (x : Int) < (m.ns.length : Int) := by omega
  have hl' : ns'.length = m.ns.length := by rw [hns]; simp
  have NB : m.nv.ownBlock = some g := by rw [e]; rfl
  -- the two stores
  have S : ∀ W, Touch (fun _ => False) w W → Hid (ImTo w mb m ((W.setCell ⟨g, x * 3, none⟩ (.bool true)).setCell ⟨g, x * 3 + 1, none⟩ (.int .i64 t)) ⟨m.nv, m.pv, m.pb, ns', m.ps, m.nx, m.ct⟩) := fun W tw => by
    have hW := h.quiet tw
    have t1 := (touch_set W g (x * 3) (.bool true)).trans (touch_set (W.setCell ⟨g, x * 3, none⟩ (.bool true)) g (x * 3 + 1) (.int .i64 t))
    have hw := hW.nds
    rw [e] at hw
    have hw2 := (hw.set (x * 3 + 0) (.bool true)).set (x * 3 + 1) (.int .i64 t)
    rw [flat_set ndC ndC_len m.ns x 0 (.bool true) ⟨true, (m.ns[x]).tm, (m.ns[x]).bk⟩ hx (by omega) rfl, flat_set ndC ndC_len _ x 1 (.int .i64 t) ⟨true, t, (m.ns[x]).bk⟩ (by simp; exact hx) (by omega) (by simp [ndC]), List.set_set, ← hns] at hw2
    have A := hW.updN ns' hl' t1 (fun k hk => by rw [NB, hk]) (by rw [e]; exact hw2)
    exact hide ⟨A, touch_new (tw.mono (fun _ h => h.elim)) t1 (fun k hk => .inl (.inr (.inr (.inl (by rw [NB, hk]))))), fun k hk => .inl hk⟩
  rw [e] at c0
  have OK := hide ok
  have H := hide h
  generalize htm : (m.ns[x]).tm = b at *
  generalize (m.ns[x]).th = b2 at *
  clear h3 hf ok h e hns NB htm
  generalize hnn : m.ns.length = n at *
  have HNN := hide hnn
  clear hnn
  go_enter Try.func19, Try.ntmps19
  go_upto_region 3 with fail
  go_region
  have S2 := hide ((unhide (S w (Touch.refl _ _))).quiet (Touch.refl (fun _ => False) _).drew)
  clear S
  go_upto_region 4 with fail
  generalize ((w.setCell ⟨g, x * 3, none⟩ (.bool true)).setCell ⟨g, x * 3 + 1, none⟩ (.int .i64 t)).drew = V at *
  clear c0 c1 n0 n1 fr0 fr1
  obtain ⟨m0, M0⟩ : ∃ m0 : Im, Hid (m0 = ⟨m.nv, m.pv, m.pb, ns', m.ps, m.nx, m.ct⟩) := ⟨_, hide rfl⟩
  rw [← unhide M0] at S2
  have OK0 : Hid (∀ p ∈ m0.ps, POk m0.ns.length p.q) := hide (by rw [unhide M0]; simp only; rw [hl']; exact unhide OK)
  have E0 : Hid (⟨m.nv, m.pv, m.pb, ns', m.ps.map (joinP ns' x), m.nx, m.ct⟩ = m0.run (joinP m0.ns x) m0.ps.length) := hide (by rw [unhide M0]; simp only [Im.run, mapTo_all])
  clear OK H M0 hl'
  have c1 := (unhide S2).at_.c.2.1
  obtain ⟨a, pcap, ep, _, hpm, _⟩ := (unhide S2).at_.pts.parts
  rw [ep] at c1
  have EP := hide ep
  clear ep
  have hpb : m0.ps.length ≤ 9223372036854775807 := by unfold maxLen at hpm; omega
  generalize hpn : m0.ps.length = pn at *
  have HPN := hide hpn
  clear hpn
  go_wp2_with fail
  go_loopg [7, 8, 39, 68] pn (fun gg _ _ s39 _ wr => ∃ kk : Nat, kk ≤ pn ∧ pn - kk ≤ gg ∧ s39 = .int .i64 kk ∧ Hid (ImTo w mb m wr (m0.run (joinP m0.ns x) kk)))
  case atStart => exact ⟨0, Nat.zero_le _, by omega, rfl, by rw [Im.run_zero]; exact S2⟩
  case round =>
    clear c1
    obtain ⟨kk, hkk, hgg, rfl, T⟩ := hrel
    by_cases hlt : kk < pn
    · have hltz : (kk : Int) < (pn : Int) := by omega
      have hk0 : kk < m0.ps.length := by rw [unhide HPN]; exact hlt
      have hk1 : kk < (m0.run (joinP m0.ns x) kk).ps.length := by rw [Im.run_len]; exact hk0
      have c1 : wr.cell? ⟨mb, 1, none⟩ = some m0.pv := (unhide T).at_.c.2.1
      obtain ⟨pg, cp2, e2, _, _, hc, _⟩ := (unhide T).at_.pc hk1
      rw [Im.run_at _ _ _ hk0 hk1] at hc
      have PG : Hid ((m0.run (joinP m0.ns x) kk).pv = .slice (some ⟨pg, 0, none⟩) (m0.run (joinP m0.ns x) kk).ps.length cp2) := hide e2
      have e3 : m0.pv = .slice (some ⟨pg, 0, none⟩) pn cp2 := by rw [← unhide HPN, ← Im.run_len m0 (joinP m0.ns x) kk]; exact e2
      rw [e3] at c1
      have PI := hide ((unhide T).at_.each kk hk1)
      rw [Im.run_at _ _ _ hk0 hk1] at PI
      have HOK := hide (unhide OK0 _ (List.getElem_mem hk0))
      have RA := hide (Im.run_at m0 (joinP m0.ns x) kk hk0 hk1)
      have RP := hide (Im.run_put m0 (joinP m0.ns x) kk hk0)
      have RS := hide (Im.run_skip m0 (joinP m0.ns x) kk hk0)
      have HK1 := hide hk1
      clear e2 e3
      obtain ⟨p, HP⟩ : ∃ p, Hid (p = m0.ps[kk]) := ⟨_, hide rfl⟩
      rw [← unhide HP] at hc PI HOK RA RP RS
      clear HP
      obtain ⟨q, vi, vr, vt⟩ := p
      have d0 := hc 0 (by omega)
      have d3 := hc 3 (by omega)
      simp only [pmC, List.getElem?_cons_zero, List.getElem?_cons_succ, Nat.add_zero] at d0 d3
      clear hc
      obtain ⟨va, vc, ev, via, _, hvm, _⟩ := (unhide PI).li.iat
      simp only at ev via
      have hll := (unhide PI).li.len
      simp only at hll
      rw [ev] at d3
      have KC := hide (contains_any (c := vc) (x : Int) via hll)
      have KE : mustE x q = true → Hid (Calls Try.prog 35 #[.pointer (some ⟨mb, 0, none⟩), .pointer (some ⟨pg, kk * 6, none⟩)] wr fun e w' => e = .returned (.tuple #[]) ∧ ImTo w mb m w' (m0.run (joinP m0.ns x) (kk + 1))) := fun hm => by
        refine hide ((elect_any (unhide T).at_ (unhide HK1) (unhide PG) (unhide RA) (unhide HOK).1 (unhide HOK).2.1 (unhide HOK).2.2).mono ?_)
        rintro e w2 ⟨rfl, t2⟩
        refine ⟨rfl, ?_⟩
        have e5 : joinP m0.ns x ⟨q, vi, vr, vt⟩ = ⟨electQ m0.ns q, vi, vr, vt⟩ := by unfold joinP joinQ; simp only; rw [if_pos hm]
        have t3 := (unhide T).trans t2
        have e4 : (m0.run (joinP m0.ns x) kk).put kk ⟨electQ (m0.run (joinP m0.ns x) kk).ns q, vi, vr, vt⟩ = m0.run (joinP m0.ns x) (kk + 1) := by
          rw [← unhide RP, e5]
          rfl
        rw [e4] at t3
        exact t3
      have KS : mustE x q = false → Hid (ImTo w mb m wr (m0.run (joinP m0.ns x) (kk + 1))) := fun hm => by
        have e5 : joinP m0.ns x ⟨q, vi, vr, vt⟩ = ⟨q, vi, vr, vt⟩ := by unfold joinP joinQ; simp only; rw [hm]; rfl
        rw [← unhide RS e5]; exact T
      clear RP RS RA HOK PI PG HK1 via hll hvm ev T hk1 hk0
      have hmE : mustE x q = (q.ld == (x : Int) || (q.ld == -1 && q.is.contains (x : Int))) := rfl
      generalize q.is.length = il at *
      generalize q.is.contains (x : Int) = bc at *
      generalize q.ld = ld at *
      by_cases h1 : ld = (x : Int)
      · have KE := KE (by rw [hmE]; simp [h1])
        clear KS KC hmE
        have h1b : (ld == (x : Int)) = true := by simp [h1]
        go_wp2_with (go_at_call 35; refine (unhide KE).mono ?_; rintro e w' ⟨rfl, t2⟩; have T2 := hide t2; clear t2)
        go_roundg (pn - (kk + 1))
        case measure => omega
        case rel => exact ⟨kk + 1, by omega, by omega, by go_num, T2⟩
      · have h1b : (ld == (x : Int)) = false := by simp [h1]
        by_cases h2 : ld = -1
        · have h2b : (ld == -1) = true := by simp [h2]
          cases bc with
          | true =>
            have KE := KE (by rw [hmE]; simp [h2])
            clear KS hmE
            go_wp2_with (first | (go_at_call 34; refine (unhide KC).mono ?_; rintro e w' ⟨rfl, rfl⟩) | (go_at_call 35; refine (unhide KE).mono ?_; rintro e w' ⟨rfl, t2⟩; have T2 := hide t2; clear t2))
            go_roundg (pn - (kk + 1))
            case measure => omega
            case rel => exact ⟨kk + 1, by omega, by omega, by go_num, T2⟩
          | false =>
            have KS := KS (by rw [hmE, h1b]; simp)
            clear KE hmE
            go_wp2_with (go_at_call 34; refine (unhide KC).mono ?_; rintro e w' ⟨rfl, rfl⟩)
            go_roundg (pn - (kk + 1))
            case measure => omega
            case rel => exact ⟨kk + 1, by omega, by omega, by go_num, KS⟩
        · have h2b : (ld == -1) = false := by simp [h2]
          have KS := KS (by rw [hmE, h1b, h2b]; simp)
          clear KE hmE
          go_wp2
          go_roundg (pn - (kk + 1))
          case measure => omega
          case rel => exact ⟨kk + 1, by omega, by omega, by go_num, KS⟩
    · have hltz : ¬ (kk : Int) < (pn : Int) := by omega
      have e : kk = pn := by omega
      subst e
      go_wp2
      go_ret
      rw [unhide E0]
      exact ⟨rfl, unhide T⟩
end
end Go.Proofs.Ytfakjcaolpmkeaa
