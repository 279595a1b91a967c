/-
  fence, walked. Conditions: it is a node; all in sync are nodes; epochs and versions are below 2^62.
-/
import Derived.Test.YthaedepnglincaaIg8
namespace Go.Proofs.Ythaedepnglincaa
open Go.RowKit Go.Maps
set_option linter.unusedVariables false

theorem tdrew (w : World) (n : Nat) : Touch (fun _ => False) w (w.drewN n) := ⟨rfl, rfl, rfl, Nat.le_refl _, fun _ _ _ => rfl⟩
theorem il_some {w : World} {v : Value} {l : List Int} {x : Int} (h : IL w v l) (hx : l.contains x = true) : ∃ g c, v = .slice (some ⟨g, 0, none⟩) l.length c := by
  rcases h.2 with ⟨_, e⟩ | ⟨g, cap, cur, e, _⟩
  · rw [ints_len] at e
    have : l = [] := List.length_eq_zero_iff.1 e
    rw [this] at hx; simp at hx
  · exact ⟨g, cap, by rw [e, ints_len]⟩
section
variable {w w' : World} {mb : Nat} {m : Im}
set_option maxHeartbeats 2000000 in
theorem fence_none (h : ImAt w mb m) {x : Nat} (hx : x < m.ns.length) (ht : (m.ns[x]).th = false) :
    Calls Try.prog 18 #[.pointer (some ⟨mb, 0, none⟩), .int .i64 x] w fun e w' => e = .returned (.int .i64 4) ∧ Below w.heap.size w w' := by
  have b0 := (Below.refl w.heap.size w).alloc (Nat.le_refl _) (.cells #[.int .i64 (x : Int)] 3)
  have h0 := h.later b0
  obtain ⟨c0, _⟩ := h0.c
  obtain ⟨g, cap, e, _, h2, h3, _⟩ := h0.nc hx
  rw [e] at c0
  have c1 := h3 0 (by omega)
  simp only [ndC, List.getElem?_cons_zero, Nat.add_zero] at c1
  rw [ht] at c1
  have hbig : m.ns.length ≤ 9223372036854775807 := by unfold maxLen at h2; omega
  have hxz : (x : Int) < (m.ns.length : Int) := by omega
  have B0 := hide b0
  clear h h0 h3 e ht b0 hx
  generalize m.ns.length = n at *
  go_enter Try.func18, Try.ntmps18
  go_wp2_with fail
  go_quiet (fail)
  go_wp2
  go_returns
  exact ⟨rfl, below_drewN' (unhide B0) _⟩
set_option maxHeartbeats 4000000 in
theorem fence_any (h : ImAt w mb m) {x : Nat} (hx : x < m.ns.length) (ht : (m.ns[x]).th = true) (ok : ∀ p ∈ m.ps, POk m.ns.length p.q ∧ VOk p.q) (ns' : List Nd) (hns : ns' = m.ns.set x ⟨false, (m.ns[x]).tm, (m.ns[x]).bk⟩) :
    Calls Try.prog 18 #[.pointer (some ⟨mb, 0, none⟩), .int .i64 x] w fun e w' => e = .returned (.int .i64 0) ∧ ImTo w mb m w' ⟨m.nv, m.pv, m.pb, ns', m.ps.map (goneP ns' x), m.nx, m.ct⟩ := by
  have b0 := (Below.refl w.heap.size w).alloc (Nat.le_refl _) (.cells #[.int .i64 (x : Int)] 3)
  have h0 := h.later b0
  obtain ⟨c0, c1, _⟩ := h0.c
  obtain ⟨g, cap, e, _, h2, h3, hf⟩ := h0.nc hx
  have n0 := h3 0 (by omega)
  have fr0 := hf (x * 3)
  simp only [ndC, List.getElem?_cons_zero, Nat.add_zero] at n0
  rw [ht] at n0
  have hbig : m.ns.length ≤ 9223372036854775807 := by unfold maxLen at h2; omega
  have hxz : (x : Int) < (m.ns.length : Int) := by omega
  have hl' : ns'.length = m.ns.length := by rw [hns]; simp
  have NB : m.nv.ownBlock = some g := by rw [e]; rfl
  have S : ∀ W, Touch (fun _ => False) (w.alloc (.cells #[.int .i64 (x : Int)] 3)) W → Hid (ImTo (w.alloc (.cells #[.int .i64 (x : Int)] 3)) mb m (W.setCell ⟨g, x * 3, none⟩ (.bool false)) ⟨m.nv, m.pv, m.pb, ns', m.ps, m.nx, m.ct⟩) := fun W tw => by
    have hW := h0.quiet tw
    have t1 := touch_set W g (x * 3) (.bool false)
    have hw := hW.nds
    rw [e] at hw
    have hw2 := hw.set (x * 3 + 0) (.bool false)
    rw [flat_set ndC ndC_len m.ns x 0 (.bool false) ⟨false, (m.ns[x]).tm, (m.ns[x]).bk⟩ hx (by omega) rfl, ← hns] at hw2
    have A := hW.updN ns' hl' t1 (fun k hk => by rw [NB, hk]) (by rw [e]; exact hw2)
    exact hide ⟨A, touch_new (tw.mono (fun _ h => h.elim)) t1 (fun k hk => .inl (.inr (.inr (.inl (by rw [NB, hk]))))), fun k hk => .inl hk⟩
  rw [e] at c0
  have BX := hide (heap_new w (.cells #[.int .i64 (x : Int)] 3))
  have NR : Hid (¬ m.R mb w.heap.size) := hide (fun hr => by have := h.lt hr; omega)
  have OK := hide ok
  have B0 := hide b0
  clear h3 hf ok h h0 e hns NB ht hx b0
  generalize hnn : m.ns.length = n at *
  have HNN := hide hnn
  clear hnn
  go_enter Try.func18, Try.ntmps18
  go_wp2_with fail
  go_quiet (fail)
  go_wp2_with fail
  go_region
  have S2 := S ((w.alloc (.cells #[.int .i64 (x : Int)] 3)).drewN (nq + 1)) (tdrew _ _)
  clear S
  go_upto_region 4 with fail
  generalize ((w.alloc (.cells #[.int .i64 (x : Int)] 3)).drewN (nq + 1)).setCell ⟨g, x * 3, none⟩ (.bool false) = V at *
  clear c0 c1 n0 fr0
  generalize w.alloc (.cells #[.int .i64 (x : Int)] 3) = w0 at *
  generalize hnb : w.heap.size = nb at *
  obtain ⟨m0, M0⟩ : ∃ m0 : Im, Hid (m0 = ⟨m.nv, m.pv, m.pb, ns', m.ps, m.nx, m.ct⟩) := ⟨_, hide rfl⟩
  rw [← unhide M0] at S2
  have OK0 : Hid (∀ p ∈ m0.ps, POk m0.ns.length p.q ∧ VOk p.q) := hide (by rw [unhide M0]; simp only; rw [hl']; exact unhide OK)
  have E0 : Hid (⟨m.nv, m.pv, m.pb, ns', m.ps.map (goneP ns' x), m.nx, m.ct⟩ = m0.run (goneP m0.ns x) m0.ps.length) := hide (by rw [unhide M0]; simp only [Im.run, mapTo_all])
  have HNB := hide hnb
  clear OK M0 hl' hnb
  have c1 := (unhide S2).at_.c.2.1
  obtain ⟨a, pcap, ep, _, hpm, _⟩ := (unhide S2).at_.pts.parts
  rw [ep] at c1
  clear ep
  have hpb : m0.ps.length ≤ 9223372036854775807 := by unfold maxLen at hpm; omega
  generalize hpn : m0.ps.length = pn at *
  have HPN := hide hpn
  clear hpn
  go_wp2_with fail
  go_loopg [5, 6, 28] pn (fun gg _ _ s28 wr => ∃ kk : Nat, kk ≤ pn ∧ pn - kk ≤ gg ∧ s28 = .int .i64 kk ∧ Hid (ImTo w0 mb m wr (m0.run (goneP m0.ns x) kk)))
  case atStart => exact ⟨0, Nat.zero_le _, by omega, rfl, by rw [Im.run_zero]; exact S2⟩
  case round =>
    clear c1
    obtain ⟨kk, hkk, hgg, rfl, T⟩ := hrel
    by_cases hlt : kk < pn
    · have hltz : (kk : Int) < (pn : Int) := by omega
      have hk0 : kk < m0.ps.length := by rw [unhide HPN]; exact hlt
      have hk1 : kk < (m0.run (goneP m0.ns x) kk).ps.length := by rw [Im.run_len]; exact hk0
      have bx := hide ((unhide T).touch.keep (unhide BX) (unhide NR))
      have bc : wr.cell? ⟨nb, 0, none⟩ = some (.int .i64 (x : Int)) := cell_of (unhide bx) 0
      have c1 : wr.cell? ⟨mb, 1, none⟩ = some m0.pv := (unhide T).at_.c.2.1
      obtain ⟨pg, cp2, e2, _, _, hc, hcf⟩ := (unhide T).at_.pc hk1
      rw [Im.run_at _ _ _ hk0 hk1] at hc
      have PG : Hid ((m0.run (goneP m0.ns x) kk).pv = .slice (some ⟨pg, 0, none⟩) (m0.run (goneP m0.ns x) kk).ps.length cp2) := hide e2
      have e3 : m0.pv = .slice (some ⟨pg, 0, none⟩) pn cp2 := by rw [← unhide HPN, ← Im.run_len m0 (goneP m0.ns x) kk]; exact e2
      rw [e3] at c1
      have PI := hide ((unhide T).at_.each kk hk1)
      rw [Im.run_at _ _ _ hk0 hk1] at PI
      have HOK := hide (unhide OK0 _ (List.getElem_mem hk0))
      have RA := hide (Im.run_at m0 (goneP m0.ns x) kk hk0 hk1)
      have RP := hide (Im.run_put m0 (goneP m0.ns x) kk hk0)
      have RS := hide (Im.run_skip m0 (goneP m0.ns x) kk hk0)
      have HK1 := hide hk1
      clear e2 e3
      obtain ⟨p, HP⟩ : ∃ p, Hid (p = m0.ps[kk]) := ⟨_, hide rfl⟩
      rw [← unhide HP] at hc PI HOK RA RP RS
      clear HP
      obtain ⟨q, vi, vr, vt⟩ := p
      have d0 := hc 0 (by omega)
      have d2 := hc 2 (by omega)
      have d3 := hc 3 (by omega)
      simp only [pmC, List.getElem?_cons_zero, List.getElem?_cons_succ, Nat.add_zero] at d0 d2 d3
      have f2 := hcf (kk * 6 + 2)
      have f3 := hcf (kk * 6 + 3)
      have hcf2 := hcf
      clear hc hcf
      obtain ⟨va, vc, ev, via, _, hvm, _⟩ := (unhide PI).li.iat
      simp only at ev via
      have hll := (unhide PI).li.len
      simp only at hll
      rw [ev] at d3
      have KC : Hid (∀ W, Touch (fun _ => False) wr W → Calls Try.prog 29 #[.slice va q.is.length vc, .int .i64 (x : Int)] W fun e w' => e = .returned (.bool (q.is.contains (x : Int))) ∧ w' = W) := hide (fun W t => contains_any (c := vc) (x : Int) (via.keep t (fun _ _ _ h => h)) hll)
      have KT : Hid (∀ W, Touch (fun _ => False) wr W → Calls Try.prog 31 #[.slice va q.is.length vc, .func (.func 32) #[.pointer (some ⟨mb, 0, none⟩)] #[]] W fun e w' => e = .returned (.bool (q.is.any (thr m0.ns))) ∧ Touch (fun _ => False) W w') := hide (fun W t => containsF_any eg_there (via.keep t (fun _ _ _ h => h)) hll (tells_there ((unhide T).at_.quiet t) (unhide HOK).1.1))
      cases hcn : q.is.contains (x : Int) with
      | false =>
        have KS : Hid (ImTo w0 mb m wr (m0.run (goneP m0.ns x) (kk + 1))) := by
          have e5 : goneP m0.ns x ⟨q, vi, vr, vt⟩ = ⟨q, vi, vr, vt⟩ := by unfold goneP goneQ; simp only [hcn]; simp
          rw [← unhide RS e5]; exact T
        rw [hcn] at KC
        clear RP RS RA HOK PI PG HK1 via hll hvm ev T hk1 hk0 KT hcf2
        generalize q.is.length = il at *
        go_wp2_with fail
        go_quiet (first | (go_at_call 29; exact Calls.quiet_of_same (unhide KC _ (tdrew _ _))))
        go_wp2
        go_roundg (pn - (kk + 1))
        case measure => omega
        case rel => exact ⟨kk + 1, by omega, by omega, by go_num, hide ((unhide KS).quiet (tdrew _ _))⟩
      | true =>
        have hmem : (x : Int) ∈ q.is := by simpa using hcn
        obtain ⟨g, vc2, ev2⟩ := il_some (unhide PI).li hcn
        simp only at ev2
        have ev3 : va = some ⟨g, 0, none⟩ ∧ vc = vc2 := by rw [ev] at ev2; injection ev2 with q1 q2 q3; exact ⟨q1, q3⟩
        obtain ⟨rfl, rfl⟩ := ev3
        have hgp : (⟨q, vi, vr, vt⟩ : Pm).B g := by rw [ev]; exact .inl rfl
        have hpos : 0 ≤ q.ve ∧ q.ve ≤ 4611686018427387904 := (unhide HOK).2
        have KD : Hid (∀ W, Touch (fun _ => False) wr W → Calls Try.prog 33 #[.slice (some ⟨g, 0, none⟩) q.is.length vc, .func (.func 34) #[] #[.pointer (some ⟨nb, 0, none⟩)]] W fun e w' => e = .returned (.slice (some ⟨g, 0, none⟩) (without x q.is).length vc) ∧ IL w' (.slice (some ⟨g, 0, none⟩) (without x q.is).length vc) (without x q.is) ∧ Touch (· = g) W w') := hide (fun W t => by
          have hi := (unhide PI).li.keep t (fun _ _ h => h)
          simp only at hi
          rw [ev] at hi
          have hb := cell_of (t.keep (unhide bx) (fun h => h)) 0
          exact delete_any hi hb (fun e => by
            have h1 := (unhide T).at_.ii (i := kk) hk1 (k := g) (by rw [unhide RA]; exact hgp)
            have h2 := lt_of_heap (unhide BX)
            rcases (unhide T).moved g (.inr (.inr (.inr (.inr ⟨kk, hk1, by rw [unhide RA]; exact hgp⟩)))) with h3 | h3
            · rw [← e] at h3; exact unhide NR h3
            · omega))
        have pgb : m0.pv.ownBlock = some pg := by
          have h1 : (m0.run (goneP m0.ns x) kk).pv = m0.pv := rfl
          rw [← h1, unhide PG]; rfl
        have hpg := (unhide T).at_.pi (k := pg) pgb
        have hgl : g < wr.heap.size := (unhide T).at_.lt (.inr (.inr (.inr (.inr ⟨kk, hk1, by rw [unhide RA]; exact hgp⟩))))
        have hpgl : pg < wr.heap.size := (unhide T).at_.lt (.inr (.inr (.inr (.inl pgb))))
        have hne : pg ≠ g := fun e => hpg.2.2.2 kk hk1 (by rw [unhide RA, e]; exact hgp)
        have hnbl : nb < wr.heap.size := lt_of_cell bc
        have hnbg : nb ≠ g := fun e => by
          rcases (unhide T).moved g (.inr (.inr (.inr (.inr ⟨kk, hk1, by rw [unhide RA]; exact hgp⟩)))) with h3 | h3
          · rw [← e] at h3; exact unhide NR h3
          · have h2 := lt_of_heap (unhide BX); omega
        have KW : Hid (∀ W, Touch (fun _ => False) wr W → W.cell? ⟨pg, kk * 6 + 3, none⟩ = some (.slice (some ⟨g, 0, none⟩) q.is.length vc) ∧ W.cell? ⟨pg, kk * 6, none⟩ = some (.int .i64 q.ld) ∧ W.cell? ⟨nb, 0, none⟩ = some (.int .i64 (x : Int))) := hide (fun W t => by
          have e1 := t.block pg hpgl (fun h => h)
          have e2 := t.block nb hnbl (fun h => h)
          exact ⟨(World.cell?_of_block (a := ⟨pg, kk * 6 + 3, none⟩) e1).trans d3, (World.cell?_of_block (a := ⟨pg, kk * 6, none⟩) e1).trans d0, (World.cell?_of_block (a := ⟨nb, 0, none⟩) e2).trans bc⟩)
        have K3 : Hid (∀ W W3, Touch (fun _ => False) wr W → Touch (· = g) W W3 → IL W3 (.slice (some ⟨g, 0, none⟩) (without x q.is).length vc) (without x q.is) → (W3.cell? ⟨pg, kk * 6 + 3, none⟩ = some (.slice (some ⟨g, 0, none⟩) q.is.length vc) ∧ W3.cell? ⟨pg, kk * 6 + 2, none⟩ = some (.int .i64 q.ve) ∧ W3.cell? ⟨pg, kk * 6, none⟩ = some (.int .i64 q.ld) ∧ W3.cell? ⟨nb, 0, none⟩ = some (.int .i64 (x : Int)) ∧ ∀ j, W3.frozen? ⟨pg, j, none⟩ = false) ∧ Hid (ImTo w0 mb m ((W3.setCell ⟨pg, kk * 6 + 3, none⟩ (.slice (some ⟨g, 0, none⟩) (without x q.is).length vc)).setCell ⟨pg, kk * 6 + 2, none⟩ (.int .i64 (q.ve + 1))) ((m0.run (goneP m0.ns x) kk).put kk ⟨⟨q.ld, q.ep, q.ve + 1, without x q.is, q.rs, q.ts⟩, (.slice (some ⟨g, 0, none⟩) (without x q.is).length vc), vr, vt⟩))) := hide (fun W W3 t t3 il3 => by
          have e1 : W3.heap[pg]? = wr.heap[pg]? := by rw [t3.block pg (Nat.lt_of_lt_of_le hpgl t.size) hne, t.block pg hpgl (fun h => h)]
          have e2 : W3.heap[nb]? = wr.heap[nb]? := by rw [t3.block nb (Nat.lt_of_lt_of_le hnbl t.size) hnbg, t.block nb hnbl (fun h => h)]
          have hT := (unhide T).quiet t
          refine ⟨⟨(World.cell?_of_block (a := ⟨pg, kk * 6 + 3, none⟩) e1).trans d3, (World.cell?_of_block (a := ⟨pg, kk * 6 + 2, none⟩) e1).trans d2, (World.cell?_of_block (a := ⟨pg, kk * 6, none⟩) e1).trans d0, (World.cell?_of_block (a := ⟨nb, 0, none⟩) e2).trans bc, fun j => ?_⟩, hide (hT.trans (hT.at_.leave hk1 (unhide PG) (by rw [unhide RA, ev]) t3 il3))⟩
          have hfz := hcf2 j
          rw [← hfz]; unfold World.frozen?; rw [e1])
        have wv1 : wrap64 (q.ve + 1) = q.ve + 1 := wrap64_low (by omega) (by omega)
        have wv2 : IntKind.i64.wrap (q.ve + 1) = q.ve + 1 := wrap_low (by omega) (by omega)
        cases hany : q.is.any (thr m0.ns) with
        | false =>
          by_cases hld : q.ld = (x : Int)
          · have KE : Hid (∀ Z, Touch (fun _ => False) wr Z → Calls Try.prog 30 #[.pointer (some ⟨mb, 0, none⟩), .pointer (some ⟨pg, kk * 6, none⟩)] Z fun e w' => e = .returned (.tuple #[]) ∧ ImTo w0 mb m w' (m0.run (goneP m0.ns x) (kk + 1))) := hide (fun Z t => by
              refine (elect_any ((unhide T).at_.quiet t) hk1 (unhide PG) (unhide RA) (unhide HOK).1.1 (unhide HOK).1.2.1 (unhide HOK).1.2.2).mono ?_
              rintro e w2 ⟨rfl, t2⟩
              refine ⟨rfl, ?_⟩
              have t3 := ((unhide T).quiet t).trans t2
              have e5 : goneP m0.ns x ⟨q, vi, vr, vt⟩ = ⟨electQ m0.ns q, vi, vr, vt⟩ := by unfold goneP goneQ; simp [hmem, hany, hld]
              rw [← unhide RP, e5]
              exact t3)
            rw [hcn] at KC
            rw [hany] at KT
            clear hmem RP RS RA HOK PI PG HK1 via hll hvm ev ev2 T hk1 hk0 hcf2 hgp hpg hpgl hgl hne hnbl hnbg pgb K3 KD hpos wv1 wv2 d2 f2 f3 bx
            generalize q.is.length = il at *
            generalize q.ld = ld at *
            go_wp2_with fail
            go_quiet (first | (go_at_call 29; exact Calls.quiet_of_same (unhide KC _ (tdrew _ _))))
            go_wp2_with (go_at_call 31; refine (unhide KT _ (tdrew _ _)).mono ?_; rintro e W2 ⟨rfl, t2⟩; have T2 := hide ((tdrew wr _).trans t2); obtain ⟨q3, q0, qb⟩ := unhide KW W2 (unhide T2); clear t2)
            go_quiet (fail)
            go_wp2_with (go_at_call 30; refine (unhide KE _ ((unhide T2).trans (tdrew _ _))).mono ?_; rintro e W3 ⟨rfl, t3⟩; have T3 := hide t3; clear t3)
            go_roundg (pn - (kk + 1))
            case measure => omega
            case rel => exact ⟨kk + 1, by omega, by omega, by go_num, T3⟩
          · have KS : Hid (ImTo w0 mb m wr (m0.run (goneP m0.ns x) (kk + 1))) := by
              have e5 : goneP m0.ns x ⟨q, vi, vr, vt⟩ = ⟨q, vi, vr, vt⟩ := by unfold goneP goneQ; simp [hmem, hany, hld]
              rw [← unhide RS e5]; exact T
            rw [hcn] at KC
            rw [hany] at KT
            have hldb : (q.ld == (x : Int)) = false := by simp [hld]
            clear hmem RP RS RA HOK PI PG HK1 via hll hvm ev ev2 T hk1 hk0 hcf2 hgp hpg hpgl hgl hne hnbl hnbg pgb K3 KD hpos wv1 wv2 d2 f2 f3 bx
            generalize q.is.length = il at *
            generalize q.ld = ld at *
            go_wp2_with fail
            go_quiet (first | (go_at_call 29; exact Calls.quiet_of_same (unhide KC _ (tdrew _ _))))
            go_wp2_with (go_at_call 31; refine (unhide KT _ (tdrew _ _)).mono ?_; rintro e W2 ⟨rfl, t2⟩; have T2 := hide ((tdrew wr _).trans t2); obtain ⟨q3, q0, qb⟩ := unhide KW W2 (unhide T2); clear t2)
            go_quiet (fail)
            go_wp2
            go_roundg (pn - (kk + 1))
            case measure => omega
            case rel => exact ⟨kk + 1, by omega, by omega, by go_num, hide ((unhide KS).quiet ((unhide T2).trans (tdrew _ _)))⟩
        | true =>
          by_cases hld : q.ld = (x : Int)
          · have KE : Hid (∀ W3 : World, ImTo w0 mb m ((W3.setCell ⟨pg, kk * 6 + 3, none⟩ (.slice (some ⟨g, 0, none⟩) (without x q.is).length vc)).setCell ⟨pg, kk * 6 + 2, none⟩ (.int .i64 (q.ve + 1))) ((m0.run (goneP m0.ns x) kk).put kk ⟨⟨q.ld, q.ep, q.ve + 1, without x q.is, q.rs, q.ts⟩, (.slice (some ⟨g, 0, none⟩) (without x q.is).length vc), vr, vt⟩) → ∀ Z, Touch (fun _ => False) ((W3.setCell ⟨pg, kk * 6 + 3, none⟩ (.slice (some ⟨g, 0, none⟩) (without x q.is).length vc)).setCell ⟨pg, kk * 6 + 2, none⟩ (.int .i64 (q.ve + 1))) Z → Calls Try.prog 30 #[.pointer (some ⟨mb, 0, none⟩), .pointer (some ⟨pg, kk * 6, none⟩)] Z fun e w' => e = .returned (.tuple #[]) ∧ ImTo w0 mb m w' (m0.run (goneP m0.ns x) (kk + 1))) := hide (fun W3 h3 Z t => by
              refine (elect_any (h3.at_.quiet t) (i := kk) (g := pg) (cap := cp2) (by rw [Im.put_len]; exact hk1) (by rw [Im.put_len]; exact unhide PG) (Im.put_at _ _ _ _) (without_in (unhide HOK).1.1) (unhide HOK).1.2.1 (unhide HOK).1.2.2).mono ?_
              rintro e w2 ⟨rfl, t2⟩
              refine ⟨rfl, ?_⟩
              have t3 := (h3.quiet t).trans t2
              rw [Im.put_put] at t3
              have e5 : goneP m0.ns x ⟨q, vi, vr, vt⟩ = ⟨electQ m0.ns ⟨q.ld, q.ep, q.ve + 1, without x q.is, q.rs, q.ts⟩, (.slice (some ⟨g, 0, none⟩) (without x q.is).length vc), vr, vt⟩ := by unfold goneP goneQ; simp [hmem, hany, hld, ev, cutV]
              rw [← unhide RP, e5]
              exact t3)
            rw [hcn] at KC
            rw [hany] at KT
            clear hmem RP RS RA HOK PI PG HK1 via hll hvm ev ev2 T hk1 hk0 hcf2 hgp hpg hpgl hgl hne hnbl hnbg pgb hpos bx
            generalize hil : q.is.length = il at *
            generalize hwl : (without x q.is).length = wn at *
            generalize hlq : q.ld = ld at *
            generalize hvq : q.ve = qv at *
            clear hil hwl hlq hvq
            go_wp2_with fail
            go_quiet (first | (go_at_call 29; exact Calls.quiet_of_same (unhide KC _ (tdrew _ _))))
            go_upto_region 12 with (first
              | (go_at_call 31; refine (unhide KT _ (tdrew _ _)).mono ?_; rintro e W2 ⟨rfl, t2⟩; have T2 := hide ((tdrew wr _).trans t2); obtain ⟨q3, q0, qb⟩ := unhide KW W2 (unhide T2); clear t2)
              | (go_at_call 33; refine (unhide KD W2 (unhide T2)).mono ?_; rintro e W3 ⟨rfl, i3, t3⟩; obtain ⟨⟨z3, z2, z0, zb, zf⟩, S3⟩ := unhide K3 W2 W3 (unhide T2) t3 i3; have zf3 := zf (kk * 6 + 3); have zf2 := zf (kk * 6 + 2); clear i3 t3 zf))
            go_quiet (fail)
            go_wp2_with (go_at_call 30; refine (unhide KE W3 (unhide S3) _ (tdrew _ _)).mono ?_; rintro e W4 ⟨rfl, t4⟩; have T4 := hide t4; clear t4)
            go_roundg (pn - (kk + 1))
            case measure => omega
            case rel => exact ⟨kk + 1, by omega, by omega, by go_num, T4⟩
          · have KS : Hid (∀ W3 : World, ImTo w0 mb m ((W3.setCell ⟨pg, kk * 6 + 3, none⟩ (.slice (some ⟨g, 0, none⟩) (without x q.is).length vc)).setCell ⟨pg, kk * 6 + 2, none⟩ (.int .i64 (q.ve + 1))) ((m0.run (goneP m0.ns x) kk).put kk ⟨⟨q.ld, q.ep, q.ve + 1, without x q.is, q.rs, q.ts⟩, (.slice (some ⟨g, 0, none⟩) (without x q.is).length vc), vr, vt⟩) → ImTo w0 mb m ((W3.setCell ⟨pg, kk * 6 + 3, none⟩ (.slice (some ⟨g, 0, none⟩) (without x q.is).length vc)).setCell ⟨pg, kk * 6 + 2, none⟩ (.int .i64 (q.ve + 1))) (m0.run (goneP m0.ns x) (kk + 1))) := hide (fun W3 h3 => by
              have e5 : goneP m0.ns x ⟨q, vi, vr, vt⟩ = ⟨⟨q.ld, q.ep, q.ve + 1, without x q.is, q.rs, q.ts⟩, (.slice (some ⟨g, 0, none⟩) (without x q.is).length vc), vr, vt⟩ := by unfold goneP goneQ; simp [hmem, hany, hld, ev, cutV]
              rw [← unhide RP, e5]
              exact h3)
            rw [hcn] at KC
            rw [hany] at KT
            have hldb : (q.ld == (x : Int)) = false := by simp [hld]
            clear hmem RP RS RA HOK PI PG HK1 via hll hvm ev ev2 T hk1 hk0 hcf2 hgp hpg hpgl hgl hne hnbl hnbg pgb hpos bx
            generalize hil : q.is.length = il at *
            generalize hwl : (without x q.is).length = wn at *
            generalize hlq : q.ld = ld at *
            generalize hvq : q.ve = qv at *
            clear hil hwl hlq hvq
            go_wp2_with fail
            go_quiet (first | (go_at_call 29; exact Calls.quiet_of_same (unhide KC _ (tdrew _ _))))
            go_upto_region 12 with (first
              | (go_at_call 31; refine (unhide KT _ (tdrew _ _)).mono ?_; rintro e W2 ⟨rfl, t2⟩; have T2 := hide ((tdrew wr _).trans t2); obtain ⟨q3, q0, qb⟩ := unhide KW W2 (unhide T2); clear t2)
              | (go_at_call 33; refine (unhide KD W2 (unhide T2)).mono ?_; rintro e W3 ⟨rfl, i3, t3⟩; obtain ⟨⟨z3, z2, z0, zb, zf⟩, S3⟩ := unhide K3 W2 W3 (unhide T2) t3 i3; have zf3 := zf (kk * 6 + 3); have zf2 := zf (kk * 6 + 2); clear i3 t3 zf))
            go_quiet (fail)
            go_wp2
            go_roundg (pn - (kk + 1))
            case measure => omega
            case rel => exact ⟨kk + 1, by omega, by omega, by go_num, hide ((unhide KS W3 (unhide S3)).quiet (tdrew _ _))⟩
    · have hltz : ¬ (kk : Int) < (pn : Int) := by omega
      have e : kk = pn := by omega
      subst e
      go_wp2
      go_ret
      rw [unhide E0]
      refine ⟨rfl, ImTo.after (by rw [unhide HNB]; exact unhide B0) (unhide T)⟩
end
end Go.Proofs.Ythaedepnglincaa
