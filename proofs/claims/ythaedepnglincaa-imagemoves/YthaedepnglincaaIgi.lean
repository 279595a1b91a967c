/-
  setIsr: who is in sync. Conditions: as endMove's.
-/
import Derived.Test.YthaedepnglincaaIgf
import Derived.Test.YthaedepnglincaaIgg
import Derived.Test.YthaedepnglincaaIga
namespace Go.Proofs.Ythaedepnglincaa
open Go.RowKit Go.Maps
set_option linter.unusedVariables false

section
variable {w w' : World} {mb : Nat} {m : Im}
theorem eg_barred : ∀ args w, (callFunc 35 args).run Try.prog w = .ok (.enter 35 args) w := enters_of Try.func35 (by kernel_rfl) rfl
def barr (ns : List Nd) (q : Pt) (y : Int) : Bool := !mayQ ns q y
theorem tells_barred {W : World} (h : ImAt W mb m) {i pg cap b1 b3 : Nat} (hi : i < m.ps.length) (hg : m.pv = .slice (some ⟨pg, 0, none⟩) m.ps.length cap) {q : Pt} {vi vr vt : Value} (hp : m.ps[i] = ⟨q, vi, vr, vt⟩) (h1 : W.cell? ⟨b1, 0, none⟩ = some (.pointer (some ⟨mb, 0, none⟩))) (h3 : W.cell? ⟨b3, 0, none⟩ = some (.pointer (some ⟨pg, i * 6, none⟩))) {l : List Int} (hl : inN m.ns.length l) :
    Tells W 35 #[] #[.pointer (some ⟨b1, 0, none⟩), .pointer (some ⟨b3, 0, none⟩)] l (barr m.ns q) := by
  intro x hx Z t
  have h1' := (World.cell?_of_block (a := ⟨b1, 0, none⟩) (t.block b1 (lt_of_cell h1) (fun h => h))).trans h1
  have h3' := (World.cell?_of_block (a := ⟨b3, 0, none⟩) (t.block b3 (lt_of_cell h3) (fun h => h))).trans h3
  have K := hide (maySync_any (h.quiet t) hi hg hp (hl x hx))
  show Calls Try.prog 35 #[.int .i64 x, .pointer (some ⟨b1, 0, none⟩), .pointer (some ⟨b3, 0, none⟩)] Z _
  unfold barr
  clear h h1 h3 hi hg hp hl hx t
  generalize mayQ m.ns q x = r at *
  go_enter Try.func35, Try.ntmps35
  go_wp2_with (go_at_call 36; refine (unhide K).mono ?_; rintro e w' ⟨rfl, t2⟩)
  go_ret
  exact ⟨by simp, t2⟩
def isrQ (ns : List Nd) (q : Pt) (l : List Int) : Pt := endQ ns ⟨q.ld, q.ep, q.ve + 1, l, q.rs, q.ts⟩
/-- What setIsr answers. -/
def SetP (w : World) (mb : Nat) (m : Im) (i : Nat) (q : Pt) (nd ep ve : Int) (l : List Int) (v : Value) (w' : World) : Prop :=
  (¬ (q.ld = nd ∧ q.ep = ep ∧ q.ve = ve) → v = .int .i64 12 ∧ ImTo w mb m w' m) ∧
  ((q.ld = nd ∧ q.ep = ep ∧ q.ve = ve) → ¬ (l.contains nd = true ∧ l.any (barr m.ns q) = false) → v = .int .i64 5 ∧ ImTo w mb m w' m) ∧
  ((q.ld = nd ∧ q.ep = ep ∧ q.ve = ve) → l.contains nd = true → l.any (barr m.ns q) = false → v = .int .i64 0 ∧ ∃ ui ur ut, ImTo w mb m w' (m.put i ⟨isrQ m.ns q l, ui, ur, ut⟩))
set_option maxHeartbeats 4000000 in
theorem setIsr_any (h : ImAt w mb m) {i pg cap : Nat} (hi : i < m.ps.length) (hg : m.pv = .slice (some ⟨pg, 0, none⟩) m.ps.length cap) {q : Pt} {vi vr vt : Value} (hp : m.ps[i] = ⟨q, vi, vr, vt⟩) {kd nd ep ve : Int} {a : Option Addr} {k : Nat} {l : List Int} (hl : IAt w a l) (hl5 : l.length ≤ 1000000) (hin : inN m.ns.length l) (hit : inN m.ns.length q.ts) (hts : q.ts.length ≤ 1000000) (hpo : (0 ≤ q.ep ∧ q.ep ≤ 4611686018427387904) ∧ 0 ≤ q.ve ∧ q.ve + 1 ≤ 4611686018427387904) :
    Calls Try.prog 19 #[.pointer (some ⟨mb, 0, none⟩), .agg #[.int .i64 kd, .int .i64 nd, .int .i64 (i : Int), .int .i64 ep, .int .i64 ve, .slice a l.length k]] w fun e w' => ∃ v, e = .returned v ∧ SetP w mb m i q nd ep ve l v w' := by
  have b1 := (Below.refl w.heap.size w).alloc (Nat.le_refl _) (.cells #[.pointer (some ⟨mb, 0, none⟩)] 23)
  have b2 := b1.alloc b1.size (.cells #[.int .i64 kd, .int .i64 nd, .int .i64 (i : Int), .int .i64 ep, .int .i64 ve, .slice a l.length k] 33)
  have b3 := b2.alloc b2.size (.cells #[.pointer (some ⟨pg, i * 6, none⟩)] 58)
  have b3n := b2.alloc b2.size (.cells #[.pointer none] 58)
  have h2 := h.later b2
  have h3 := h.later b3
  have h3n := h.later b3n
  obtain ⟨_, c1, _⟩ := h2.c
  obtain ⟨_, c1n, _⟩ := h3n.c
  rw [hg] at c1 c1n
  have hbig : m.ps.length ≤ 9223372036854775807 := by
    obtain ⟨g', cap', e', q1, q2, _⟩ := h2.pc hi
    unfold maxLen at q2
    omega
  have hiz : (i : Int) < (m.ps.length : Int) := by omega
  have X1 : Hid ((((w.alloc (.cells #[.pointer (some ⟨mb, 0, none⟩)] 23)).alloc (.cells #[.int .i64 kd, .int .i64 nd, .int .i64 (i : Int), .int .i64 ep, .int .i64 ve, .slice a l.length k] 33)).alloc (.cells #[.pointer (some ⟨pg, i * 6, none⟩)] 58)).heap[w.heap.size]? = some (.cells #[.pointer (some ⟨mb, 0, none⟩)] 23)) := hide (heap_old _ (heap_old _ (heap_new _ _)))
  have X2 : Hid ((((w.alloc (.cells #[.pointer (some ⟨mb, 0, none⟩)] 23)).alloc (.cells #[.int .i64 kd, .int .i64 nd, .int .i64 (i : Int), .int .i64 ep, .int .i64 ve, .slice a l.length k] 33)).alloc (.cells #[.pointer (some ⟨pg, i * 6, none⟩)] 58)).heap[w.heap.size + 1]? = some (.cells #[.int .i64 kd, .int .i64 nd, .int .i64 (i : Int), .int .i64 ep, .int .i64 ve, .slice a l.length k] 33)) := hide (heap_old _ (by have := heap_new (w.alloc (.cells #[.pointer (some ⟨mb, 0, none⟩)] 23)) (.cells #[.int .i64 kd, .int .i64 nd, .int .i64 (i : Int), .int .i64 ep, .int .i64 ve, .slice a l.length k] 33); simpa using this))
  have X3 : Hid ((((w.alloc (.cells #[.pointer (some ⟨mb, 0, none⟩)] 23)).alloc (.cells #[.int .i64 kd, .int .i64 nd, .int .i64 (i : Int), .int .i64 ep, .int .i64 ve, .slice a l.length k] 33)).alloc (.cells #[.pointer (some ⟨pg, i * 6, none⟩)] 58)).heap[w.heap.size + 1 + 1]? = some (.cells #[.pointer (some ⟨pg, i * 6, none⟩)] 58)) := hide (by have := heap_new ((w.alloc (.cells #[.pointer (some ⟨mb, 0, none⟩)] 23)).alloc (.cells #[.int .i64 kd, .int .i64 nd, .int .i64 (i : Int), .int .i64 ep, .int .i64 ve, .slice a l.length k] 33)) (.cells #[.pointer (some ⟨pg, i * 6, none⟩)] 58); simpa using this)
  have H3 := hide h3
  have H0' := hide h
  have B3' := hide b3
  have HL := hide (hl.later b3)
  have HI := hide hi
  have HG := hide hg
  have HIN := hide hin
  have HIT := hide hit
  have HTS := hide hts
  have HPO := hide hpo
  have HL5 := hide hl5
  clear h h2 h3 h3n hg hl hin hit hts hl5 b1 b2 b3 b3n hpo
  obtain ⟨pn, hpn⟩ : ∃ pn, m.ps.length = pn := ⟨_, rfl⟩
  rw [hpn] at c1 c1n hbig hiz
  have HPN := hide hpn
  clear hpn
  generalize hll : l.length = ll at *
  have HLL := hide hll
  clear hll
  go_enter Try.func19, Try.ntmps19
  go_wp2_with fail
  go_region
  generalize ((w.alloc (.cells #[.pointer (some ⟨mb, 0, none⟩)] 23)).alloc (.cells #[.int .i64 kd, .int .i64 nd, .int .i64 (i : Int), .int .i64 ep, .int .i64 ve, .slice a ll k] 33)).alloc (.cells #[.pointer (some ⟨pg, i * 6, none⟩)] 58) = Y0 at *
  clear c1 c1n
  have U0 : Hid (ImTo w mb m Y0 m) := hide (ImTo.after (unhide B3') (ImTo.refl (unhide H3)))
  obtain ⟨pg', cap', e', _, _, hc, hf⟩ := (unhide H3).pc hi
  rw [unhide HG] at e'
  cases e'
  rw [hp] at hc
  have d0 := hc 0 (by omega)
  have d1 := hc 1 (by omega)
  have d2 := hc 2 (by omega)
  have d3 := hc 3 (by omega)
  simp only [pmC, List.getElem?_cons_zero, List.getElem?_cons_succ, Nat.add_zero] at d0 d1 d2 d3
  have m0 := cell_of (unhide X1) 0
  have z1 := cell_of (unhide X2) 1
  have z3 := cell_of (unhide X2) 3
  have z4 := cell_of (unhide X2) 4
  have z5 := cell_of (unhide X2) 5
  have p0 := cell_of (unhide X3) 0
  simp at m0 z1 z3 z4 z5 p0
  have HP := hide hp
  have KL : Hid (∀ W, Touch (fun _ => False) Y0 W → Calls Try.prog 29 #[.slice a ll k, .int .i64 nd] W fun e w' => e = .returned (.bool (l.contains nd)) ∧ w' = W) := hide (fun W t => by
    have := contains_any (c := k) nd ((unhide HL).keep t (fun _ _ _ h => h)) (by have h5 := unhide HL5; have hq := unhide HLL; unfold maxLen; omega)
    rw [unhide HLL] at this
    exact this)
  have KB : Hid (∀ W, Touch (fun _ => False) Y0 W → Calls Try.prog 31 #[.slice a ll k, .func (.func 35) #[] #[.pointer (some ⟨w.heap.size, 0, none⟩), .pointer (some ⟨w.heap.size + 1 + 1, 0, none⟩)]] W fun e w' => e = .returned (.bool (l.any (barr m.ns q))) ∧ Touch (fun _ => False) W w') := hide (fun W t => by
    have e1 := (World.cell?_of_block (a := ⟨w.heap.size, 0, none⟩) (t.block w.heap.size (lt_of_cell m0) (fun h => h))).trans m0
    have e3 := (World.cell?_of_block (a := ⟨w.heap.size + 1 + 1, 0, none⟩) (t.block _ (lt_of_cell p0) (fun h => h))).trans p0
    have := containsF_any (c := k) eg_barred ((unhide HL).keep t (fun _ _ _ h => h)) (by have h5 := unhide HL5; have hq := unhide HLL; unfold maxLen; omega) (tells_barred ((unhide H3).quiet t) hi (unhide HG) (unhide HP) e1 e3 (unhide HIN))
    rw [unhide HLL] at this
    exact this)
  have KN : Hid (∀ W, Touch (fun _ => False) Y0 W → ImTo w mb m W m) := hide (fun W t => (unhide U0).quiet t)
  by_cases h1 : q.ld = nd
  · by_cases h2 : q.ep = ep
    · by_cases h3 : q.ve = ve
      · subst h1 h2 h3
        have SB : Hid (¬ (l.contains q.ld = true ∧ l.any (barr m.ns q) = false) → ∀ W, Touch (fun _ => False) Y0 W → SetP w mb m i q q.ld q.ep q.ve l (.int .i64 5) W) := hide (fun hb W t => ⟨fun hh => absurd ⟨rfl, rfl, rfl⟩ hh, fun _ _ => ⟨rfl, unhide KN W t⟩, fun _ g1 g2 => absurd ⟨g1, g2⟩ hb⟩)
        have hpgw : pg < Y0.heap.size := lt_of_cell d0
        have KC : Hid (∀ U W, Touch (fun _ => False) Y0 U → Below U.heap.size U W → Calls Try.prog 23 #[.slice a ll k] W fun e w' => ∃ a3 k3, e = .returned (.slice a3 ll k3) ∧ (w'.cell? ⟨w.heap.size, 0, none⟩ = some (.pointer (some ⟨mb, 0, none⟩)) ∧ w'.cell? ⟨w.heap.size + 1 + 1, 0, none⟩ = some (.pointer (some ⟨pg, i * 6, none⟩)) ∧ w'.cell? ⟨pg, i * 6 + 3, none⟩ = some vi ∧ w'.cell? ⟨pg, i * 6 + 2, none⟩ = some (.int .i64 q.ve) ∧ ∀ j, w'.frozen? ⟨pg, j, none⟩ = false) ∧ Hid (ImTo w mb m (w'.setCell ⟨pg, i * 6 + 3, none⟩ (.slice a3 ll k3)) (m.put i ⟨⟨q.ld, q.ep, q.ve, l, q.rs, q.ts⟩, .slice a3 ll k3, vr, vt⟩))) := hide (fun U W tU hb => by
          have tW : Touch (fun _ => False) Y0 W := tU.trans (Touch.of_below hb)
          have K := clonei_any (c := k) ((unhide HL).keep tW (fun _ _ _ h => h)) (by have h5 := unhide HL5; have hq := unhide HLL; omega) (fun e => by
            cases hts : l with
            | nil => rfl
            | cons y r => exfalso; obtain ⟨b, off, e2, _⟩ := (unhide HL) 0 (by rw [hts]; simp); rw [e] at e2; cases e2)
          rw [unhide HLL] at K
          refine K.mono ?_
          rintro e w' ⟨v, rfl, j1, j2, j3⟩
          obtain ⟨a3, k3, e3, _⟩ := j1.iat
          rw [unhide HLL] at e3
          subst e3
          have tw' : Touch (fun _ => False) Y0 w' := tW.trans (Touch.of_below j3)
          have bW : Below w.heap.size w w' := below_touch (unhide B3') tw' (unhide B3').size (fun _ h => h.elim)
          have eb := tw'.block pg hpgw (fun h => h)
          have hw0 : ImAt w mb m := unhide H0'
          have sW : w.heap.size ≤ W.heap.size := Nat.le_trans (unhide B3').size tW.size
          refine ⟨a3, k3, rfl, ⟨(World.cell?_of_block (a := ⟨w.heap.size, 0, none⟩) (tw'.block _ (lt_of_cell m0) (fun h => h))).trans m0, (World.cell?_of_block (a := ⟨w.heap.size + 1 + 1, 0, none⟩) (tw'.block _ (lt_of_cell p0) (fun h => h))).trans p0, (World.cell?_of_block (a := ⟨pg, i * 6 + 3, none⟩) eb).trans d3, (World.cell?_of_block (a := ⟨pg, i * 6 + 2, none⟩) eb).trans d2, fun j => by rw [← hf j]; unfold World.frozen?; rw [eb]⟩, hide ?_⟩
          have hap : ∀ v0 : Value, (∀ k, v0.ownBlock = some k → (m.ps[i]'hi).B k) → ∀ k', (Value.slice a3 ll k3).ownBlock = some k' → v0.ownBlock ≠ some k' := fun v0 h0 k' h1 h2 => by
            have := j2 k' h1
            have := hw0.lt (k := k') (.inr (.inr (.inr (.inr ⟨i, hi, h0 k' h2⟩))))
            omega
          refine hw0.laid hi (unhide HG) (f := 3) (l := l) ⟨⟨q.ld, q.ep, q.ve, l, q.rs, q.ts⟩, .slice a3 ll k3, vr, vt⟩ (by omega) (by rw [hp]; rfl) bW j1 (j2.mono sW) (fun Z hP hI => ?_) (fun k hk => ?_)
          · rw [hp] at hP
            exact ⟨hI, hP.lr, hP.lt, fun k' h1 => hap vr (fun k hk => by rw [hp]; exact .inr (.inl hk)) k' h1, fun k' h1 => hap vt (fun k hk => by rw [hp]; exact .inr (.inr hk)) k' h1, hP.rt⟩
          · rw [hp]
            rcases hk with e | e | e
            · exact .inr e
            · exact .inl (.inr (.inl e))
            · exact .inl (.inr (.inr e)))
        cases hcn : l.contains q.ld with
        | false =>
          have SB2 := hide (unhide SB (by rw [hcn]; simp))
          rw [hcn] at KL
          clear KB KC SB U0 hc hf d3 hp hi HP H0'
          generalize hA0 : q.ld = A0 at *
          generalize hA1 : q.ep = A1 at *
          generalize hA2 : q.ve = A2 at *
          have HA0 := hide hA0
          have HA1 := hide hA1
          have HA2 := hide hA2
          clear hA0 hA1 hA2
          go_wp2_with fail
          go_quiet (fail)
          go_wp2_with (go_at_call 29; refine (unhide KL _ (tdrew _ _)).mono ?_; rintro e W5 ⟨rfl, rfl⟩)
          go_returns
          obtain rfl := unhide HA0
          obtain rfl := unhide HA1
          obtain rfl := unhide HA2
          exact ⟨_, rfl, unhide SB2 _ (tdrew _ _)⟩
        | true =>
          rw [hcn] at KL
          cases hba : l.any (barr m.ns q) with
          | true =>
            have SB2 := hide (unhide SB (by rw [hba]; simp))
            rw [hba] at KB
            clear KC SB U0 hc hf d3 hp hi HP H0'
            generalize hA0 : q.ld = A0 at *
            generalize hA1 : q.ep = A1 at *
            generalize hA2 : q.ve = A2 at *
            have HA0 := hide hA0
            have HA1 := hide hA1
            have HA2 := hide hA2
            clear hA0 hA1 hA2
            go_wp2_with fail
            go_quiet (fail)
            go_wp2_with (first
              | (go_at_call 29; refine (unhide KL _ (tdrew _ _)).mono ?_; rintro e W5 ⟨rfl, rfl⟩)
              | (go_at_call 31; refine (unhide KB _ (tdrew _ _)).mono ?_; rintro e W6 ⟨rfl, t6⟩; have T6 := hide ((tdrew Y0 _).trans t6); clear t6))
            go_returns
            obtain rfl := unhide HA0
            obtain rfl := unhide HA1
            obtain rfl := unhide HA2
            exact ⟨_, rfl, unhide SB2 _ (unhide T6)⟩
          | false =>
            rw [hba] at KB
            have KM : Hid (∀ (W : World) (a3 : Option Addr) (k3 : Nat), ImTo w mb m W (m.put i ⟨⟨q.ld, q.ep, q.ve + 1, l, q.rs, q.ts⟩, .slice a3 ll k3, vr, vt⟩) → Calls Try.prog 37 #[.pointer (some ⟨mb, 0, none⟩), .pointer (some ⟨pg, i * 6, none⟩)] W fun e w' => e = .returned (.tuple #[]) ∧ SetP w mb m i q q.ld q.ep q.ve l (.int .i64 0) w') := hide (fun W a3 k3 hW => by
              refine (endMove_any hW.at_ (i := i) (pg := pg) (cap := cap) (by rw [Im.put_len]; exact hi) (by rw [Im.put_len]; exact unhide HG) (Im.put_at _ _ _ _) (unhide HIT) ⟨(unhide HPO).1, by have := (unhide HPO).2; show 0 ≤ q.ve + 1 ∧ q.ve + 1 ≤ _; omega⟩ (unhide HTS)).mono ?_
              rintro e w' ⟨rfl, vi', vr', vt', t2⟩
              have t3 := hW.trans t2
              rw [Im.put_put] at t3
              exact ⟨rfl, fun hh => absurd ⟨rfl, rfl, rfl⟩ hh, fun _ hh => absurd ⟨hcn, hba⟩ hh, fun _ _ _ => ⟨rfl, vi', vr', vt', t3⟩⟩)
            have KS : Hid (∀ (W : World) (a3 : Option Addr) (k3 : Nat), ImTo w mb m W (m.put i ⟨⟨q.ld, q.ep, q.ve, l, q.rs, q.ts⟩, .slice a3 ll k3, vr, vt⟩) → ImTo w mb m (W.setCell ⟨pg, i * 6 + 2, none⟩ (.int .i64 (q.ve + 1))) (m.put i ⟨⟨q.ld, q.ep, q.ve + 1, l, q.rs, q.ts⟩, .slice a3 ll k3, vr, vt⟩)) := hide (fun W a3 k3 hW => by
              have st := hW.at_.st (p' := ⟨⟨q.ld, q.ep, q.ve + 1, l, q.rs, q.ts⟩, .slice a3 ll k3, vr, vt⟩) (i := i) (g := pg) (cap := cap) (by rw [Im.put_len]; exact hi) (by rw [Im.put_len]; exact unhide HG) (f := 2) (o := i * 6 + 2) (by omega) rfl (.int .i64 (q.ve + 1)) (by rw [Im.put_at]; rfl) (by rw [Im.put_at]; exact ⟨rfl, rfl, rfl, rfl, rfl, rfl⟩)
              rw [Im.put_put] at st
              exact hW.trans st)
            have hpo2 := (unhide HPO).2
            have wv1 : wrap64 (q.ve + 1) = q.ve + 1 := wrap64_low (by omega) (by omega)
            have wv2 : IntKind.i64.wrap (q.ve + 1) = q.ve + 1 := wrap_low (by omega) (by omega)
            clear SB U0 hc hf d3 hp hi HP H0' hpo2 hcn hba
            generalize hA0 : q.ld = A0 at *
            generalize hA1 : q.ep = A1 at *
            generalize hA2 : q.ve = A2 at *
            have HA0 := hide hA0
            have HA1 := hide hA1
            have HA2 := hide hA2
            clear hA0 hA1 hA2
            go_wp2_with fail
            go_quiet (fail)
            go_upto_region 7 with (first
              | (go_at_call 29; refine (unhide KL _ (tdrew _ _)).mono ?_; rintro e W5 ⟨rfl, rfl⟩)
              | (go_at_call 31; refine (unhide KB _ (tdrew _ _)).mono ?_; rintro e W6 ⟨rfl, t6⟩; have T6 := hide ((tdrew Y0 _).trans t6); clear t6))
            have e6 := (World.cell?_of_block (a := ⟨w.heap.size + 1, 5, none⟩) ((unhide T6).block _ (lt_of_cell z5) (fun h => h))).trans z5
            have p6 := (World.cell?_of_block (a := ⟨w.heap.size + 1 + 1, 0, none⟩) ((unhide T6).block _ (lt_of_cell p0) (fun h => h))).trans p0
            go_region_law (go_simp; go_at_call 23; refine (unhide KC W6 _ (unhide T6) (by first | exact Below.refl _ _ | exact Below.drew (Below.refl _ _) | exact below_drewN' (Below.refl _ _) _)).mono ?_; rintro e w8 ⟨a3, k3, rfl, ⟨r0, rp, r3, r2, rf⟩, S8⟩; have rf3 := rf (i * 6 + 3); have rf2 := rf (i * 6 + 2); clear rf)
            all_goals
              have KM2 := hide (unhide KM _ a3 k3 (unhide KS _ a3 k3 (unhide S8)))
              go_wp2_with (go_at_call 37; refine (unhide KM2).mono ?_; rintro e w9 ⟨rfl, t9⟩; have T9 := hide t9; clear t9)
              go_returns
              obtain rfl := unhide HA0
              obtain rfl := unhide HA1
              obtain rfl := unhide HA2
              exact ⟨_, rfl, unhide T9⟩
      · have h1b : (q.ld != nd) = false := by simp [h1]
        have h2b : (q.ep != ep) = false := by simp [h2]
        have h3b : (q.ve != ve) = true := by simp [h3]
        have SP : Hid (∀ W, Touch (fun _ => False) Y0 W → SetP w mb m i q nd ep ve l (.int .i64 12) W) := hide (fun W t => ⟨fun _ => ⟨rfl, unhide KN W t⟩, fun h => absurd h.2.2 h3, fun h => absurd h.2.2 h3⟩)
        clear KL KB U0 hc hf d3 hp hi HP h1 h2 h3
        generalize q.ld = A0 at *
        generalize q.ep = A1 at *
        generalize q.ve = A2 at *
        go_wp2_with fail
        go_quiet (fail)
        go_wp2
        go_returns
        exact ⟨_, rfl, unhide SP _ (((Touch.refl _ _).drew).trans (tdrew _ _))⟩
    · have h1b : (q.ld != nd) = false := by simp [h1]
      have h2b : (q.ep != ep) = true := by simp [h2]
      have SP : Hid (∀ W, Touch (fun _ => False) Y0 W → SetP w mb m i q nd ep ve l (.int .i64 12) W) := hide (fun W t => ⟨fun _ => ⟨rfl, unhide KN W t⟩, fun h => absurd h.2.1 h2, fun h => absurd h.2.1 h2⟩)
      clear KL KB U0 hc hf d3 hp hi HP h1 h2
      generalize q.ld = A0 at *
      generalize q.ep = A1 at *
      generalize q.ve = A2 at *
      go_wp2_with fail
      go_quiet (fail)
      go_wp2
      go_returns
      exact ⟨_, rfl, unhide SP _ (((Touch.refl _ _).drew).trans (tdrew _ _))⟩
  · have h1b : (q.ld != nd) = true := by simp [h1]
    have SP : Hid (∀ W, Touch (fun _ => False) Y0 W → SetP w mb m i q nd ep ve l (.int .i64 12) W) := hide (fun W t => ⟨fun _ => ⟨rfl, unhide KN W t⟩, fun h => absurd h.1 h1, fun h => absurd h.1 h1⟩)
    clear KL KB U0 hc hf d3 hp hi HP h1
    generalize q.ld = A0 at *
    generalize q.ep = A1 at *
    generalize q.ve = A2 at *
    go_wp2_with fail
    go_quiet (fail)
    go_wp2
    go_returns
    exact ⟨_, rfl, unhide SP _ (((Touch.refl _ _).drew).trans (tdrew _ _))⟩
end
end Go.Proofs.Ythaedepnglincaa
