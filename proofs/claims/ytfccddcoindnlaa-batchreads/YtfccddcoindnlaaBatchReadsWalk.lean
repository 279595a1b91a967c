/-
  BatchReads answers true. Conditions: lengths as memory allows them.
-/
import Derived.Test.YtfccddcoindnlaaBatchBackWalk
import Derived.Test.YtfccddcoindnlaaDd8
namespace Go.Proofs.Ytfccddcoindnlaa
open Go.RowKit
set_option linter.unusedVariables false

/-- The rows of a list, whatever they hold by now. -/
structure SpL (w0 w : World) (v : Value) (vs : List Value) : Prop where
  own : Own w 26 v vs
  each : ∀ u ∈ vs, (∃ l, Row w u l) ∧ New w0 u
theorem SpL.of {w0 w : World} {v : Value} {vs : List Value} {ls : List (List Nat)} (h : Spine (Mine4 w0 w) w v vs ls) : SpL w0 w v vs := by
  refine ⟨h.own, fun u hu => ?_⟩
  obtain ⟨i, hi, e⟩ := List.getElem_of_mem hu
  obtain ⟨u', h1, h2⟩ := h.each i (by rw [← h.len]; exact hi)
  have : u' = u := by rw [List.getElem?_eq_getElem hi, e] at h1; exact (Option.some.inj h1).symm
  subst this
  exact ⟨⟨_, h2.1⟩, h2.2⟩
theorem SpL.later {w0 w w' : World} {v : Value} {vs : List Value} (h : SpL w0 w v vs) (hb : Below w.heap.size w w') : SpL w0 w' v vs :=
  ⟨h.own.later hb, fun u hu => by obtain ⟨⟨l, r⟩, n⟩ := h.each u hu; exact ⟨⟨l, r.later hb⟩, n⟩⟩
theorem SpL.drewN {w0 w : World} {v : Value} {vs : List Value} (h : SpL w0 w v vs) (n : Nat) : SpL w0 (w.drewN n) v vs := h.later ⟨rfl, rfl, rfl, Nat.le_refl _, fun _ _ => rfl⟩
/-- A byte is laid into one of the rows. -/
theorem SpL.set {w0 w : World} {v : Value} {vs : List Value} (h : SpL w0 w v vs) {g n c : Nat} (hu : Value.slice (some ⟨g, 0, none⟩) n c ∈ vs) (i : Nat) : SpL w0 (w.setCell ⟨g, i, none⟩ (.int .u8 1)) v vs := by
  obtain ⟨⟨l, r⟩, hn⟩ := h.each _ hu
  refine ⟨h.own.keep (touch_set w g i _) (fun k hk e => ?_), fun u hu' => ?_⟩
  · subst e; exact Spine.apart h.own r k rfl hk
  · obtain ⟨⟨l', r'⟩, hn'⟩ := h.each u hu'
    refine ⟨?_, hn'⟩
    by_cases hg : u.ownBlock = some g
    · obtain ⟨a', cap', e, _, _, _, _, ho, _⟩ := r'.parts
      cases a' with
      | none => rw [e] at hg; simp [Value.ownBlock] at hg
      | some x =>
        rcases r'.own.2 with ⟨e2, _⟩ | ⟨g', cap2, cur, e2, _⟩
        · rw [e2] at hg; simp [Value.ownBlock] at hg
        · have : g' = g := by rw [e2] at hg; simpa [Value.ownBlock] using hg
          subst this
          rw [e2] at r' ⊢
          have := r'.set i (x := 1) (by omega)
          exact ⟨_, this⟩
    · exact ⟨l', r'.keep (touch_set w g i _) (fun k hk e => hg (by rw [← e]; exact hk))⟩
theorem SpL.at {w0 w : World} {v : Value} {vs : List Value} (h : SpL w0 w v vs) {k : Nat} (hk : k < vs.length) : ∃ g u, (∃ a c, v = .slice a vs.length c ∧ a = some ⟨g, 0, none⟩) ∧ w.cell? ⟨g, k, none⟩ = some u ∧ u ∈ vs ∧ g < w.heap.size := by
  obtain ⟨a, cap, e1, e2, e3, e4, e5, e6⟩ := h.own.parts
  obtain ⟨g, ha, hg, hc, _⟩ := e6 k hk
  exact ⟨g, vs[k], ⟨a, cap, e1, ha⟩, by rw [hc, List.getElem?_eq_getElem hk], List.getElem_mem hk, hg⟩

set_option maxRecDepth 100000 in
set_option maxHeartbeats 8000000 in
theorem batchReads_walk (t : List Nat) (ta : Option Addr) (tcap : Nat) (w : World) (ht : LAt w ta t) (htn : ta = none → tcap = 0) (htc : t.length ≤ tcap) (htl : t.length ≤ 140737488351232) :
    Calls Try.prog 4 #[.slice ta t.length tcap] w fun e w' => e = .returned (.bool true) ∧ Below w.heap.size w w' := by
  have HT := hide ht
  have KD := docdecode_any w ht htn htc (by omega)
  have KP := hide (fun (w' : World) (a : Option Addr) (cap : Nat) (h : LAt w' a t) (hn : a = none → cap = 0) => decode_any w' h hn (by omega))
  unfold DePost at KD KP
  generalize decB t = B at *
  generalize decE t = E at *
  obtain ⟨x1, x2, x3, x4, x5, x6, x7, x8, xs⟩ := B
  have KDH := hide KD
  clear KD ht
  go_enter Try.func4, Try.ntmps4
  go_wp2_with fail
  refine (unhide KDH).mono ?_
  rintro e w1 ⟨a1, c1, rfl, cp1⟩
  obtain ⟨pd1, _, bl1⟩ := cp1
  obtain ⟨az, cz, ez, r1, _⟩ := pd1.parts
  cases ez
  have hW1 : Below w1.heap.size w1 (w1.alloc (.cells #[.int .i64 x1, .int .i64 x2, .int .u64 (x3 : Int), .int .i64 x4, .int .i64 x5, .bool x6, .bool x7, .bool x8, .slice a1 xs.length c1] 25)) := (Below.refl _ _).alloc (Nat.le_refl _) _
  have B1 := hide (bl1.trans (hW1.mono bl1.size))
  have BX1 := hide (Box.new w1 ⟨x1, x2, x3, x4, x5, x6, x7, x8, xs⟩ a1 c1)
  have R1 := hide (r1.later hW1)
  have KA := hide (awake7_any (w1.alloc (.cells #[.int .i64 x1, .int .i64 x2, .int .u64 (x3 : Int), .int .i64 x4, .int .i64 x5, .bool x6, .bool x7, .bool x8, .slice a1 xs.length c1] 25)))
  clear pd1 bl1 r1 hW1 KDH
  go_wp2_with fail
  refine (unhide KA).mono ?_
  rintro e w2 ⟨rfl, b2⟩
  have B2 := hide ((unhide B1).trans (b2.mono (unhide B1).size))
  have BX2 := hide ((unhide BX1).later b2)
  have R2 := hide ((unhide R1).later b2)
  have LT := hide ((unhide HT).later (unhide B2))
  clear b2 KA B1 BX1 R1
  have R0 := hide (Row.lit w2 [] (fun x hx => by cases hx) #[] rfl (by simp [maxLen]))
  go_wp2_with (at_builtin; refine wpList_row _ rfl (.tmp 18) (.tmp 19) rfl _ [] rfl (unhide R0) ta tcap t rfl ((unhide LT).keep ((Touch.refl (fun _ => False) w2).alloc _) (fun _ _ _ h => h)) htn (by simp; omega) ?_)
  intro va w3 ra tca ma
  have FA := fresh_lit ra tca ma
  obtain ⟨aa, ca, rfl, la, _, _, na, ho, _⟩ := FA.1.parts
  have hlt3 := FA.1.lt
  have HAB : Hid (∀ x, aa = some x → x.block < w3.heap.size) := fun x hx => hlt3 _ (ho x hx)
  have B3 := hide ((unhide B2).trans (FA.2.2.mono (unhide B2).size))
  have hs03 : w.heap.size ≤ w3.heap.size := (unhide B3).size
  have BX3 := hide ((unhide BX2).later FA.2.2)
  have R3 := hide ((unhide R2).later FA.2.2)
  have KQ := hide (unhide KP w3 aa ca la na)
  have LA3 := hide la
  clear ra tca ma FA la R0 LT B2 BX2 R2 ho hlt3 KP
  go_wp2_with fail
  refine (unhide KQ).mono ?_
  rintro e w4 ⟨a4, c4, rfl, cp4⟩
  obtain ⟨pd4, nw4, bl4⟩ := cp4
  obtain ⟨az, cz, ez, r4, hlen4, hmx4, _⟩ := pd4.parts
  cases ez
  have hW4 : Below w4.heap.size w4 (w4.alloc (.cells #[.int .i64 x1, .int .i64 x2, .int .u64 (x3 : Int), .int .i64 x4, .int .i64 x5, .bool x6, .bool x7, .bool x8, .slice a4 xs.length c4] 25)) := (Below.refl _ _).alloc (Nat.le_refl _) _
  have b34 : Below w3.heap.size w3 (w4.alloc (.cells #[.int .i64 x1, .int .i64 x2, .int .u64 (x3 : Int), .int .i64 x4, .int .i64 x5, .bool x6, .bool x7, .bool x8, .slice a4 xs.length c4] 25)) := bl4.trans (hW4.mono bl4.size)
  have B4 := hide ((unhide B3).trans (b34.mono (unhide B3).size))
  have LA4 := hide ((unhide LA3).later b34)
  have BX4 := hide ((unhide BX3).later b34)
  have R4 := hide ((unhide R3).later b34)
  have BC4 := hide (Box.new w4 ⟨x1, x2, x3, x4, x5, x6, x7, x8, xs⟩ a4 c4)
  have RC4 := hide (r4.later hW4)
  obtain ⟨vs, sp4⟩ := pd4
  have hEL : ∀ v ∈ xs, v.length ≤ 9223372036854775807 := by
    intro v hv
    obtain ⟨i, hi, e⟩ := List.getElem_of_mem hv
    obtain ⟨u, _, h2⟩ := sp4.each i hi
    obtain ⟨_, _, _, _, q1, q2, _⟩ := h2.1.parts
    simp only [List.getD, List.getElem?_eq_getElem hi, Option.getD_some, e] at q1
    unfold maxLen at q2
    omega
  have hvl : vs.length = xs.length := sp4.len
  have hx63 : xs.length ≤ 9223372036854775807 := by unfold maxLen at hmx4; omega
  have SPL := hide ((SpL.of sp4).later hW4)
  have KS := hide (rsame_any ⟨x1, x2, x3, x4, x5, x6, x7, x8, xs⟩ ⟨x1, x2, x3, x4, x5, x6, x7, x8, xs⟩ a4 a1 c4 c1 _ (unhide RC4) (unhide R4) hEL (by show xs.length ≤ _; unfold maxLen at hmx4; omega))
  obtain ⟨k0, k1, k2, k3, k4, k5, k6, k7, k8⟩ := ((unhide BX3).later bl4).cells
  simp only at k0 k1 k2 k3 k4 k5 k6 k7 k8
  have hltx : w1.heap.size < w4.heap.size := lt_of_heap ((unhide BX3).later bl4)
  have hsz3 : w3.heap.size ≤ w4.heap.size := bl4.size
  clear nw4 bl4 r4 hW4 b34 B3 BX3 R3 LA3 KQ sp4 hEL R4 RC4 hmx4 hlen4
  go_wp2_with fail
  refine (unhide KS).mono ?_
  rintro e w5 ⟨q, rfl, hq, b5⟩
  obtain rfl : q = true := hq.2 (by first | trivial | rfl)
  have B5 := hide ((unhide B4).trans (b5.mono (unhide B4).size))
  have LA5 := hide ((unhide LA4).later b5)
  have SP5 := hide ((unhide SPL).later b5)
  have BC5 := hide ((unhide BC4).later b5)
  have y8 := (unhide BC5).c8
  simp only at y8
  have HSZ : Hid (w.heap.size ≤ w3.heap.size) := hide hs03
  have hsz5 : w3.heap.size ≤ w5.heap.size := by have := b5.size; simp at this; omega
  clear hq b5 KS B4 LA4 SPL BC4 BX4 k0 k1 k2 k3 k4 k5 k6 k7 k8
  rw [← hvl] at *
  generalize hVV : vs.length = VL at *
  have HVV := hide hVV
  clear hVV hvl
  go_wp2_with fail
  clear y8
  go_loopw [38] (fun i wr => ∃ k : Nat, k ≤ VL ∧ i = .int .i64 k ∧ SpL w3 wr (.slice a4 VL c4) vs ∧ Touch (fun k => w3.heap.size ≤ k) w5 wr) (fun i _ => VL - (intOf i).toNat)
  case atStart => exact ⟨0, Nat.zero_le _, rfl, unhide SP5, Touch.refl _ _⟩
  case round =>
    obtain ⟨k, hk, rfl, spl, tc⟩ := hrel
    have SPK := hide spl
    have TCK := hide tc
    clear spl tc
    by_cases hkc : k < VL
    · have hkc' : (k : Int) < (VL : Int) := by omega
      have HKC := hide hkc
      obtain ⟨g, u, ⟨ap, cp, ep, ha⟩, hcell, hmem, hglt⟩ := (unhide SPK).at (k := k) (by have := unhide HVV; omega)
      have hap : a4 = some ⟨g, 0, none⟩ := by simp only [Value.slice.injEq] at ep; rw [ep.1]; exact ha
      subst hap
      clear ep ha
      obtain ⟨⟨l0, r0⟩, n0⟩ := (unhide SPK).each u hmem
      obtain ⟨au, cu, rfl, _, _, hmu, _, _, _⟩ := r0.parts
      have HMEM := hide hmem
      have hL0 : l0.length ≤ 9223372036854775807 := by unfold maxLen at hmu; have := r0.parts; obtain ⟨_, _, _, _, q1, q2, _⟩ := this; unfold maxLen at q2; omega
      generalize l0.length = L0 at *
      clear r0 n0 hmem hmu
      rw [← Nat.zero_add k] at hcell
      have hcell' : wr.cell? ⟨g, 0 + k, none⟩ = some (.slice au L0 cu) := hcell
      clear hcell
      simp only [Nat.zero_add] at hcell'
      go_wp2_with fail
      go_loopw [44] (fun i wi => ∃ j : Nat, j ≤ L0 ∧ i = .int .i64 j ∧ SpL w3 wi (.slice (some ⟨g, 0, none⟩) VL c4) vs ∧ Touch (fun k => w3.heap.size ≤ k) w5 wi) (fun i _ => L0 - (intOf i).toNat)
      case atStart => exact ⟨0, Nat.zero_le _, rfl, unhide SPK, unhide TCK⟩
      case round =>
        obtain ⟨j, hj, rfl, spj, tcj⟩ := hrel
        have SPJ := hide spj
        have TCJ := hide tcj
        by_cases hjc : j < L0
        · have hjc' : (j : Int) < (L0 : Int) := by omega
          obtain ⟨⟨lj, rj⟩, nj⟩ := spj.each _ (unhide HMEM)
          obtain ⟨ax, cx, ex, lx, _, _, _, _, fz⟩ := rj.parts
          have hLj : lj.length = L0 := by simp only [Value.slice.injEq] at ex; exact ex.2.1.symm
          have hax : au = ax := by simp only [Value.slice.injEq] at ex; exact ex.1
          obtain ⟨gx, hgx, hfz⟩ := fz j (by omega)
          obtain ⟨gc, oc, hgc, _, hcj, _⟩ := lx.cell (i := j) (by omega)
          rw [hgx] at hgc
          cases hgc
          rw [hgx] at hax
          subst hax
          simp only [Nat.zero_add] at hcj
          have hgb : w3.heap.size ≤ gx := nj gx rfl
          have NX : Hid (SpL w3 (wr.setCell ⟨gx, j, none⟩ (.int .u8 1)) (.slice (some ⟨g, 0, none⟩) VL c4) vs ∧ Touch (fun k => w3.heap.size ≤ k) w5 (wr.setCell ⟨gx, j, none⟩ (.int .u8 1))) := ⟨spj.set (unhide HMEM) j, tcj.setCell (p := ⟨gx, j, none⟩) hgb _⟩
          generalize lj.getD j 0 = yy at *
          clear spj tcj rj nj lx fz ex hgx hLj
          go_wp2
          go_roundw
          case rel => exact ⟨j + 1, by omega, by go_num, unhide NX⟩
          case measure => simp [intOf]; omega
        · obtain rfl : j = L0 := by omega
          clear spj tcj
          go_wp2
          go_roundw
          case rel => exact ⟨k + 1, (by have := unhide HKC; omega), by go_num, unhide SPJ, unhide TCJ⟩
          case measure => have := unhide HKC; simp [intOf]; omega
    · obtain rfl : k = VL := by omega
      have lw := (unhide LA5).keep (unhide TCK) (fun _ x hx => by have := unhide HAB x hx; omega)
      have BW := hide (below_touch (unhide B5) (unhide TCK) (unhide B5).size (fun k hk => by have := (unhide HSZ); omega))
      have KF := hide (same_gen wr aa ta ca tcap t t lw ((unhide HT).later (unhide BW)) (by omega))
      clear lw
      go_wp2_with fail
      refine (unhide KF).mono ?_
      rintro e wf ⟨q, nf, rfl, hq, hwf⟩
      obtain rfl : q = true := hq.2 (by first | trivial | rfl)
      have BG : Hid (Below w.heap.size w wf) := by rw [hwf]; exact below_drewN3 (unhide BW) nf
      clear hq hwf KF
      go_wp2
      go_returns
      exact ⟨by simp, unhide BG⟩
end Go.Proofs.Ytfccddcoindnlaa
