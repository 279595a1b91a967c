/-
  TxnEnds at every script: true. Conditions: none but the reading's.
-/
import Derived.Test.YtijfjhafjblefaaLi15
namespace Go.Proofs.Ytijfjhafjblefaa
open Go.RowKit Go.Maps
set_option linter.unusedVariables false

theorem u64_next2 {n : Int} (h0 : 0 ≤ n) (h1 : n ≤ 1125899906842624) : IntKind.u64.wrap (n + 1) = n + 1 := by
  simp only [IntKind.wrap, IntKind.bits, IntKind.signed]
  simp
  omega
set_option maxRecDepth 100000 in
theorem run_fld3 (a0 a1 a2 a3 : Int) (a4 : Value) (a5 a6 : Int) (a7 : Bool) (W : World) : (Instr.field 57 (.agg #[.int .i64 a0, .int .i64 a1, .int .u64 a2, .int .i64 a3, a4, .int .i64 a5, .int .u64 a6, .bool a7]) 3).run Try.prog W = .ok (.int .i64 a3) W := by kernel_rfl
theorem i64_zero : I64 0 := ⟨by decide, by decide⟩
structure EnS (w W : World) (sb : Nat) (K : Int → Option Tx) (k : Nat) (next : Int) : Prop where
  tw : TW W (fun j => j < w.heap.size) sb K k
  li : LI (getT K 0) k next
  bel : Below w.heap.size w W
/-- Behind the loop: what was told lies in its box. -/
structure ES (w W : World) (sb tb : Nat) (K : Int → Option Tx) (c : Nat) (cs : Array Value) : Prop where
  tw : TW W (fun j => j < w.heap.size ∨ j = tb) sb K c
  box : W.heap[tb]? = some (.cells cs 57)
  bel : Below w.heap.size w W
section
variable {w W W' : World} {sb tb c : Nat} {K : Int → Option Tx} {cs : Array Value}
theorem ES.later (h : ES w W sb tb K c cs) (hb : Below W.heap.size W W') : ES w W' sb tb K c cs := ⟨h.tw.later hb, below_keep hb h.box, h.bel.trans (hb.mono h.bel.size)⟩
theorem ES.apply (h : ES w W sb tb K c cs) {K' : Int → Option Tx} {c' : Nat} (t : TW W' (fun j => j < w.heap.size ∨ j = tb) sb K' c') (u : Touch (fun k => ¬ (k < w.heap.size ∨ k = tb)) W W') : ES w W' sb tb K' c' cs :=
  ⟨t, u.keep h.box (fun e => e (.inr rfl)), h.bel.trans (TW.below u (fun j hj => .inl hj) h.bel.size)⟩
theorem ES.inN (h : ES w W sb tb K c cs) : ∀ k, (k < w.heap.size ∨ k = tb) → k < W.heap.size := fun k hk => by
  have h1 := h.bel.size
  have h2 := lt_of_heap h.box
  rcases hk with e | e <;> omega
end
set_option maxRecDepth 100000 in
set_option maxHeartbeats 8000000 in
theorem txnEnds_walk {os : List Oq} {a : Option Addr} {cap : Nat} (commit : Bool) (w : World) (hr : RowsAt oqL 15 w a os) (hl : os.length * 128 ≤ reachBytes) :
    Calls Try.prog 7 #[.slice a os.length cap, .bool commit] w fun e w' => e = .returned (.bool true) ∧ Below w.heap.size w w' := by
  unfold reachBytes at hl
  have hlen : os.length ≤ 1099511627776 := by omega
  have HR := hide hr
  clear hr hl
  obtain ⟨n, hn⟩ : ∃ y, os.length = y := ⟨_, rfl⟩
  rw [hn] at hlen ⊢
  have HN := hide hn
  clear hn
  have KN := hide (tnew_any w)
  have T0 := hide (tw_new w)
  have B0 : Hid (Below w.heap.size w (w.alloc (.cells #[.map none] 91))) := (Below.refl _ _).alloc (Nat.le_refl _) _
  go_enter Try.func7, Try.ntmps7
  go_wp2_with fail
  refine (unhide KN).mono ?_
  rintro e w1 ⟨rfl, rfl⟩
  generalize w.alloc (.cells #[.map none] 91) = W1 at *
  have KW := hide (tawake_any W1)
  clear KN
  obtain ⟨sb, hsb⟩ : ∃ y, w.heap.size = y := ⟨_, rfl⟩
  rw [hsb] at T0
  have T0' : Hid (TW W1 (fun j => j < w.heap.size) sb (fun _ => none) 0) := by rw [hsb]; exact T0
  clear T0
  have T0 := T0'
  clear T0'
  rw [hsb]
  clear hsb
  go_wp2_with (go_at_call 11; refine (unhide KW).mono ?_; rintro e w2 ⟨rfl, b2⟩)
  have S1 : Hid (EnS w w2 sb (fun _ => none) 0 1) := ⟨(unhide T0).later b2, LI.zero, (unhide B0).trans (b2.mono (unhide B0).size)⟩
  clear b2 T0 B0 KW
  go_wp2_with fail
  go_loopw [6, 43] (fun s6 s43 wr => ∃ (k : Nat) (next : Int) (K : Int → Option Tx), k ≤ n ∧ s43 = .int .i64 k ∧ s6 = .int .u64 next ∧ EnS w wr sb K k next) (fun _ s43 _ => n - (intOf s43).toNat)
  case atStart => exact ⟨0, 1, _, Nat.zero_le _, rfl, rfl, unhide S1⟩
  case round =>
    obtain ⟨k, next, K, hk, rfl, rfl, ris⟩ := hrel
    clear S1
    have RS := hide ris
    clear ris
    by_cases hlt : k < n
    · have hltz : (k : Int) < (n : Int) := by omega
      have hki : k < os.length := by rw [unhide HN]; exact hlt
      obtain ⟨b, off, hab, hb0, hcell⟩ := unhide HR k hki
      subst hab
      have BR := (unhide RS).bel
      obtain ⟨o, ho⟩ : ∃ o, os[k] = o := ⟨_, rfl⟩
      rw [ho] at hcell
      have o0 : wr.cell? ⟨b, off + k * 15, none⟩ = some (.int .i64 o.kd) := (BR.cell (p := ⟨b, off + k * 15, none⟩) hb0).trans (hcell 0 (by decide))
      have o1 : wr.cell? ⟨b, off + k * 15 + 1, none⟩ = some (.int .i64 o.n) := (BR.cell (p := ⟨b, off + k * 15 + 1, none⟩) hb0).trans (hcell 1 (by decide))
      have o2 : wr.cell? ⟨b, off + k * 15 + 2, none⟩ = some (.int .i64 o.inc) := (BR.cell (p := ⟨b, off + k * 15 + 2, none⟩) hb0).trans (hcell 2 (by decide))
      have o3 : wr.cell? ⟨b, off + k * 15 + 3, none⟩ = some (.int .i64 o.ep) := (BR.cell (p := ⟨b, off + k * 15 + 3, none⟩) hb0).trans (hcell 3 (by decide))
      have o4 : wr.cell? ⟨b, off + k * 15 + 4, none⟩ = some (.int .i64 o.pt) := (BR.cell (p := ⟨b, off + k * 15 + 4, none⟩) hb0).trans (hcell 4 (by decide))
      have o5 : wr.cell? ⟨b, off + k * 15 + 5, none⟩ = some (.int .u64 o.pid) := (BR.cell (p := ⟨b, off + k * 15 + 5, none⟩) hb0).trans (hcell 5 (by decide))
      have o6 : wr.cell? ⟨b, off + k * 15 + 6, none⟩ = some (.bool o.co) := (BR.cell (p := ⟨b, off + k * 15 + 6, none⟩) hb0).trans (hcell 6 (by decide))
      have o7 : wr.cell? ⟨b, off + k * 15 + 7, none⟩ = some (.bool o.d) := (BR.cell (p := ⟨b, off + k * 15 + 7, none⟩) hb0).trans (hcell 7 (by decide))
      have o8 : wr.cell? ⟨b, off + k * 15 + 8, none⟩ = some (.int .i64 o.g.r.kd) := (BR.cell (p := ⟨b, off + k * 15 + 8, none⟩) hb0).trans (hcell 8 (by decide))
      have o9 : wr.cell? ⟨b, off + k * 15 + 9, none⟩ = some (.int .i64 o.g.r.tx) := (BR.cell (p := ⟨b, off + k * 15 + 9, none⟩) hb0).trans (hcell 9 (by decide))
      have o10 : wr.cell? ⟨b, off + k * 15 + 10, none⟩ = some (.int .i64 o.g.r.inc) := (BR.cell (p := ⟨b, off + k * 15 + 10, none⟩) hb0).trans (hcell 10 (by decide))
      have o11 : wr.cell? ⟨b, off + k * 15 + 11, none⟩ = some (.int .u64 o.g.r.pid) := (BR.cell (p := ⟨b, off + k * 15 + 11, none⟩) hb0).trans (hcell 11 (by decide))
      have o12 : wr.cell? ⟨b, off + k * 15 + 12, none⟩ = some (.int .i64 o.g.r.ep) := (BR.cell (p := ⟨b, off + k * 15 + 12, none⟩) hb0).trans (hcell 12 (by decide))
      have o13 : wr.cell? ⟨b, off + k * 15 + 13, none⟩ = some (.slice o.g.a o.g.r.ps.length o.g.k) := (BR.cell (p := ⟨b, off + k * 15 + 13, none⟩) hb0).trans (hcell 13 (by decide))
      have o14 : wr.cell? ⟨b, off + k * 15 + 14, none⟩ = some (.bool o.g.r.co) := (BR.cell (p := ⟨b, off + k * 15 + 14, none⟩) hb0).trans (hcell 14 (by decide))
      clear hcell ho hki hb0 BR
      have hkb : k < 1125899906842624 := by omega
      have b5 : Below wr.heap.size wr (wr.alloc (.cells #[.int .i64 o.kd, .int .i64 o.n, .int .i64 o.inc, .int .i64 o.ep, .int .i64 o.pt, .int .u64 o.pid, .bool o.co, .bool o.d, .int .i64 o.g.r.kd, .int .i64 o.g.r.tx, .int .i64 o.g.r.inc, .int .u64 o.g.r.pid, .int .i64 o.g.r.ep, .slice o.g.a o.g.r.ps.length o.g.k, .bool o.g.r.co] 46)) := (Below.refl _ _).alloc (Nat.le_refl _) _
      have hbs := (unhide RS).bel.size
      have KL := life_any ((unhide RS).tw.later b5) (fun j hj => by simp; omega) o next (by have := (unhide RS).li.len; omega) (by omega)
      have lis := li_step (unhide RS).li hkb o
      rw [← lifeK_get K] at lis
      have B5 : Hid (Below w.heap.size w (wr.alloc (.cells #[.int .i64 o.kd, .int .i64 o.n, .int .i64 o.inc, .int .i64 o.ep, .int .i64 o.pt, .int .u64 o.pid, .bool o.co, .bool o.d, .int .i64 o.g.r.kd, .int .i64 o.g.r.tx, .int .i64 o.g.r.inc, .int .u64 o.g.r.pid, .int .i64 o.g.r.ep, .slice o.g.a o.g.r.ps.length o.g.k, .bool o.g.r.co] 46))) := (unhide RS).bel.alloc (unhide RS).bel.size _
      have hnx1 := (unhide RS).li.nx
      have hnk1 := (unhide RS).li.nk
      simp only [oqL] at KL
      obtain ⟨d, hd⟩ : ∃ d, lifeD (getT K 0) o next = d := ⟨_, rfl⟩
      rw [hd] at KL lis
      have KLH := hide KL
      have LIS := hide lis.1
      clear KL lis b5 hd RS
      go_wp2_with fail
      refine (unhide KLH).mono ?_
      rintro e w5 ⟨rfl, t5, u5⟩
      have E5 : Hid (EnS w w5 sb (lifeK K d) (k + 1) (nextD next d)) := ⟨t5, unhide LIS, (unhide B5).trans (TW.below u5 (fun j hj => hj) (unhide B5).size)⟩
      clear t5 u5 KLH B5 LIS o0 o1 o2 o3 o4 o5 o6 o7 o8 o9 o10 o11 o12 o13 o14
      have hu : IntKind.u64.wrap (next + 1) = next + 1 := u64_next2 (by omega) (by omega)
      have done : Hid (k + 1 ≤ n) := hlt
      cases hok : d.ok with
      | false =>
        have E6 : Hid (EnS w w5 sb (lifeK K d) (k + 1) next) := by have := unhide E5; unfold nextD at this; rw [hok] at this; exact this
        clear E5 hok
        go_wp2
        go_roundw
        case rel => exact ⟨k + 1, next, _, unhide done, by go_num, rfl, unhide E6⟩
        case measure => simp [intOf]; omega
      | true =>
        have E6 : Hid (EnS w w5 sb (lifeK K d) (k + 1) (next + 1)) := by have := unhide E5; unfold nextD at this; rw [hok] at this; exact this
        clear E5 hok
        go_wp2
        go_roundw
        case rel => exact ⟨k + 1, next + 1, _, unhide done, by go_num, rfl, unhide E6⟩
        case measure => simp [intOf]; omega
    · have hltz : ¬ (k : Int) < (n : Int) := by omega
      have hli := (unhide RS).li
      have KX := hide (tx_tw (unhide RS).tw (n := 0) ⟨by decide, by decide⟩ (by have := hli.len; omega))
      have hl1 := hide hli
      have hkn : k ≤ 1099511627776 := by omega
      clear hli hlt hk
      go_wp2_with fail
      refine (unhide KX).mono ?_
      rintro e w3 ⟨q, rfl, f3, n3, b3⟩
      have S0 : Hid (∀ cs, cs = tdC q → ES w (w3.alloc (.cells cs 57)) sb w3.heap.size K k cs) := fun cs e => by
        have b4 : Below w3.heap.size w3 (w3.alloc (.cells cs 57)) := (Below.refl _ _).alloc (Nat.le_refl _) _
        have bb := (unhide RS).bel.trans (b3.mono (unhide RS).bel.size)
        exact ⟨(((unhide RS).tw.later b3).add.later b4).weak (fun j hj => by rcases hj with e | e; exact .inl e; exact .inr (by omega)), heap_new _ _, bb.alloc bb.size _⟩
      obtain ⟨x, hx⟩ : ∃ x, getT K 0 = x := ⟨_, rfl⟩
      rw [hx] at f3 hl1
      obtain ⟨xst, xinc, xpid, xep, ps, xla, xlp, xco⟩ := x
      obtain ⟨st, ix, px, xe, gg, n', c', la, lp, cx⟩ := q
      obtain ⟨e1, e2, e3, e4, e5, e6, e7, row⟩ := f3
      simp only at e1 e2 e3 e4 e5 e6 e7 row
      subst e1 e2 e3 e4 e5 e6 e7
      have HX := hide hx
      clear row n3 b3 KX RS hx
      simp only [tdV, tdC, tdS]
      obtain ⟨sa, hsa⟩ : ∃ y, gg.map (fun g => (⟨g, 0, none⟩ : Addr)) = y := ⟨_, rfl⟩
      have E0 := hide (unhide S0 #[.int .i64 st, .int .i64 ix, .int .u64 px, .int .i64 xe, .slice sa n' c', .int .i64 la, .int .u64 lp, .bool cx] (by simp only [tdC, tdS, hsa]))
      rw [hsa]
      clear S0 hsa
      obtain ⟨tb, htb⟩ : ∃ y, w3.heap.size = y := ⟨_, rfl⟩
      rw [htb] at E0
      go_upto_region 12 with fail
      generalize w3.alloc (.cells #[.int .i64 st, .int .i64 ix, .int .u64 px, .int .i64 xe, .slice sa n' c', .int .i64 la, .int .u64 lp, .bool cx] 57) = V0 at *
      try rw [htb]
      clear htb
      have g0 : V0.cell? ⟨tb, 0, none⟩ = some (.int .i64 st) := cell_of (unhide E0).box 0
      have g1 : V0.cell? ⟨tb, 1, none⟩ = some (.int .i64 ix) := cell_of (unhide E0).box 1
      have g2 : V0.cell? ⟨tb, 2, none⟩ = some (.int .u64 px) := cell_of (unhide E0).box 2
      have g3 : V0.cell? ⟨tb, 3, none⟩ = some (.int .i64 xe) := cell_of (unhide E0).box 3
      have hst := (unhide hl1).st
      have hprep := (unhide hl1).prep
      have hsep := (unhide hl1).sep
      have hep0 := (unhide hl1).ep0
      have hep1 := (unhide hl1).ep1
      have hi0 := (unhide hl1).inc0
      have hi1 := (unhide hl1).inc
      have hlps := (unhide hl1).len
      simp only at hst hprep hsep hep0 hep1 hi0 hi1 hlps
      have KE := end_tw 0 px xe commit (unhide E0).tw
      rw [unhide HX] at KE
      by_cases s2 : st = 2
      rotate_left
      · have hD : ∃ er, endD ⟨st, ix, px, xe, ps, la, lp, cx⟩ 0 px xe commit = noneD er ∧ (st = 3 ∨ er ≠ 0) := by
          unfold endD
          rw [if_neg (by decide)]
          by_cases s0 : st = 0
          · exact ⟨10, by rw [if_pos s0], .inr (by decide)⟩
          rw [if_neg s0, if_neg (fun h => h rfl)]
          by_cases hl : xe = la ∧ px = lp
          · refine ⟨_, by rw [if_pos hl], ?_⟩
            by_cases s3 : st = 3
            · exact .inl s3
            · exfalso
              rcases hsep s3 with e | e
              · exact e hl.2.symm
              · omega
          · exact ⟨14, by rw [if_neg hl, if_neg (fun h => h rfl), if_pos s2], .inr (by decide)⟩
        obtain ⟨er, hD1, hD2⟩ := hD
        rw [hD1] at KE
        have KEH := hide KE
        have HD2 := hide hD2
        clear KE hD1 hD2 hst hprep hsep hep0 hep1 hi0 hi1 hlps hl1 HX
        go_wp2_with fail
        refine (unhide KEH).mono ?_
        rintro e w4 ⟨sa4, c4, rfl, _, _, b4⟩
        have E4 := hide ((unhide E0).later (b4.alloc b4.size (.cells #[.int .i64 0, .int .i64 0, .int .i64 0, .int .u64 0, .int .i64 0, .slice sa4 0 c4, .bool false] 25)))
        simp only [reC, noneD, re0, List.length_nil]
        clear b4 KEH E0 g0 g1 g2 g3
        go_upto_region 13 with fail
        generalize w4.alloc (.cells #[.int .i64 0, .int .i64 0, .int .i64 0, .int .u64 0, .int .i64 0, .slice sa4 0 c4, .bool false] 25) = V1 at *
        have g0 : V1.cell? ⟨tb, 0, none⟩ = some (.int .i64 st) := cell_of (unhide E4).box 0
        have BF := hide (unhide E4).bel
        clear E4
        by_cases s3 : st = 3
        · subst s3
          go_wp2
          go_returns
          exact ⟨rfl, unhide BF⟩
        · have hne : er ≠ 0 := (unhide HD2).resolve_left s3
          have hneb : (er == 0) = false := by simpa using hne
          have s3b : (st == 3) = false := by simpa using s3
          have s2b : (st == 2) = false := by simpa using s2
          go_wp2
          go_returns
          exact ⟨rfl, unhide BF⟩
      · subst s2
        have hD1 : endD ⟨2, ix, px, xe, ps, la, lp, cx⟩ 0 px xe commit = ⟨⟨3, 0, 0, 0, 0, [], commit⟩, true, 0⟩ := by
          have hs := hsep (by decide)
          unfold endD
          rw [if_neg (by decide), if_neg (show ¬ (2 : Int) = 0 by decide), if_neg (fun h => h rfl), if_neg (fun (h : xe = la ∧ px = lp) => by rcases hs with e | e; exact e h.2.symm; omega), if_neg (fun h => h rfl), if_neg (fun h => h rfl)]
        rw [hD1] at KE
        have KEH := hide KE
        clear KE hD1 hst hprep hsep hl1
        go_wp2_with fail
        refine (unhide KEH).mono ?_
        rintro e w4 ⟨sa4, c4, rfl, i4, _, b4⟩
        obtain ⟨ja, jc, je, _, _, _, jn, _⟩ := i4.iat
        injection je with je1 je2 je3
        simp only [reC, List.length_nil]
        have E4 := hide ((unhide E0).later (b4.alloc b4.size (.cells #[.int .i64 3, .int .i64 0, .int .i64 0, .int .u64 0, .int .i64 0, .slice sa4 0 c4, .bool commit] 25)))
        have R4 := hide (heap_new w4 (.cells #[.int .i64 3, .int .i64 0, .int .i64 0, .int .u64 0, .int .i64 0, .slice sa4 0 c4, .bool commit] 25))
        have J4 : Hid (sa4 = none → c4 = 0) := fun h => by rw [je3]; exact jn (by rw [← je1]; exact h)
        clear b4 KEH E0 g0 g1 g2 g3 i4 je1 je2 je3 jn
        obtain ⟨rb, hrb⟩ : ∃ y, w4.heap.size = y := ⟨_, rfl⟩
        rw [hrb] at R4
        go_upto_region 13 with fail
        generalize w4.alloc (.cells #[.int .i64 3, .int .i64 0, .int .i64 0, .int .u64 0, .int .i64 0, .slice sa4 0 c4, .bool commit] 25) = V1 at *
        try rw [hrb]
        clear hrb
        have g0 : V1.cell? ⟨tb, 0, none⟩ = some (.int .i64 2) := cell_of (unhide E4).box 0
        have r0 : V1.cell? ⟨rb, 0, none⟩ = some (.int .i64 3) := cell_of (unhide R4) 0
        have r1 : V1.cell? ⟨rb, 1, none⟩ = some (.int .i64 0) := cell_of (unhide R4) 1
        have r2 : V1.cell? ⟨rb, 2, none⟩ = some (.int .i64 0) := cell_of (unhide R4) 2
        have r3 : V1.cell? ⟨rb, 3, none⟩ = some (.int .u64 0) := cell_of (unhide R4) 3
        have r4 : V1.cell? ⟨rb, 4, none⟩ = some (.int .i64 0) := cell_of (unhide R4) 4
        have r5 : V1.cell? ⟨rb, 5, none⟩ = some (.slice sa4 0 c4) := cell_of (unhide R4) 5
        have r6 : V1.cell? ⟨rb, 6, none⟩ = some (.bool commit) := cell_of (unhide R4) 6
        have KA := apply_tw (r := ⟨3, 0, 0, 0, 0, [], commit⟩) (a := sa4) (cp := c4) (unhide E4).tw (unhide E4).inN (fun i hi => by cases hi) (unhide J4) i64_zero (by show (getT K 0).ps.length + 0 ≤ _; rw [unhide HX]; show ps.length + 0 ≤ _; omega) (by omega)
        have hx1 : apT ⟨3, 0, 0, 0, 0, [], commit⟩ (getT K 0) = ⟨3, ix, px, xe, ps, xe, px, commit⟩ := by rw [unhide HX]; rfl
        simp only [reC, List.length_nil] at KA
        rw [hx1] at KA
        have KAH := hide KA
        clear KA hx1 R4 J4
        cases commit with
        | true =>
          go_wp2_with fail
          refine (unhide KAH).mono ?_
          rintro e w5 ⟨rfl, t5, u5⟩
          have hK1 : getT (putT K 0 ⟨3, ix, px, xe, ps, xe, px, true⟩) 0 = ⟨3, ix, px, xe, ps, xe, px, true⟩ := by unfold getT putT; rw [if_pos rfl]; rfl
          have HK1 := hide hK1
          have EW := hide ((unhide E4).apply t5 u5)
          clear t5 u5 KAH E4 hK1 g0 r0 r1 r2 r3 r4 r5 r6
          generalize putT K 0 ⟨3, ix, px, xe, ps, xe, px, true⟩ = K1 at *
          have g1 : w5.cell? ⟨tb, 1, none⟩ = some (.int .i64 ix) := cell_of (unhide EW).box 1
          have g2 : w5.cell? ⟨tb, 2, none⟩ = some (.int .u64 px) := cell_of (unhide EW).box 2
          have g3 : w5.cell? ⟨tb, 3, none⟩ = some (.int .i64 xe) := cell_of (unhide EW).box 3
          have hD : endD ⟨3, ix, px, xe, ps, xe, px, true⟩ 0 px xe true = noneD 16 := by unfold endD; rw [if_neg (by decide), if_neg (show ¬ (3 : Int) = 0 by decide), if_neg (fun h => h rfl), if_pos ⟨rfl, rfl⟩]; rfl
          have KC := end_tw 0 px xe true (unhide EW).tw
          rw [unhide HK1, hD] at KC
          have KCH := hide KC
          clear KC hD
          go_wp2_with fail
          refine (unhide KCH).mono ?_
          rintro e v1 ⟨sq1, cq1, rfl, _, _, b1⟩
          have EV := hide ((unhide EW).later (b1.alloc b1.size (.cells #[.int .i64 0, .int .i64 0, .int .i64 0, .int .u64 0, .int .i64 0, .slice sq1 0 cq1, .bool false] 25)))
          simp only [reC, noneD, re0, List.length_nil]
          clear b1 KCH EW g1 g2 g3
          go_upto_region 19 with fail
          generalize v1.alloc (.cells #[.int .i64 0, .int .i64 0, .int .i64 0, .int .u64 0, .int .i64 0, .slice sq1 0 cq1, .bool false] 25) = U1 at *
          have EW := EV
          clear EV
          have g1 : U1.cell? ⟨tb, 1, none⟩ = some (.int .i64 ix) := cell_of (unhide EW).box 1
          have g2 : U1.cell? ⟨tb, 2, none⟩ = some (.int .u64 px) := cell_of (unhide EW).box 2
          have g3 : U1.cell? ⟨tb, 3, none⟩ = some (.int .i64 xe) := cell_of (unhide EW).box 3
          have hD : endD ⟨3, ix, px, xe, ps, xe, px, true⟩ 0 px xe false = noneD 14 := by unfold endD; rw [if_neg (by decide), if_neg (show ¬ (3 : Int) = 0 by decide), if_neg (fun h => h rfl), if_pos ⟨rfl, rfl⟩]; rfl
          have KC := end_tw 0 px xe false (unhide EW).tw
          rw [unhide HK1, hD] at KC
          have KCH := hide KC
          clear KC hD
          go_wp2_with fail
          refine (unhide KCH).mono ?_
          rintro e v2 ⟨sq2, cq2, rfl, _, _, b2⟩
          have EV := hide ((unhide EW).later (b2.alloc b2.size (.cells #[.int .i64 0, .int .i64 0, .int .i64 0, .int .u64 0, .int .i64 0, .slice sq2 0 cq2, .bool false] 25)))
          simp only [reC, noneD, re0, List.length_nil]
          clear b2 KCH EW g1 g2 g3
          go_upto_region 20 with fail
          generalize v2.alloc (.cells #[.int .i64 0, .int .i64 0, .int .i64 0, .int .u64 0, .int .i64 0, .slice sq2 0 cq2, .bool false] 25) = U2 at *
          have EW := EV
          clear EV
          have g1 : U2.cell? ⟨tb, 1, none⟩ = some (.int .i64 ix) := cell_of (unhide EW).box 1
          have g2 : U2.cell? ⟨tb, 2, none⟩ = some (.int .u64 px) := cell_of (unhide EW).box 2
          have g3 : U2.cell? ⟨tb, 3, none⟩ = some (.int .i64 xe) := cell_of (unhide EW).box 3
          have hD : addD ⟨3, ix, px, xe, ps, xe, px, true⟩ 0 px xe 1 = noneD 16 := by unfold addD; rw [if_neg (by decide), if_neg (by decide), if_neg (show ¬ (3 : Int) = 0 by decide), if_neg (fun h => h rfl), if_neg (fun h => h rfl), if_pos rfl]
          have KC := add_tw 0 px xe 1 (unhide EW).tw
          rw [unhide HK1, hD] at KC
          have KCH := hide KC
          clear KC hD
          go_wp2_with fail
          refine (unhide KCH).mono ?_
          rintro e v3 ⟨sq3, cq3, rfl, _, _, b3⟩
          have EV := hide ((unhide EW).later (b3.alloc b3.size (.cells #[.int .i64 0, .int .i64 0, .int .i64 0, .int .u64 0, .int .i64 0, .slice sq3 0 cq3, .bool false] 25)))
          simp only [reC, noneD, re0, List.length_nil]
          clear b3 KCH EW g1 g2 g3
          go_upto_region 21 with fail
          generalize v3.alloc (.cells #[.int .i64 0, .int .i64 0, .int .i64 0, .int .u64 0, .int .i64 0, .slice sq3 0 cq3, .bool false] 25) = U3 at *
          have EW := EV
          clear EV
          have g1 : U3.cell? ⟨tb, 1, none⟩ = some (.int .i64 ix) := cell_of (unhide EW).box 1
          have g2 : U3.cell? ⟨tb, 2, none⟩ = some (.int .u64 px) := cell_of (unhide EW).box 2
          have g3 : U3.cell? ⟨tb, 3, none⟩ = some (.int .i64 xe) := cell_of (unhide EW).box 3
          have KA := apply_tw (r := ⟨4, 0, 0, 0, 0, [], false⟩) (a := none) (cp := 0) (unhide EW).tw (unhide EW).inN (fun i hi => by cases hi) (fun _ => rfl) ⟨by decide, by decide⟩ (by show (getT K1 0).ps.length + 0 ≤ _; rw [unhide HK1]; show ps.length + 0 ≤ _; omega) (by omega)
          have hx2 : apT ⟨4, 0, 0, 0, 0, [], false⟩ (getT K1 0) = ⟨4, ix, px, wrap64 (xe + 2), [], xe, px, true⟩ := by rw [unhide HK1]; rfl
          simp only [reC, List.length_nil] at KA
          rw [hx2] at KA
          have KAH := hide KA
          clear KA hx2
          go_wp2_with fail
          refine (unhide KAH).mono ?_
          rintro e w6 ⟨rfl, t6, u6⟩
          have HK2 : Hid (getT (putT K1 0 ⟨4, ix, px, wrap64 (xe + 2), [], xe, px, true⟩) 0 = ⟨4, ix, px, wrap64 (xe + 2), [], xe, px, true⟩) := by show _ = _; unfold getT putT; rw [if_pos rfl]; rfl
          have EV := hide ((unhide EW).apply t6 u6)
          clear t6 u6 KAH EW g1 g2 g3 HK1
          have EW := EV
          clear EV
          generalize putT K1 0 ⟨4, ix, px, wrap64 (xe + 2), [], xe, px, true⟩ = K2 at *
          have g1 : w6.cell? ⟨tb, 1, none⟩ = some (.int .i64 ix) := cell_of (unhide EW).box 1
          have g2 : w6.cell? ⟨tb, 2, none⟩ = some (.int .u64 px) := cell_of (unhide EW).box 2
          have g3 : w6.cell? ⟨tb, 3, none⟩ = some (.int .i64 xe) := cell_of (unhide EW).box 3
          have we : wrap64 (xe + 2) = xe + 2 := wrap64_low (by omega) (by omega)
          have wi : wrap64 (ix - 1) = ix - 1 := by unfold wrap64; omega
          have hD : endD ⟨4, ix, px, wrap64 (xe + 2), [], xe, px, true⟩ 0 px xe true = noneD 0 := by unfold endD; rw [if_neg (by decide), if_neg (show ¬ (4 : Int) = 0 by decide), if_neg (fun h => h rfl), if_pos ⟨rfl, rfl⟩]; rfl
          have KC := end_tw 0 px xe true (unhide EW).tw
          rw [unhide HK2, hD] at KC
          have KCH := hide KC
          clear KC hD
          go_wp2_with fail
          refine (unhide KCH).mono ?_
          rintro e v4 ⟨sq4, cq4, rfl, _, _, b4⟩
          have EV := hide ((unhide EW).later (b4.alloc b4.size (.cells #[.int .i64 0, .int .i64 0, .int .i64 0, .int .u64 0, .int .i64 0, .slice sq4 0 cq4, .bool false] 25)))
          simp only [reC, noneD, re0, List.length_nil]
          clear b4 KCH EW g1 g2 g3
          go_upto_region 23 with fail
          generalize v4.alloc (.cells #[.int .i64 0, .int .i64 0, .int .i64 0, .int .u64 0, .int .i64 0, .slice sq4 0 cq4, .bool false] 25) = U4 at *
          have EW := EV
          clear EV
          have g1 : U4.cell? ⟨tb, 1, none⟩ = some (.int .i64 ix) := cell_of (unhide EW).box 1
          have g2 : U4.cell? ⟨tb, 2, none⟩ = some (.int .u64 px) := cell_of (unhide EW).box 2
          have g3 : U4.cell? ⟨tb, 3, none⟩ = some (.int .i64 xe) := cell_of (unhide EW).box 3
          have hD : endD ⟨4, ix, px, wrap64 (xe + 2), [], xe, px, true⟩ 0 px xe false = noneD 14 := by unfold endD; rw [if_neg (by decide), if_neg (show ¬ (4 : Int) = 0 by decide), if_neg (fun h => h rfl), if_pos ⟨rfl, rfl⟩]; rfl
          have KC := end_tw 0 px xe false (unhide EW).tw
          rw [unhide HK2, hD] at KC
          have KCH := hide KC
          clear KC hD
          go_wp2_with fail
          refine (unhide KCH).mono ?_
          rintro e v5 ⟨sq5, cq5, rfl, _, _, b5⟩
          have EV := hide ((unhide EW).later (b5.alloc b5.size (.cells #[.int .i64 0, .int .i64 0, .int .i64 0, .int .u64 0, .int .i64 0, .slice sq5 0 cq5, .bool false] 25)))
          simp only [reC, noneD, re0, List.length_nil]
          clear b5 KCH EW g1 g2 g3
          go_upto_region 24 with fail
          generalize v5.alloc (.cells #[.int .i64 0, .int .i64 0, .int .i64 0, .int .u64 0, .int .i64 0, .slice sq5 0 cq5, .bool false] 25) = U5 at *
          have EW := EV
          clear EV
          have g1 : U5.cell? ⟨tb, 1, none⟩ = some (.int .i64 ix) := cell_of (unhide EW).box 1
          have g2 : U5.cell? ⟨tb, 2, none⟩ = some (.int .u64 px) := cell_of (unhide EW).box 2
          have g3 : U5.cell? ⟨tb, 3, none⟩ = some (.int .i64 xe) := cell_of (unhide EW).box 3
          have hD : addD ⟨4, ix, px, wrap64 (xe + 2), [], xe, px, true⟩ 0 px xe 1 = noneD 10 := by unfold addD; rw [if_neg (by decide), if_neg (by decide), if_neg (show ¬ (4 : Int) = 0 by decide), if_neg (fun h => h rfl), if_pos (show wrap64 (xe + 2) ≠ xe by rw [we]; omega)]
          have KC := add_tw 0 px xe 1 (unhide EW).tw
          rw [unhide HK2, hD] at KC
          have KCH := hide KC
          clear KC hD
          go_wp2_with fail
          refine (unhide KCH).mono ?_
          rintro e v6 ⟨sq6, cq6, rfl, _, _, b6⟩
          have EV := hide ((unhide EW).later (b6.alloc b6.size (.cells #[.int .i64 0, .int .i64 0, .int .i64 0, .int .u64 0, .int .i64 0, .slice sq6 0 cq6, .bool false] 25)))
          simp only [reC, noneD, re0, List.length_nil]
          clear b6 KCH EW g1 g2 g3
          go_upto_region 25 with fail
          generalize v6.alloc (.cells #[.int .i64 0, .int .i64 0, .int .i64 0, .int .u64 0, .int .i64 0, .slice sq6 0 cq6, .bool false] 25) = U6 at *
          have EW := EV
          clear EV
          have g1 : U6.cell? ⟨tb, 1, none⟩ = some (.int .i64 ix) := cell_of (unhide EW).box 1
          have g2 : U6.cell? ⟨tb, 2, none⟩ = some (.int .u64 px) := cell_of (unhide EW).box 2
          have g3 : U6.cell? ⟨tb, 3, none⟩ = some (.int .i64 xe) := cell_of (unhide EW).box 3
          have hD : initD ⟨4, ix, px, wrap64 (xe + 2), [], xe, px, true⟩ 0 (ix - 1) 9 = noneD 10 := by unfold initD; rw [if_neg (by decide), if_neg (show ¬ (4 : Int) = 0 by decide), if_pos (show ix - 1 < ix by omega)]
          have KC := init_tw 0 (ix - 1) 9 (unhide EW).tw
          rw [unhide HK2, hD] at KC
          have KCH := hide KC
          clear KC hD
          go_wp2_with fail
          refine (unhide KCH).mono ?_
          rintro e v7 ⟨sq7, cq7, rfl, _, _, b7⟩
          have EV := hide ((unhide EW).later (b7.alloc b7.size (.cells #[.int .i64 0, .int .i64 0, .int .i64 0, .int .u64 0, .int .i64 0, .slice sq7 0 cq7, .bool false] 25)))
          simp only [reC, noneD, re0, List.length_nil]
          clear b7 KCH EW g1 g2 g3
          go_upto_region 26 with fail
          generalize v7.alloc (.cells #[.int .i64 0, .int .i64 0, .int .i64 0, .int .u64 0, .int .i64 0, .slice sq7 0 cq7, .bool false] 25) = U7 at *
          have EW := EV
          clear EV
          have g1 : U7.cell? ⟨tb, 1, none⟩ = some (.int .i64 ix) := cell_of (unhide EW).box 1
          have g2 : U7.cell? ⟨tb, 2, none⟩ = some (.int .u64 px) := cell_of (unhide EW).box 2
          have g3 : U7.cell? ⟨tb, 3, none⟩ = some (.int .i64 xe) := cell_of (unhide EW).box 3
          have KT : Hid (∀ W, Touch (fun _ => False) U7 W → Calls Try.prog 25 #[.pointer (some ⟨sb, 0, none⟩), .int .i64 0] W fun e w' => TxP W ⟨4, ix, px, wrap64 (xe + 2), [], xe, px, true⟩ e w') := fun W t => by
            have h1 := tx_tw ((unhide EW).tw.keep t (fun _ _ h => h.elim)) (n := 0) ⟨by decide, by decide⟩ (by rw [unhide HK2]; show ([] : List Int).length ≤ _; simp)
            rw [unhide HK2] at h1
            exact h1
          have TB := hide (lt_of_heap (unhide EW).box)
          have BF := hide (unhide EW).bel
          have S1 := hide g3
          clear g1 g2 EW HK2
          have we2 : IntKind.i64.wrap (xe + 2) = xe + 2 := wrap_low (by omega) (by omega)
          go_wp2_with fail
          go_region_held3 (fun w' => w'.cell? ⟨tb, 3, none⟩ = some (.int .i64 xe)) (first | exact unhide S2 | exact unhide S1) (first
            | (go_at_call 25; refine (unhide KT _ ((Touch.refl _ _).drew)).mono ?_; rintro e w9 ⟨⟨qs, qi, qp, qe, qg, qn, qc, ql, qlp, qco⟩, rfl, f9, n9, b9⟩; have hqe : qe = xe + 2 := f9.ep.trans we; subst hqe; have S2 : Hid (w9.cell? ⟨tb, 3, none⟩ = some (.int .i64 xe)) := (b9.cell (p := ⟨tb, 3, none⟩) (unhide TB)).trans (unhide S1); have BF9 : Hid (Below w.heap.size w w9) := (Below.drew (unhide BF)).trans (b9.mono (unhide BF).size); clear f9 n9 b9; simp only [tdV, tdC, tdS]; generalize qg.map (fun g => (⟨g, 0, none⟩ : Addr)) = qsa; have hfl := run_fld3 qs qi qp (xe + 2) (.slice qsa qn qc) ql qlp qco))
          all_goals
            go_wp2
            go_returns
            exact ⟨by first | rfl | simp [we2], by first | exact unhide BF9 | exact Below.drew (unhide BF9)⟩
        | false =>
          go_wp2_with fail
          refine (unhide KAH).mono ?_
          rintro e w5 ⟨rfl, t5, u5⟩
          have hK1 : getT (putT K 0 ⟨3, ix, px, xe, ps, xe, px, false⟩) 0 = ⟨3, ix, px, xe, ps, xe, px, false⟩ := by unfold getT putT; rw [if_pos rfl]; rfl
          have HK1 := hide hK1
          have EW := hide ((unhide E4).apply t5 u5)
          clear t5 u5 KAH E4 hK1 g0 r0 r1 r2 r3 r4 r5 r6
          generalize putT K 0 ⟨3, ix, px, xe, ps, xe, px, false⟩ = K1 at *
          have g1 : w5.cell? ⟨tb, 1, none⟩ = some (.int .i64 ix) := cell_of (unhide EW).box 1
          have g2 : w5.cell? ⟨tb, 2, none⟩ = some (.int .u64 px) := cell_of (unhide EW).box 2
          have g3 : w5.cell? ⟨tb, 3, none⟩ = some (.int .i64 xe) := cell_of (unhide EW).box 3
          have hD : endD ⟨3, ix, px, xe, ps, xe, px, false⟩ 0 px xe false = noneD 16 := by unfold endD; rw [if_neg (by decide), if_neg (show ¬ (3 : Int) = 0 by decide), if_neg (fun h => h rfl), if_pos ⟨rfl, rfl⟩]; rfl
          have KC := end_tw 0 px xe false (unhide EW).tw
          rw [unhide HK1, hD] at KC
          have KCH := hide KC
          clear KC hD
          go_wp2_with fail
          refine (unhide KCH).mono ?_
          rintro e v1 ⟨sq1, cq1, rfl, _, _, b1⟩
          have EV := hide ((unhide EW).later (b1.alloc b1.size (.cells #[.int .i64 0, .int .i64 0, .int .i64 0, .int .u64 0, .int .i64 0, .slice sq1 0 cq1, .bool false] 25)))
          simp only [reC, noneD, re0, List.length_nil]
          clear b1 KCH EW g1 g2 g3
          go_upto_region 19 with fail
          generalize v1.alloc (.cells #[.int .i64 0, .int .i64 0, .int .i64 0, .int .u64 0, .int .i64 0, .slice sq1 0 cq1, .bool false] 25) = U1 at *
          have EW := EV
          clear EV
          have g1 : U1.cell? ⟨tb, 1, none⟩ = some (.int .i64 ix) := cell_of (unhide EW).box 1
          have g2 : U1.cell? ⟨tb, 2, none⟩ = some (.int .u64 px) := cell_of (unhide EW).box 2
          have g3 : U1.cell? ⟨tb, 3, none⟩ = some (.int .i64 xe) := cell_of (unhide EW).box 3
          have hD : endD ⟨3, ix, px, xe, ps, xe, px, false⟩ 0 px xe true = noneD 14 := by unfold endD; rw [if_neg (by decide), if_neg (show ¬ (3 : Int) = 0 by decide), if_neg (fun h => h rfl), if_pos ⟨rfl, rfl⟩]; rfl
          have KC := end_tw 0 px xe true (unhide EW).tw
          rw [unhide HK1, hD] at KC
          have KCH := hide KC
          clear KC hD
          go_wp2_with fail
          refine (unhide KCH).mono ?_
          rintro e v2 ⟨sq2, cq2, rfl, _, _, b2⟩
          have EV := hide ((unhide EW).later (b2.alloc b2.size (.cells #[.int .i64 0, .int .i64 0, .int .i64 0, .int .u64 0, .int .i64 0, .slice sq2 0 cq2, .bool false] 25)))
          simp only [reC, noneD, re0, List.length_nil]
          clear b2 KCH EW g1 g2 g3
          go_upto_region 20 with fail
          generalize v2.alloc (.cells #[.int .i64 0, .int .i64 0, .int .i64 0, .int .u64 0, .int .i64 0, .slice sq2 0 cq2, .bool false] 25) = U2 at *
          have EW := EV
          clear EV
          have g1 : U2.cell? ⟨tb, 1, none⟩ = some (.int .i64 ix) := cell_of (unhide EW).box 1
          have g2 : U2.cell? ⟨tb, 2, none⟩ = some (.int .u64 px) := cell_of (unhide EW).box 2
          have g3 : U2.cell? ⟨tb, 3, none⟩ = some (.int .i64 xe) := cell_of (unhide EW).box 3
          have hD : addD ⟨3, ix, px, xe, ps, xe, px, false⟩ 0 px xe 1 = noneD 16 := by unfold addD; rw [if_neg (by decide), if_neg (by decide), if_neg (show ¬ (3 : Int) = 0 by decide), if_neg (fun h => h rfl), if_neg (fun h => h rfl), if_pos rfl]
          have KC := add_tw 0 px xe 1 (unhide EW).tw
          rw [unhide HK1, hD] at KC
          have KCH := hide KC
          clear KC hD
          go_wp2_with fail
          refine (unhide KCH).mono ?_
          rintro e v3 ⟨sq3, cq3, rfl, _, _, b3⟩
          have EV := hide ((unhide EW).later (b3.alloc b3.size (.cells #[.int .i64 0, .int .i64 0, .int .i64 0, .int .u64 0, .int .i64 0, .slice sq3 0 cq3, .bool false] 25)))
          simp only [reC, noneD, re0, List.length_nil]
          clear b3 KCH EW g1 g2 g3
          go_upto_region 21 with fail
          generalize v3.alloc (.cells #[.int .i64 0, .int .i64 0, .int .i64 0, .int .u64 0, .int .i64 0, .slice sq3 0 cq3, .bool false] 25) = U3 at *
          have EW := EV
          clear EV
          have g1 : U3.cell? ⟨tb, 1, none⟩ = some (.int .i64 ix) := cell_of (unhide EW).box 1
          have g2 : U3.cell? ⟨tb, 2, none⟩ = some (.int .u64 px) := cell_of (unhide EW).box 2
          have g3 : U3.cell? ⟨tb, 3, none⟩ = some (.int .i64 xe) := cell_of (unhide EW).box 3
          have KA := apply_tw (r := ⟨4, 0, 0, 0, 0, [], false⟩) (a := none) (cp := 0) (unhide EW).tw (unhide EW).inN (fun i hi => by cases hi) (fun _ => rfl) ⟨by decide, by decide⟩ (by show (getT K1 0).ps.length + 0 ≤ _; rw [unhide HK1]; show ps.length + 0 ≤ _; omega) (by omega)
          have hx2 : apT ⟨4, 0, 0, 0, 0, [], false⟩ (getT K1 0) = ⟨4, ix, px, wrap64 (xe + 2), [], xe, px, false⟩ := by rw [unhide HK1]; rfl
          simp only [reC, List.length_nil] at KA
          rw [hx2] at KA
          have KAH := hide KA
          clear KA hx2
          go_wp2_with fail
          refine (unhide KAH).mono ?_
          rintro e w6 ⟨rfl, t6, u6⟩
          have HK2 : Hid (getT (putT K1 0 ⟨4, ix, px, wrap64 (xe + 2), [], xe, px, false⟩) 0 = ⟨4, ix, px, wrap64 (xe + 2), [], xe, px, false⟩) := by show _ = _; unfold getT putT; rw [if_pos rfl]; rfl
          have EV := hide ((unhide EW).apply t6 u6)
          clear t6 u6 KAH EW g1 g2 g3 HK1
          have EW := EV
          clear EV
          generalize putT K1 0 ⟨4, ix, px, wrap64 (xe + 2), [], xe, px, false⟩ = K2 at *
          have g1 : w6.cell? ⟨tb, 1, none⟩ = some (.int .i64 ix) := cell_of (unhide EW).box 1
          have g2 : w6.cell? ⟨tb, 2, none⟩ = some (.int .u64 px) := cell_of (unhide EW).box 2
          have g3 : w6.cell? ⟨tb, 3, none⟩ = some (.int .i64 xe) := cell_of (unhide EW).box 3
          have we : wrap64 (xe + 2) = xe + 2 := wrap64_low (by omega) (by omega)
          have wi : wrap64 (ix - 1) = ix - 1 := by unfold wrap64; omega
          have hD : endD ⟨4, ix, px, wrap64 (xe + 2), [], xe, px, false⟩ 0 px xe false = noneD 0 := by unfold endD; rw [if_neg (by decide), if_neg (show ¬ (4 : Int) = 0 by decide), if_neg (fun h => h rfl), if_pos ⟨rfl, rfl⟩]; rfl
          have KC := end_tw 0 px xe false (unhide EW).tw
          rw [unhide HK2, hD] at KC
          have KCH := hide KC
          clear KC hD
          go_wp2_with fail
          refine (unhide KCH).mono ?_
          rintro e v4 ⟨sq4, cq4, rfl, _, _, b4⟩
          have EV := hide ((unhide EW).later (b4.alloc b4.size (.cells #[.int .i64 0, .int .i64 0, .int .i64 0, .int .u64 0, .int .i64 0, .slice sq4 0 cq4, .bool false] 25)))
          simp only [reC, noneD, re0, List.length_nil]
          clear b4 KCH EW g1 g2 g3
          go_upto_region 23 with fail
          generalize v4.alloc (.cells #[.int .i64 0, .int .i64 0, .int .i64 0, .int .u64 0, .int .i64 0, .slice sq4 0 cq4, .bool false] 25) = U4 at *
          have EW := EV
          clear EV
          have g1 : U4.cell? ⟨tb, 1, none⟩ = some (.int .i64 ix) := cell_of (unhide EW).box 1
          have g2 : U4.cell? ⟨tb, 2, none⟩ = some (.int .u64 px) := cell_of (unhide EW).box 2
          have g3 : U4.cell? ⟨tb, 3, none⟩ = some (.int .i64 xe) := cell_of (unhide EW).box 3
          have hD : endD ⟨4, ix, px, wrap64 (xe + 2), [], xe, px, false⟩ 0 px xe true = noneD 14 := by unfold endD; rw [if_neg (by decide), if_neg (show ¬ (4 : Int) = 0 by decide), if_neg (fun h => h rfl), if_pos ⟨rfl, rfl⟩]; rfl
          have KC := end_tw 0 px xe true (unhide EW).tw
          rw [unhide HK2, hD] at KC
          have KCH := hide KC
          clear KC hD
          go_wp2_with fail
          refine (unhide KCH).mono ?_
          rintro e v5 ⟨sq5, cq5, rfl, _, _, b5⟩
          have EV := hide ((unhide EW).later (b5.alloc b5.size (.cells #[.int .i64 0, .int .i64 0, .int .i64 0, .int .u64 0, .int .i64 0, .slice sq5 0 cq5, .bool false] 25)))
          simp only [reC, noneD, re0, List.length_nil]
          clear b5 KCH EW g1 g2 g3
          go_upto_region 24 with fail
          generalize v5.alloc (.cells #[.int .i64 0, .int .i64 0, .int .i64 0, .int .u64 0, .int .i64 0, .slice sq5 0 cq5, .bool false] 25) = U5 at *
          have EW := EV
          clear EV
          have g1 : U5.cell? ⟨tb, 1, none⟩ = some (.int .i64 ix) := cell_of (unhide EW).box 1
          have g2 : U5.cell? ⟨tb, 2, none⟩ = some (.int .u64 px) := cell_of (unhide EW).box 2
          have g3 : U5.cell? ⟨tb, 3, none⟩ = some (.int .i64 xe) := cell_of (unhide EW).box 3
          have hD : addD ⟨4, ix, px, wrap64 (xe + 2), [], xe, px, false⟩ 0 px xe 1 = noneD 10 := by unfold addD; rw [if_neg (by decide), if_neg (by decide), if_neg (show ¬ (4 : Int) = 0 by decide), if_neg (fun h => h rfl), if_pos (show wrap64 (xe + 2) ≠ xe by rw [we]; omega)]
          have KC := add_tw 0 px xe 1 (unhide EW).tw
          rw [unhide HK2, hD] at KC
          have KCH := hide KC
          clear KC hD
          go_wp2_with fail
          refine (unhide KCH).mono ?_
          rintro e v6 ⟨sq6, cq6, rfl, _, _, b6⟩
          have EV := hide ((unhide EW).later (b6.alloc b6.size (.cells #[.int .i64 0, .int .i64 0, .int .i64 0, .int .u64 0, .int .i64 0, .slice sq6 0 cq6, .bool false] 25)))
          simp only [reC, noneD, re0, List.length_nil]
          clear b6 KCH EW g1 g2 g3
          go_upto_region 25 with fail
          generalize v6.alloc (.cells #[.int .i64 0, .int .i64 0, .int .i64 0, .int .u64 0, .int .i64 0, .slice sq6 0 cq6, .bool false] 25) = U6 at *
          have EW := EV
          clear EV
          have g1 : U6.cell? ⟨tb, 1, none⟩ = some (.int .i64 ix) := cell_of (unhide EW).box 1
          have g2 : U6.cell? ⟨tb, 2, none⟩ = some (.int .u64 px) := cell_of (unhide EW).box 2
          have g3 : U6.cell? ⟨tb, 3, none⟩ = some (.int .i64 xe) := cell_of (unhide EW).box 3
          have hD : initD ⟨4, ix, px, wrap64 (xe + 2), [], xe, px, false⟩ 0 (ix - 1) 9 = noneD 10 := by unfold initD; rw [if_neg (by decide), if_neg (show ¬ (4 : Int) = 0 by decide), if_pos (show ix - 1 < ix by omega)]
          have KC := init_tw 0 (ix - 1) 9 (unhide EW).tw
          rw [unhide HK2, hD] at KC
          have KCH := hide KC
          clear KC hD
          go_wp2_with fail
          refine (unhide KCH).mono ?_
          rintro e v7 ⟨sq7, cq7, rfl, _, _, b7⟩
          have EV := hide ((unhide EW).later (b7.alloc b7.size (.cells #[.int .i64 0, .int .i64 0, .int .i64 0, .int .u64 0, .int .i64 0, .slice sq7 0 cq7, .bool false] 25)))
          simp only [reC, noneD, re0, List.length_nil]
          clear b7 KCH EW g1 g2 g3
          go_upto_region 26 with fail
          generalize v7.alloc (.cells #[.int .i64 0, .int .i64 0, .int .i64 0, .int .u64 0, .int .i64 0, .slice sq7 0 cq7, .bool false] 25) = U7 at *
          have EW := EV
          clear EV
          have g1 : U7.cell? ⟨tb, 1, none⟩ = some (.int .i64 ix) := cell_of (unhide EW).box 1
          have g2 : U7.cell? ⟨tb, 2, none⟩ = some (.int .u64 px) := cell_of (unhide EW).box 2
          have g3 : U7.cell? ⟨tb, 3, none⟩ = some (.int .i64 xe) := cell_of (unhide EW).box 3
          have KT : Hid (∀ W, Touch (fun _ => False) U7 W → Calls Try.prog 25 #[.pointer (some ⟨sb, 0, none⟩), .int .i64 0] W fun e w' => TxP W ⟨4, ix, px, wrap64 (xe + 2), [], xe, px, false⟩ e w') := fun W t => by
            have h1 := tx_tw ((unhide EW).tw.keep t (fun _ _ h => h.elim)) (n := 0) ⟨by decide, by decide⟩ (by rw [unhide HK2]; show ([] : List Int).length ≤ _; simp)
            rw [unhide HK2] at h1
            exact h1
          have TB := hide (lt_of_heap (unhide EW).box)
          have BF := hide (unhide EW).bel
          have S1 := hide g3
          clear g1 g2 EW HK2
          have we2 : IntKind.i64.wrap (xe + 2) = xe + 2 := wrap_low (by omega) (by omega)
          go_wp2_with fail
          go_region_held3 (fun w' => w'.cell? ⟨tb, 3, none⟩ = some (.int .i64 xe)) (first | exact unhide S2 | exact unhide S1) (first
            | (go_at_call 25; refine (unhide KT _ ((Touch.refl _ _).drew)).mono ?_; rintro e w9 ⟨⟨qs, qi, qp, qe, qg, qn, qc, ql, qlp, qco⟩, rfl, f9, n9, b9⟩; have hqe : qe = xe + 2 := f9.ep.trans we; subst hqe; have S2 : Hid (w9.cell? ⟨tb, 3, none⟩ = some (.int .i64 xe)) := (b9.cell (p := ⟨tb, 3, none⟩) (unhide TB)).trans (unhide S1); have BF9 : Hid (Below w.heap.size w w9) := (Below.drew (unhide BF)).trans (b9.mono (unhide BF).size); clear f9 n9 b9; simp only [tdV, tdC, tdS]; generalize qg.map (fun g => (⟨g, 0, none⟩ : Addr)) = qsa; have hfl := run_fld3 qs qi qp (xe + 2) (.slice qsa qn qc) ql qlp qco))
          all_goals
            go_wp2
            go_returns
            exact ⟨by first | rfl | simp [we2], by first | exact unhide BF9 | exact Below.drew (unhide BF9)⟩
end Go.Proofs.Ytijfjhafjblefaa
