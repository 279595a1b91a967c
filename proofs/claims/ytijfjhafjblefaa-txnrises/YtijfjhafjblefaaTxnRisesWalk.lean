/-
  TxnRises at every script: true. Conditions: none but the reading's.
-/
import Derived.Test.YtijfjhafjblefaaLi15
namespace Go.Proofs.Ytijfjhafjblefaa
open Go.RowKit Go.Maps
set_option linter.unusedVariables false

theorem tmod2 {e : Int} (h0 : 0 ≤ e) (h : e % 2 = 0) : e.tmod 2 = 0 := by rw [Int.tmod_eq_emod_of_nonneg h0]; exact h
theorem u64_next {n : Int} (h0 : 0 ≤ n) (h1 : n ≤ 1125899906842624) : IntKind.u64.wrap (n + 1) = n + 1 := by
  simp only [IntKind.wrap, IntKind.bits, IntKind.signed]
  simp
  omega
/-- What was known a round ago, in its box. -/
structure Was (w : World) (wb : Nat) (x : Tx) (q : Td) : Prop where
  at_ : w.heap[wb]? = some (.cells (tdC q) 57)
  pid : q.pid = x.pid
  ep : q.ep = x.ep
  inc : q.inc = x.inc
/-- Between the rounds. -/
structure RiS (w W : World) (sb wb : Nat) (K : Int → Option Tx) (k : Nat) (next : Int) : Prop where
  tw : TW W (fun j => j < w.heap.size ∨ j = wb) sb K k
  li : LI (getT K 0) k next
  was : ∃ q, Was W wb (getT K 0) q
  bel : Below w.heap.size w W
  big : w.heap.size ≤ wb
set_option maxRecDepth 100000 in
set_option maxHeartbeats 8000000 in
theorem txnRises_walk {os : List Oq} {a : Option Addr} {cap : Nat} (w : World) (hr : RowsAt oqL 15 w a os) (hl : os.length * 128 ≤ reachBytes) :
    Calls Try.prog 6 #[.slice a os.length cap] w fun e w' => e = .returned (.bool true) ∧ Below w.heap.size w w' := by
  unfold reachBytes at hl
  have hlen : os.length ≤ 1099511627776 := by omega
  have HR := hide hr
  clear hr hl
  obtain ⟨n, hn⟩ : ∃ y, os.length = y := ⟨_, rfl⟩
  rw [hn] at hlen ⊢
  have HN := hide hn
  clear hn
  have KN := hide (tnew_any w)
  have T0 := hide (tw_new w)
  have B0 : Hid (Below w.heap.size w (w.alloc (.cells #[.map none] 91))) := (Below.refl _ _).alloc (Nat.le_refl _) _
  go_enter Try.func6, Try.ntmps6
  go_wp2_with fail
  refine (unhide KN).mono ?_
  rintro e w1 ⟨rfl, rfl⟩
  generalize w.alloc (.cells #[.map none] 91) = W1 at *
  have KW := hide (tawake_any W1)
  clear KN
  obtain ⟨sb, hsb⟩ : ∃ y, w.heap.size = y := ⟨_, rfl⟩
  rw [hsb] at T0
  have T0' : Hid (TW W1 (fun j => j < w.heap.size) sb (fun _ => none) 0) := by rw [hsb]; exact T0
  clear T0
  have T0 := T0'
  clear T0'
  rw [hsb]
  clear hsb
  go_wp2_with (go_at_call 11; refine (unhide KW).mono ?_; rintro e w2 ⟨rfl, b2⟩)
  have T2 := hide ((unhide T0).later b2)
  have B2 : Hid (Below w.heap.size w w2) := (unhide B0).trans (b2.mono (unhide B0).size)
  have KX := hide (tx_tw (unhide T2) (n := 0) ⟨by decide, by decide⟩ (by show ([] : List Int).length ≤ _; simp))
  clear b2 T0 B0 KW
  go_wp2_with fail
  refine (unhide KX).mono ?_
  rintro e w3 ⟨q, rfl, f3, n3, b3⟩
  have S0 : Hid (∀ cs, cs = tdC q → RiS w (w3.alloc (.cells cs 57)) sb w3.heap.size (fun _ => none) 0 1) := fun cs e => by
    subst e
    have b4 : Below w3.heap.size w3 (w3.alloc (.cells (tdC q) 57)) := (Below.refl _ _).alloc (Nat.le_refl _) _
    have bb := (unhide B2).trans (b3.mono (unhide B2).size)
    exact ⟨(((unhide T2).later b3).add.later b4).weak (fun j hj => by rcases hj with e | e; exact .inl e; exact .inr (by omega)), LI.zero, ⟨q, heap_new _ _, f3.pid, f3.ep, f3.inc⟩, bb.alloc bb.size _, bb.size⟩
  clear f3 n3 b3 KX T2 B2
  obtain ⟨st, ix, px, xe, gg, n', c', la, lp, cx⟩ := q
  simp only [tdV, tdC, tdS]
  obtain ⟨sa, hsa⟩ : ∃ y, gg.map (fun g => (⟨g, 0, none⟩ : Addr)) = y := ⟨_, rfl⟩
  have S1 := hide (unhide S0 #[.int .i64 st, .int .i64 ix, .int .u64 px, .int .i64 xe, .slice sa n' c', .int .i64 la, .int .u64 lp, .bool cx] (by simp only [tdC, tdS, hsa]))
  rw [hsa]
  clear S0 hsa
  obtain ⟨wb, hwb⟩ : ∃ y, w3.heap.size = y := ⟨_, rfl⟩
  rw [hwb] at S1
  go_wp2_with fail
  generalize w3.alloc (.cells #[.int .i64 st, .int .i64 ix, .int .u64 px, .int .i64 xe, .slice sa n' c', .int .i64 la, .int .u64 lp, .bool cx] 57) = W4 at *
  try rw [hwb]
  clear hwb
  go_loopw [4, 21] (fun s4 s21 wr => ∃ (k : Nat) (next : Int) (K : Int → Option Tx), k ≤ n ∧ s21 = .int .i64 k ∧ s4 = .int .u64 next ∧ RiS w wr sb wb K k next) (fun _ s21 _ => n - (intOf s21).toNat)
  case atStart => exact ⟨0, 1, _, Nat.zero_le _, rfl, rfl, unhide S1⟩
  case round =>
    obtain ⟨k, next, K, hk, rfl, rfl, ris⟩ := hrel
    clear S1
    by_cases hlt : k < n
    · have hltz : (k : Int) < (n : Int) := by omega
      have RS := hide ris
      clear ris
      have hki : k < os.length := by rw [unhide HN]; exact hlt
      obtain ⟨b, off, hab, hb0, hcell⟩ := unhide HR k hki
      subst hab
      have BR := (unhide RS).bel
      obtain ⟨o, ho⟩ : ∃ o, os[k] = o := ⟨_, rfl⟩
      rw [ho] at hcell
      have o0 : wr.cell? ⟨b, off + k * 15, none⟩ = some (.int .i64 o.kd) := (BR.cell (p := ⟨b, off + k * 15, none⟩) hb0).trans (hcell 0 (by decide))
      have o1 : wr.cell? ⟨b, off + k * 15 + 1, none⟩ = some (.int .i64 o.n) := (BR.cell (p := ⟨b, off + k * 15 + 1, none⟩) hb0).trans (hcell 1 (by decide))
      have o2 : wr.cell? ⟨b, off + k * 15 + 2, none⟩ = some (.int .i64 o.inc) := (BR.cell (p := ⟨b, off + k * 15 + 2, none⟩) hb0).trans (hcell 2 (by decide))
      have o3 : wr.cell? ⟨b, off + k * 15 + 3, none⟩ = some (.int .i64 o.ep) := (BR.cell (p := ⟨b, off + k * 15 + 3, none⟩) hb0).trans (hcell 3 (by decide))
      have o4 : wr.cell? ⟨b, off + k * 15 + 4, none⟩ = some (.int .i64 o.pt) := (BR.cell (p := ⟨b, off + k * 15 + 4, none⟩) hb0).trans (hcell 4 (by decide))
      have o5 : wr.cell? ⟨b, off + k * 15 + 5, none⟩ = some (.int .u64 o.pid) := (BR.cell (p := ⟨b, off + k * 15 + 5, none⟩) hb0).trans (hcell 5 (by decide))
      have o6 : wr.cell? ⟨b, off + k * 15 + 6, none⟩ = some (.bool o.co) := (BR.cell (p := ⟨b, off + k * 15 + 6, none⟩) hb0).trans (hcell 6 (by decide))
      have o7 : wr.cell? ⟨b, off + k * 15 + 7, none⟩ = some (.bool o.d) := (BR.cell (p := ⟨b, off + k * 15 + 7, none⟩) hb0).trans (hcell 7 (by decide))
      have o8 : wr.cell? ⟨b, off + k * 15 + 8, none⟩ = some (.int .i64 o.g.r.kd) := (BR.cell (p := ⟨b, off + k * 15 + 8, none⟩) hb0).trans (hcell 8 (by decide))
      have o9 : wr.cell? ⟨b, off + k * 15 + 9, none⟩ = some (.int .i64 o.g.r.tx) := (BR.cell (p := ⟨b, off + k * 15 + 9, none⟩) hb0).trans (hcell 9 (by decide))
      have o10 : wr.cell? ⟨b, off + k * 15 + 10, none⟩ = some (.int .i64 o.g.r.inc) := (BR.cell (p := ⟨b, off + k * 15 + 10, none⟩) hb0).trans (hcell 10 (by decide))
      have o11 : wr.cell? ⟨b, off + k * 15 + 11, none⟩ = some (.int .u64 o.g.r.pid) := (BR.cell (p := ⟨b, off + k * 15 + 11, none⟩) hb0).trans (hcell 11 (by decide))
      have o12 : wr.cell? ⟨b, off + k * 15 + 12, none⟩ = some (.int .i64 o.g.r.ep) := (BR.cell (p := ⟨b, off + k * 15 + 12, none⟩) hb0).trans (hcell 12 (by decide))
      have o13 : wr.cell? ⟨b, off + k * 15 + 13, none⟩ = some (.slice o.g.a o.g.r.ps.length o.g.k) := (BR.cell (p := ⟨b, off + k * 15 + 13, none⟩) hb0).trans (hcell 13 (by decide))
      have o14 : wr.cell? ⟨b, off + k * 15 + 14, none⟩ = some (.bool o.g.r.co) := (BR.cell (p := ⟨b, off + k * 15 + 14, none⟩) hb0).trans (hcell 14 (by decide))
      clear hcell ho hki hb0 BR
      have hkb : k < 1125899906842624 := by omega
      have b5 : Below wr.heap.size wr (wr.alloc (.cells #[.int .i64 o.kd, .int .i64 o.n, .int .i64 o.inc, .int .i64 o.ep, .int .i64 o.pt, .int .u64 o.pid, .bool o.co, .bool o.d, .int .i64 o.g.r.kd, .int .i64 o.g.r.tx, .int .i64 o.g.r.inc, .int .u64 o.g.r.pid, .int .i64 o.g.r.ep, .slice o.g.a o.g.r.ps.length o.g.k, .bool o.g.r.co] 46)) := (Below.refl _ _).alloc (Nat.le_refl _) _
      have hwbl : wb < wr.heap.size := by obtain ⟨qw, hq⟩ := (unhide RS).was; exact lt_of_heap hq.at_
      have hbs := (unhide RS).bel.size
      have KL := life_any ((unhide RS).tw.later b5) (fun j hj => by simp; omega) o next (by have := (unhide RS).li.len; omega) (by omega)
      have lis := li_step (unhide RS).li hkb o
      rw [← lifeK_get K] at lis
      obtain ⟨qw, hqw⟩ := (unhide RS).was
      have W5 := hide (show Was (wr.alloc (.cells #[.int .i64 o.kd, .int .i64 o.n, .int .i64 o.inc, .int .i64 o.ep, .int .i64 o.pt, .int .u64 o.pid, .bool o.co, .bool o.d, .int .i64 o.g.r.kd, .int .i64 o.g.r.tx, .int .i64 o.g.r.inc, .int .u64 o.g.r.pid, .int .i64 o.g.r.ep, .slice o.g.a o.g.r.ps.length o.g.k, .bool o.g.r.co] 46)) wb (getT K 0) qw from ⟨heap_old _ hqw.at_, hqw.pid, hqw.ep, hqw.inc⟩)
      have B5 : Hid (Below w.heap.size w (wr.alloc (.cells #[.int .i64 o.kd, .int .i64 o.n, .int .i64 o.inc, .int .i64 o.ep, .int .i64 o.pt, .int .u64 o.pid, .bool o.co, .bool o.d, .int .i64 o.g.r.kd, .int .i64 o.g.r.tx, .int .i64 o.g.r.inc, .int .u64 o.g.r.pid, .int .i64 o.g.r.ep, .slice o.g.a o.g.r.ps.length o.g.k, .bool o.g.r.co] 46))) := (unhide RS).bel.alloc (unhide RS).bel.size _
      have hnx1 := (unhide RS).li.nx
      have hnk1 := (unhide RS).li.nk
      have hbig := (unhide RS).big
      simp only [oqL] at KL
      obtain ⟨d, hd⟩ : ∃ d, lifeD (getT K 0) o next = d := ⟨_, rfl⟩
      rw [hd] at KL lis
      have KLH := hide KL
      have LIS := hide lis
      clear KL lis hqw b5 hd RS
      go_wp2_with fail
      refine (unhide KLH).mono ?_
      rintro e w5 ⟨rfl, t5, u5⟩
      have T5 := hide t5
      have WA : Hid (Was w5 wb (getT K 0) qw) := ⟨u5.keep (unhide W5).at_ (fun h => h (.inr rfl)), (unhide W5).pid, (unhide W5).ep, (unhide W5).inc⟩
      have B6 : Hid (Below w.heap.size w w5) := (unhide B5).trans (TW.below u5 (fun j hj => .inl hj) (unhide B5).size)
      clear t5 u5 KLH W5 B5 o0 o1 o2 o3 o4 o5 o6 o7 o8 o9 o10 o11 o12 o13 o14
      obtain ⟨K', hK'⟩ : ∃ K', lifeK K d = K' := ⟨_, rfl⟩
      rw [hK'] at T5 LIS
      clear hK'
      obtain ⟨nx, hnx⟩ : ∃ y, nextD next d = y := ⟨_, rfl⟩
      rw [hnx] at LIS
      have hu : IntKind.u64.wrap (next + 1) = next + 1 := u64_next (by omega) (by omega)
      go_upto_if 28 with fail
      go_cut [4] from 22 to 114 (fun s4 wx => s4 = .int .u64 nx ∧ wx = w5)
      case first =>
        cases hok : d.ok with
        | false =>
          have e : nx = next := by rw [← hnx]; unfold nextD; rw [hok]; rfl
          clear hnx
          go_wp2_with fail
          go_meet
          exact ⟨by rw [e], rfl⟩
        | true =>
          have e : nx = next + 1 := by rw [← hnx]; unfold nextD; rw [hok]; rfl
          clear hnx
          go_wp2_with fail
          go_meet
          exact ⟨by rw [e], rfl⟩
      case rest =>
        obtain ⟨rfl, hww⟩ := hcut
        obtain rfl : w5 = wc := hww.symm
        clear hww hnx hu
        obtain ⟨li, ls⟩ := unhide LIS
        have KX := hide (tx_tw (unhide T5) (n := 0) ⟨by decide, by decide⟩ (by have := li.len; omega))
        clear LIS
        have LIH := hide li
        have LSH := hide ls
        clear li ls
        go_wp2_with fail
        refine (unhide KX).mono ?_
        rintro e w6 ⟨q, rfl, f6, n6, b6⟩
        have wlt : wb < w5.heap.size := lt_of_heap (unhide WA).at_
        have B7 : Hid (Below w.heap.size w w6) := (unhide B6).trans (b6.mono (unhide B6).size)
        have T6 := hide ((unhide T5).later b6)
        have hw6 := below_keep b6 (unhide WA).at_
        have wp := (unhide WA).pid
        have we := (unhide WA).ep
        have wi := (unhide WA).inc
        have li := unhide LIH
        have ls := unhide LSH
        have p0 : 0 ≤ q.ep := by rw [f6.ep]; exact li.ep0
        have p1 : ¬ 1000 < q.ep := by rw [f6.ep]; have := li.ep1; omega
        have p2 : q.ep.tmod 2 = 0 := by rw [f6.ep]; exact tmod2 li.ep0 li.ev
        have p3 : q.pid = qw.pid → ¬ q.ep < qw.ep := by rw [f6.pid, f6.ep, wp, we]; intro h; have := ls.same h; omega
        have p4 : q.pid ≠ qw.pid → q.ep = 0 := by rw [f6.pid, f6.ep, wp]; exact ls.other
        have p5 : ¬ q.inc < qw.inc := by rw [f6.inc, wi]; have := ls.inc; omega
        obtain ⟨ia, ic, ie, _⟩ := f6.row.iat
        injection ie with _ ie2 _
        have p6 : (q.st = 2 ∨ q.st = 3) ↔ 0 < q.n := by
          rw [f6.st, ie2]
          refine li.op.trans ⟨fun h => List.length_pos_iff.2 h, fun h e => by rw [e] at h; simp at h⟩
        have p7 : q.st = 3 → q.la = q.ep ∧ q.lp = q.pid := by rw [f6.st, f6.la, f6.lp, f6.ep, f6.pid]; exact li.prep
        have F6 : Hid (q.pid = (getT K' 0).pid ∧ q.ep = (getT K' 0).ep ∧ q.inc = (getT K' 0).inc) := ⟨f6.pid, f6.ep, f6.inc⟩
        obtain ⟨st, ix, px, xe, gg, n', c', la, lp, cx⟩ := q
        obtain ⟨wst, wix, wpx, wxe, wgg, wn', wc', wla, wlp, wcx⟩ := qw
        simp only at p0 p1 p2 p3 p4 p5 p6 p7 F6
        simp only [tdV, tdC, tdS]
        simp only [tdC, tdS] at hw6
        obtain ⟨sa2, hsa⟩ : ∃ y, gg.map (fun g => (⟨g, 0, none⟩ : Addr)) = y := ⟨_, rfl⟩
        obtain ⟨wsa, hwsa⟩ : ∃ y, wgg.map (fun g => (⟨g, 0, none⟩ : Addr)) = y := ⟨_, rfl⟩
        have HSA := hide hsa
        rw [hsa]
        rw [hwsa] at hw6
        have HW := hide (heap_old (.cells #[.int .i64 st, .int .i64 ix, .int .u64 px, .int .i64 xe, .slice sa2 n' c', .int .i64 la, .int .u64 lp, .bool cx] 57) hw6)
        have HG := hide (heap_new w6 (.cells #[.int .i64 st, .int .i64 ix, .int .u64 px, .int .i64 xe, .slice sa2 n' c', .int .i64 la, .int .u64 lp, .bool cx] 57))
        have BV : Hid (Below w.heap.size w (w6.alloc (.cells #[.int .i64 st, .int .i64 ix, .int .u64 px, .int .i64 xe, .slice sa2 n' c', .int .i64 la, .int .u64 lp, .bool cx] 57))) := (unhide B7).alloc (unhide B7).size _
        have TV : Hid (TW (w6.alloc (.cells #[.int .i64 st, .int .i64 ix, .int .u64 px, .int .i64 xe, .slice sa2 n' c', .int .i64 la, .int .u64 lp, .bool cx] 57)) (fun j => j < w.heap.size ∨ j = wb) sb K' (k + 1)) := (unhide T6).later ((Below.refl _ _).alloc (Nat.le_refl _) _)
        have hgb : wb < w6.heap.size := Nat.lt_of_lt_of_le wlt b6.size
        have P3 := hide p3
        have P4 := hide p4
        have P6 := hide p6
        have P7 := hide p7
        clear f6 n6 b6 KX li ls hw6 hsa hwsa ie2 T6 T5 WA B6 B7 wp we wi p3 p4 p6 p7 wlt
        obtain ⟨gb, hgbe⟩ : ∃ y, w6.heap.size = y := ⟨_, rfl⟩
        rw [hgbe] at HG hgb
        go_upto_region 12 with fail
        generalize w6.alloc (.cells #[.int .i64 st, .int .i64 ix, .int .u64 px, .int .i64 xe, .slice sa2 n' c', .int .i64 la, .int .u64 lp, .bool cx] 57) = V at *
        try rw [hgbe]
        clear hgbe
        have g0 : V.cell? ⟨gb, 0, none⟩ = some (.int .i64 st) := cell_of (unhide HG) 0
        have g1 : V.cell? ⟨gb, 1, none⟩ = some (.int .i64 ix) := cell_of (unhide HG) 1
        have g2 : V.cell? ⟨gb, 2, none⟩ = some (.int .u64 px) := cell_of (unhide HG) 2
        have g3 : V.cell? ⟨gb, 3, none⟩ = some (.int .i64 xe) := cell_of (unhide HG) 3
        have g4 : V.cell? ⟨gb, 4, none⟩ = some (.slice sa2 n' c') := cell_of (unhide HG) 4
        have g5 : V.cell? ⟨gb, 5, none⟩ = some (.int .i64 la) := cell_of (unhide HG) 5
        have g6 : V.cell? ⟨gb, 6, none⟩ = some (.int .u64 lp) := cell_of (unhide HG) 6
        have g7 : V.cell? ⟨gb, 7, none⟩ = some (.bool cx) := cell_of (unhide HG) 7
        have v0 : V.cell? ⟨wb, 0, none⟩ = some (.int .i64 wst) := cell_of (unhide HW) 0
        have fv0 : V.frozen? ⟨wb, 0, none⟩ = false := frozen_of (unhide HW) 0
        have v1 : V.cell? ⟨wb, 1, none⟩ = some (.int .i64 wix) := cell_of (unhide HW) 1
        have fv1 : V.frozen? ⟨wb, 1, none⟩ = false := frozen_of (unhide HW) 1
        have v2 : V.cell? ⟨wb, 2, none⟩ = some (.int .u64 wpx) := cell_of (unhide HW) 2
        have fv2 : V.frozen? ⟨wb, 2, none⟩ = false := frozen_of (unhide HW) 2
        have v3 : V.cell? ⟨wb, 3, none⟩ = some (.int .i64 wxe) := cell_of (unhide HW) 3
        have fv3 : V.frozen? ⟨wb, 3, none⟩ = false := frozen_of (unhide HW) 3
        have v4 : V.cell? ⟨wb, 4, none⟩ = some (.slice wsa wn' wc') := cell_of (unhide HW) 4
        have fv4 : V.frozen? ⟨wb, 4, none⟩ = false := frozen_of (unhide HW) 4
        have v5 : V.cell? ⟨wb, 5, none⟩ = some (.int .i64 wla) := cell_of (unhide HW) 5
        have fv5 : V.frozen? ⟨wb, 5, none⟩ = false := frozen_of (unhide HW) 5
        have v6 : V.cell? ⟨wb, 6, none⟩ = some (.int .u64 wlp) := cell_of (unhide HW) 6
        have fv6 : V.frozen? ⟨wb, 6, none⟩ = false := frozen_of (unhide HW) 6
        have v7 : V.cell? ⟨wb, 7, none⟩ = some (.bool wcx) := cell_of (unhide HW) 7
        have fv7 : V.frozen? ⟨wb, 7, none⟩ = false := frozen_of (unhide HW) 7
        have hne : gb ≠ wb := by omega
        have HF : Hid (RiS w ((((((((V.setCell ⟨wb, 0, none⟩ (.int .i64 st)).setCell ⟨wb, 1, none⟩ (.int .i64 ix)).setCell ⟨wb, 2, none⟩ (.int .u64 px)).setCell ⟨wb, 3, none⟩ (.int .i64 xe)).setCell ⟨wb, 4, none⟩ (.slice sa2 n' c')).setCell ⟨wb, 5, none⟩ (.int .i64 la)).setCell ⟨wb, 6, none⟩ (.int .u64 lp)).setCell ⟨wb, 7, none⟩ (.bool cx)) sb wb K' (k + 1) nx) := by
          obtain ⟨s1, s2⟩ := set8 (unhide HW) rfl (.int .i64 st) (.int .i64 ix) (.int .u64 px) (.int .i64 xe) (.slice sa2 n' c') (.int .i64 la) (.int .u64 lp) (.bool cx)
          refine ⟨(unhide TV).keep s2 (fun j _ hj => .inr hj), unhide LIH, ⟨⟨st, ix, px, xe, gg, n', c', la, lp, cx⟩, by simp only [tdC, tdS]; rw [unhide HSA]; exact s1, (unhide F6).1, (unhide F6).2.1, (unhide F6).2.2⟩, below_touch (unhide BV) s2 (unhide BV).size (fun j hj => by have := hbig; omega), hbig⟩
        have done : Hid (k + 1 ≤ n) := hlt
        clear LIH LSH BV TV HW HG F6 HSA
        by_cases hp : px = wpx
        · have hq := unhide P3 hp
          subst hp
          clear P3 P4
          by_cases s2 : st = 2
          · have hn := (unhide P6).1 (.inl s2)
            have hnz : (0 : Int) < (n' : Int) := by omega
            subst s2
            clear P6 P7
            go_wp2
            go_roundw
            case rel => exact ⟨k + 1, nx, K', unhide done, by go_num, rfl, unhide HF⟩
            case measure => simp [intOf]; omega
          by_cases s3 : st = 3
          · have hn := (unhide P6).1 (.inr s3)
            obtain ⟨ha, hb⟩ := unhide P7 s3
            have hnz : (0 : Int) < (n' : Int) := by omega
            subst s3 ha hb
            clear P6 P7 s2
            go_wp2
            go_roundw
            case rel => exact ⟨k + 1, nx, K', unhide done, by go_num, rfl, unhide HF⟩
            case measure => simp [intOf]; omega
          · have hn : n' = 0 := by
              by_cases h0 : 0 < n'
              · exact ((unhide P6).2 h0).elim (fun e => absurd e s2) (fun e => absurd e s3)
              · omega
            subst hn
            have s2b : (st == 2) = false := by simpa using s2
            have s3b : (st == 3) = false := by simpa using s3
            clear P6 P7
            go_wp2
            go_roundw
            case rel => exact ⟨k + 1, nx, K', unhide done, by go_num, rfl, unhide HF⟩
            case measure => simp [intOf]; omega
        · have hq := unhide P4 hp
          subst hq
          clear P3 P4
          by_cases s2 : st = 2
          · have hn := (unhide P6).1 (.inl s2)
            have hnz : (0 : Int) < (n' : Int) := by omega
            subst s2
            clear P6 P7
            go_wp2
            go_roundw
            case rel => exact ⟨k + 1, nx, K', unhide done, by go_num, rfl, unhide HF⟩
            case measure => simp [intOf]; omega
          by_cases s3 : st = 3
          · have hn := (unhide P6).1 (.inr s3)
            obtain ⟨ha, hb⟩ := unhide P7 s3
            have hnz : (0 : Int) < (n' : Int) := by omega
            subst s3 ha hb
            clear P6 P7 s2
            go_wp2
            go_roundw
            case rel => exact ⟨k + 1, nx, K', unhide done, by go_num, rfl, unhide HF⟩
            case measure => simp [intOf]; omega
          · have hn : n' = 0 := by
              by_cases h0 : 0 < n'
              · exact ((unhide P6).2 h0).elim (fun e => absurd e s2) (fun e => absurd e s3)
              · omega
            subst hn
            have s2b : (st == 2) = false := by simpa using s2
            have s3b : (st == 3) = false := by simpa using s3
            clear P6 P7
            go_wp2
            go_roundw
            case rel => exact ⟨k + 1, nx, K', unhide done, by go_num, rfl, unhide HF⟩
            case measure => simp [intOf]; omega
    · have e : k = n := by omega
      have BR := hide ris.bel
      clear ris
      have hltz : ¬ (k : Int) < (n : Int) := by omega
      go_wp2
      go_returns
      exact ⟨rfl, unhide BR⟩
end Go.Proofs.Ytijfjhafjblefaa
