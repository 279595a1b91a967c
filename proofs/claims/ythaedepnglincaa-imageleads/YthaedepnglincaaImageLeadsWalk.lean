/-
  The road of ImageLeads. Conditions: its list as it is read.
-/
import Derived.Test.YthaedepnglincaaLd13
import Derived.Deep.CutBlock
namespace Go.Proofs.Ythaedepnglincaa
open Go.RowKit Go.Maps
set_option linter.unusedVariables false

/-- The four partitions as they were. -/
structure Was (W : World) (wb : Nat) (ws : List Pm) : Prop where
  at_ : W.heap[wb]? = some (.cells (ws.flatMap pmC).toArray 31)
  len : ws.length = 4
theorem Was.keep {W W' : World} {wb : Nat} {ws : List Pm} (h : Was W wb ws) (b : Below W.heap.size W W') : Was W' wb ws := ⟨below_keep b h.at_, h.len⟩
theorem Was.alien {W : World} {wb : Nat} {ws : List Pm} (h : Was W wb ws) : ∀ mb m, ImAt W mb m → ¬ m.R mb wb := fun mb m hm => hm.alien h.at_ (by decide) (by decide) (by decide) (by decide) (by decide)
theorem Was.cells {W : World} {wb : Nat} {ws : List Pm} (h : Was W wb ws) {k : Nat} (hk : k < 4) : ∃ p, ws[k]? = some p ∧ (∀ f, f < 6 → W.cell? ⟨wb, k * 6 + f, none⟩ = (pmC p)[f]?) ∧ ∀ j, W.frozen? ⟨wb, j, none⟩ = false := by
  have hl : k < ws.length := by rw [h.len]; exact hk
  refine ⟨ws[k], List.getElem?_eq_getElem hl, fun f hf => ?_, fun j => frozen_of h.at_ j⟩
  rw [cell_of h.at_, List.getElem?_toArray]
  exact flat_at pmC pmC_len ws k f hl hf
theorem Was.set {W : World} {wb : Nat} {ws : List Pm} (h : Was W wb ws) {k : Nat} (hk : k < 4) (p : Pm) :
    Was ((((((W.setCell ⟨wb, k * 6, none⟩ (.int .i64 p.q.ld)).setCell ⟨wb, k * 6 + 1, none⟩ (.int .i64 p.q.ep)).setCell ⟨wb, k * 6 + 2, none⟩ (.int .i64 p.q.ve)).setCell ⟨wb, k * 6 + 3, none⟩ p.vi).setCell ⟨wb, k * 6 + 4, none⟩ p.vr).setCell ⟨wb, k * 6 + 5, none⟩ p.vt) wb (ws.set k p) ∧
    Touch (· = wb) W ((((((W.setCell ⟨wb, k * 6, none⟩ (.int .i64 p.q.ld)).setCell ⟨wb, k * 6 + 1, none⟩ (.int .i64 p.q.ep)).setCell ⟨wb, k * 6 + 2, none⟩ (.int .i64 p.q.ve)).setCell ⟨wb, k * 6 + 3, none⟩ p.vi).setCell ⟨wb, k * 6 + 4, none⟩ p.vr).setCell ⟨wb, k * 6 + 5, none⟩ p.vt) := by
  have hl : k < ws.length := by rw [h.len]; exact hk
  refine ⟨⟨?_, by simp [h.len]⟩, (((((touch_set _ _ _ _).trans (touch_set _ _ _ _)).trans (touch_set _ _ _ _)).trans (touch_set _ _ _ _)).trans (touch_set _ _ _ _)).trans (touch_set _ _ _ _)⟩
  have q0 := heap_set h.at_ (k * 6 + 0) (.int .i64 p.q.ld)
  have q1 := heap_set q0 (k * 6 + 1) (.int .i64 p.q.ep)
  have q2 := heap_set q1 (k * 6 + 2) (.int .i64 p.q.ve)
  have q3 := heap_set q2 (k * 6 + 3) p.vi
  have q4 := heap_set q3 (k * 6 + 4) p.vr
  have q5 := heap_set q4 (k * 6 + 5) p.vt
  simp only [List.setIfInBounds_toArray] at q5
  obtain ⟨o, e⟩ : ∃ o, ws[k] = o := ⟨_, rfl⟩
  rw [flat_set pmC pmC_len ws k 0 (.int .i64 p.q.ld) ⟨⟨p.q.ld, o.q.ep, o.q.ve, p.q.is, p.q.rs, p.q.ts⟩, o.vi, o.vr, o.vt⟩ hl (by omega) (by rw [e]; rfl),
    flat_set pmC pmC_len _ k 1 (.int .i64 p.q.ep) ⟨⟨p.q.ld, p.q.ep, o.q.ve, p.q.is, p.q.rs, p.q.ts⟩, o.vi, o.vr, o.vt⟩ (by simpa using hl) (by omega) (by simp [pmC]), List.set_set,
    flat_set pmC pmC_len _ k 2 (.int .i64 p.q.ve) ⟨p.q, o.vi, o.vr, o.vt⟩ (by simpa using hl) (by omega) (by simp [pmC]), List.set_set,
    flat_set pmC pmC_len _ k 3 p.vi ⟨p.q, p.vi, o.vr, o.vt⟩ (by simpa using hl) (by omega) (by simp [pmC]), List.set_set,
    flat_set pmC pmC_len _ k 4 p.vr ⟨p.q, p.vi, p.vr, o.vt⟩ (by simpa using hl) (by omega) (by simp [pmC]), List.set_set,
    flat_set pmC pmC_len _ k 5 p.vt p (by simpa using hl) (by omega) (by simp [pmC]), List.set_set] at q5
  exact q5
def wz : List Pm := List.replicate 4 ⟨⟨0, 0, 0, [], [], []⟩, .slice none 0 0, .slice none 0 0, .slice none 0 0⟩
/-- The k-th as it was has these numbers. -/
def Mt (ws : List Pm) (k : Nat) (q : Pt) : Prop := ∃ p, ws[k]? = some p ∧ p.q.ld = q.ld ∧ p.q.ep = q.ep ∧ p.q.ve = q.ve
theorem Mt.set_ne {ws : List Pm} {k j : Nat} {q : Pt} {p : Pm} (h : Mt ws j q) (hk : k ≠ j) : Mt (ws.set k p) j q := by
  obtain ⟨o, h1, h2⟩ := h
  exact ⟨o, by rw [List.getElem?_set_ne hk]; exact h1, h2⟩
theorem Mt.set_eq {ws : List Pm} {k : Nat} {q : Pt} {p : Pm} (hk : k < ws.length) (h : p.q.ld = q.ld ∧ p.q.ep = q.ep ∧ p.q.ve = q.ve) : Mt (ws.set k p) k q :=
  ⟨p, by simp [hk], h⟩
set_option maxRecDepth 100000 in
set_option maxHeartbeats 4000000 in
theorem imageLeads_walk (w : World) (a : Option Addr) (cap : Nat) (cs : List Cm) (hr : RowsAt cmL 6 w a cs) (hin : ∀ c ∈ cs, CGot w c) (hlen : cs.length * 64 ≤ reachBytes) :
    Calls Try.prog 3 #[.slice a cs.length cap] w fun e w' => e = .returned (.bool true) ∧ Below w.heap.size w w' := by
  have K0 := hide (ls_new w)
  have HR := hide hr
  have HIN := hide hin
  unfold reachBytes at hlen
  have hlen2 : cs.length ≤ 2199023255552 := by omega
  clear hr hin hlen
  go_enter Try.func3, Try.ntmps3
  go_wp2_with (first
    | (go_at_call 5; refine (unhide K0).mono ?_; rintro e w1 ⟨mb, rfl, q1⟩; have Q1 := hide q1; clear q1 K0)
    | (go_at_call 6; refine (awake13 _).mono ?_; rintro e w2 ⟨rfl, b2⟩; have Q2 := hide ((unhide Q1).later b2); clear b2 Q1))
  have A3 := hide (show Was (w2.alloc (.cells (wz.flatMap pmC).toArray 31)) w2.heap.size wz from ⟨heap_new _ _, by simp [wz]⟩)
  have Q3 := hide ((unhide Q2).later ((Below.refl _ _).alloc (Nat.le_refl _) (.cells (wz.flatMap pmC).toArray 31)))
  have hwb : w.heap.size ≤ w2.heap.size := (unhide Q2).below.size
  change Hid (Was (w2.alloc (.cells #[.int .i64 0, .int .i64 0, .int .i64 0, .slice none 0 0, .slice none 0 0, .slice none 0 0, .int .i64 0, .int .i64 0, .int .i64 0, .slice none 0 0, .slice none 0 0, .slice none 0 0, .int .i64 0, .int .i64 0, .int .i64 0, .slice none 0 0, .slice none 0 0, .slice none 0 0, .int .i64 0, .int .i64 0, .int .i64 0, .slice none 0 0, .slice none 0 0, .slice none 0 0] 31)) w2.heap.size wz) at A3
  change Hid (LS w (w2.alloc (.cells #[.int .i64 0, .int .i64 0, .int .i64 0, .slice none 0 0, .slice none 0 0, .slice none 0 0, .int .i64 0, .int .i64 0, .int .i64 0, .slice none 0 0, .slice none 0 0, .slice none 0 0, .int .i64 0, .int .i64 0, .int .i64 0, .slice none 0 0, .slice none 0 0, .slice none 0 0, .int .i64 0, .int .i64 0, .int .i64 0, .slice none 0 0, .slice none 0 0, .slice none 0 0] 31)) mb (newI 5 4 3)) at Q3
  generalize hW3 : w2.alloc (.cells #[.int .i64 0, .int .i64 0, .int .i64 0, .slice none 0 0, .slice none 0 0, .slice none 0 0, .int .i64 0, .int .i64 0, .int .i64 0, .slice none 0 0, .slice none 0 0, .slice none 0 0, .int .i64 0, .int .i64 0, .int .i64 0, .slice none 0 0, .slice none 0 0, .slice none 0 0, .int .i64 0, .int .i64 0, .int .i64 0, .slice none 0 0, .slice none 0 0, .slice none 0 0] 31) = W3 at *
  generalize w2.heap.size = wb at *
  clear hW3 Q2
  generalize hn : cs.length = n at *
  have HN := hide hn
  clear hn
  go_loopg [36] n (fun gg s36 wr => ∃ (i : Nat) (g : Img) (ws : List Pm), i ≤ n ∧ n - i ≤ gg ∧ s36 = .int .i64 i ∧ Hid (LS w wr mb g) ∧ Hid (GL 5 4 (3 * (i : Int)) g) ∧ Hid (g.ct = (i : Int)) ∧ Hid (Was wr wb ws) ∧ Hid (0 < i → ∀ (k : Nat) (q : Pt), g.ps[k]? = some q → Mt ws k q))
  case atStart => exact ⟨0, newI 5 4 3, wz, Nat.zero_le _, by omega, rfl, Q3, hide gl_new, hide rfl, A3, hide (fun h => absurd h (by omega))⟩
  case round =>
    clear Q3 A3
    obtain ⟨i, g, ws, hi, hgg, rfl, L, G, CT, A, MT⟩ := hrel
    by_cases hlt : i < n
    · have hltz : (i : Int) < (n : Int) := by omega
      have hiz : (0 : Int) ≤ (i : Int) := by omega
      have hil : i < cs.length := by rw [unhide HN]; exact hlt
      obtain ⟨b, off, ea, hbl, hcell⟩ := unhide HR i hil
      have CG := hide (unhide HIN _ (List.getElem_mem hil))
      generalize cs[i] = c at *
      obtain ⟨kd, nd, pt, ep, ve, ca, ck, cl⟩ := c
      have z0 := ((unhide L).below.cell (p := ⟨b, off + i * 6, none⟩) hbl).trans (hcell 0 (by omega))
      have z1 := ((unhide L).below.cell (p := ⟨b, off + i * 6 + 1, none⟩) hbl).trans (hcell 1 (by omega))
      have z2 := ((unhide L).below.cell (p := ⟨b, off + i * 6 + 2, none⟩) hbl).trans (hcell 2 (by omega))
      have z3 := ((unhide L).below.cell (p := ⟨b, off + i * 6 + 3, none⟩) hbl).trans (hcell 3 (by omega))
      have z4 := ((unhide L).below.cell (p := ⟨b, off + i * 6 + 4, none⟩) hbl).trans (hcell 4 (by omega))
      have z5 := ((unhide L).below.cell (p := ⟨b, off + i * 6 + 5, none⟩) hbl).trans (hcell 5 (by omega))
      simp only [cmL, List.getElem?_cons_zero, List.getElem?_cons_succ] at z0 z1 z2 z3 z4 z5
      subst ea
      clear hcell hbl hil
      have KO : Hid (∀ W, Below wr.heap.size wr W → Calls Try.prog 8 #[.agg #[.int .i64 kd, .int .i64 nd, .int .i64 pt, .int .i64 ep, .int .i64 ve, .slice ca cl.length ck]] W fun e w' => ∃ a k, e = .returned (.agg #[.int .i64 kd, .int .i64 nd, .int .i64 pt, .int .i64 ep, .int .i64 ve, .slice a cl.length k]) ∧ Hid (IL w' (.slice a cl.length k) cl) ∧ Hid (New wr (.slice a cl.length k)) ∧ Hid (Below wr.heap.size wr w')) := hide (fun W hW => (own_any (((unhide CG).later (unhide L).below).later hW)).mono (by
        rintro e w' ⟨a, k, rfl, h1, h2, h3⟩
        exact ⟨a, k, rfl, hide h1, hide (h2.mono hW.size), hide (hW.trans (h3.mono hW.size))⟩))
      have KA : Hid (∀ W oa ok, Below wr.heap.size wr W → IL W (.slice oa cl.length ok) cl → New wr (.slice oa cl.length ok) → Calls Try.prog 7 #[.pointer (some ⟨mb, 0, none⟩), .agg #[.int .i64 kd, .int .i64 nd, .int .i64 pt, .int .i64 ep, .int .i64 ve, .slice oa cl.length ok]] W fun e w3 => ∃ (E : Int) (g' : Img), e = .returned (.int .i64 E) ∧ Hid (LS w w3 mb g') ∧ Hid (GL 5 4 (3 * ((i + 1 : Nat) : Int)) g') ∧ Hid (g'.ct = ((i + 1 : Nat) : Int)) ∧ Hid (GoL g.ps g'.ps) ∧ Hid (Was w3 wb ws)) := hide (fun W oa ok hW h1 h2 => by
        have ct := unhide CT
        refine (ls_apply kd nd pt ep ve (unhide L) (unhide G) (by omega) (by omega) (by omega) hW h1 h2).mono ?_
        rintro e w3 ⟨E, rfl, q1, q2⟩
        obtain ⟨g1, g2, g3⟩ := (unhide G).apply ⟨kd, nd, pt, ep, ve, oa, ok, cl⟩
        have AW := (unhide A).keep hW
        refine ⟨E, _, rfl, hide q1, hide ?_, hide (by rw [g3, ct]; omega), hide g2, hide ⟨(q2 wb (fun m hm => AW.alien mb m hm) (lt_of_heap AW.at_)).trans AW.at_, AW.len⟩⟩
        have e3 : (3 : Int) * ((i + 1 : Nat) : Int) = 3 * (i : Int) + 3 := by omega
        rw [e3]; exact g1)
      have HGL := hide (unhide G).gf.pl
      generalize hcn : cl.length = cn at *
      clear hcn
      go_wp2_with (first
        | (go_at_call 8; refine (unhide KO _ (by go_grown)).mono ?_; rintro e w4 ⟨oa, ok, rfl, O1, O2, O3⟩; clear KO z0 z1 z2 z3 z4 z5)
        | (go_at_call 7; refine (unhide KA w4 oa ok (unhide O3) (unhide O1) (unhide O2)).mono ?_; rintro e w5 ⟨E, g', rfl, L5, G5, CT5, GO, A5⟩; clear KA O1 O2 O3 L A G CT))
      go_loopg [8] 4 (fun gk s8 wk => ∃ (k : Nat) (wt : List Pm), k ≤ 4 ∧ 4 - k ≤ gk ∧ s8 = .int .i64 k ∧ Hid (LS w wk mb g') ∧ Hid (Was wk wb wt) ∧ Hid (∀ (j : Nat) (q : Pt), j < k → g'.ps[j]? = some q → Mt wt j q) ∧ Hid (0 < i → ∀ (j : Nat) (q : Pt), k ≤ j → g.ps[j]? = some q → Mt wt j q))
      case atStart => exact ⟨0, ws, by omega, by omega, rfl, L5, A5, hide (fun j q h => absurd h (by omega)), hide (fun h j q _ hq => unhide MT h j q hq)⟩
      case round =>
        clear L5 A5 MT
        obtain ⟨k, wt, hk, hgk, rfl, L, A, M1, M2⟩ := hrel
        by_cases hk4 : k < 4
        · have hkz : (k : Int) < 4 := by omega
          have hk0 : (0 : Int) ≤ (k : Int) := by omega
          obtain ⟨q, hq⟩ : ∃ q, g'.ps[k]? = some q := ⟨_, List.getElem?_eq_getElem (by rw [(unhide G5).gf.pl]; exact hk4)⟩
          have LQ := hide ((unhide G5).li k q hq)
          have KP := hide (ls_part (unhide L) (unhide G5) hq)
          have HQ := hide hq
          clear hq
          have ni0 : ¬ (q.is.length : Int) = 0 := by
            have := (unhide LQ).is0
            intro e
            exact this (List.length_eq_zero_iff.1 (by omega))
          have nr0 : ¬ (q.rs.length : Int) = 0 := by
            have := (unhide LQ).rs0
            intro e
            exact this (List.length_eq_zero_iff.1 (by omega))
          have ni1 : ((q.is.length : Int) == 0) = false := by simpa using ni0
          have nr1 : ((q.rs.length : Int) == 0) = false := by simpa using nr0
          go_upto_region 13 with (go_at_call 9; refine (unhide KP).mono ?_; rintro e w6 ⟨ui, ur, ut, rfl, td⟩; obtain ⟨ai, ki, ei, _⟩ := td.li.iat; subst ei; obtain ⟨ar, kr, er, _⟩ := td.lr.iat; subst er; obtain ⟨at_, kt, et, _⟩ := td.lt.iat; subst et; have TD := hide td; clear td KP)
          have b6 : Below wr.heap.size wr (w6.alloc (.cells #[.int .i64 q.ld, .int .i64 q.ep, .int .i64 q.ve, .slice ai q.is.length ki, .slice ar q.rs.length kr, .slice at_ q.ts.length kt] 30)) := (unhide TD).below.trans (((Below.refl _ _).alloc (Nat.le_refl _) _).mono (unhide TD).below.size)
          have bx := heap_new w6 (.cells #[.int .i64 q.ld, .int .i64 q.ep, .int .i64 q.ve, .slice ai q.is.length ki, .slice ar q.rs.length kr, .slice at_ q.ts.length kt] 30)
          have TI := hide ((unhide TD).li.later ((Below.refl _ _).alloc (Nat.le_refl _) (.cells #[.int .i64 q.ld, .int .i64 q.ep, .int .i64 q.ve, .slice ai q.is.length ki, .slice ar q.rs.length kr, .slice at_ q.ts.length kt] 30)))
          have TR := hide ((unhide TD).lr.later ((Below.refl _ _).alloc (Nat.le_refl _) (.cells #[.int .i64 q.ld, .int .i64 q.ep, .int .i64 q.ve, .slice ai q.is.length ki, .slice ar q.rs.length kr, .slice at_ q.ts.length kt] 30)))
          have TT := hide ((unhide TD).lt.later ((Below.refl _ _).alloc (Nat.le_refl _) (.cells #[.int .i64 q.ld, .int .i64 q.ep, .int .i64 q.ve, .slice ai q.is.length ki, .slice ar q.rs.length kr, .slice at_ q.ts.length kt] 30)))
          have L6 := hide ((unhide L).later b6)
          have A6 := hide ((unhide A).keep b6)
          clear b6 TD
          generalize w6.alloc (.cells #[.int .i64 q.ld, .int .i64 q.ep, .int .i64 q.ve, .slice ai q.is.length ki, .slice ar q.rs.length kr, .slice at_ q.ts.length kt] 30) = W6 at *
          generalize w6.heap.size = pb at *
          have BXH := hide bx
          have KN : Hid (∀ W x, Below W6.heap.size W6 W → isN 5 x = true → Calls Try.prog 10 #[.pointer (some ⟨mb, 0, none⟩), .int .i64 x] W fun e w' => ∃ (t u : Int), e = .returned (.tuple #[.bool (thr g'.ns x), .int .i64 t, .int .u64 u]) ∧ Hid (Below W6.heap.size W6 w')) := hide (fun W x hW hx => (ls_node ((unhide L6).later hW) (unhide G5) hx).mono (by
            rintro e w' ⟨t, u, rfl, b⟩
            exact ⟨t, u, rfl, hide (hW.trans (b.mono hW.size))⟩))
          have KHI : Hid (∀ W x, Below W6.heap.size W6 W → Calls Try.prog 11 #[.slice ai q.is.length ki, .int .i64 x] W fun e w' => e = .returned (.bool (q.is.contains x)) ∧ w' = W) := hide (fun W x hW => by
            obtain ⟨a', k', e', h1, _⟩ := ((unhide TI).later hW).iat
            injection e' with e1 e2 e3
            subst e1 e3
            exact has_any x h1 (unhide TI).len)
          have KHR : Hid (∀ W x, Below W6.heap.size W6 W → Calls Try.prog 11 #[.slice ar q.rs.length kr, .int .i64 x] W fun e w' => e = .returned (.bool (q.rs.contains x)) ∧ w' = W) := hide (fun W x hW => by
            obtain ⟨a', k', e', h1, _⟩ := ((unhide TR).later hW).iat
            injection e' with e1 e2 e3
            subst e1 e3
            exact has_any x h1 (unhide TR).len)
          have KHT : Hid (∀ W x, Below W6.heap.size W6 W → Calls Try.prog 11 #[.slice at_ q.ts.length kt, .int .i64 x] W fun e w' => e = .returned (.bool (q.ts.contains x)) ∧ w' = W) := hide (fun W x hW => by
            obtain ⟨a', k', e', h1, _⟩ := ((unhide TT).later hW).iat
            injection e' with e1 e2 e3
            subst e1 e3
            exact has_any x h1 (unhide TT).len)
          have IA : Hid (IAt W6 ai q.is) := hide (by
            obtain ⟨a', k', e', h1, _⟩ := (unhide TI).iat
            injection e' with e1 e2 e3
            subst e1
            exact h1)
          have hbig : q.is.length ≤ 1000 := ((unhide G5).gf.each q (List.mem_of_getElem? (unhide HQ))).il
          have p3 : W6.cell? ⟨pb, 3, none⟩ = some (.slice ai q.is.length ki) := cell_of bx 3
          have p4 : W6.cell? ⟨pb, 4, none⟩ = some (.slice ar q.rs.length kr) := cell_of bx 4
          clear bx L A
          generalize hni : q.is.length = ni at *
          have HNI := hide hni
          clear hni
          go_wp2_with fail
          clear p3 p4
          go_loopg [11, 72] ni (fun gj s11 s72 wq => ∃ (j : Nat) (bb : Bool), j ≤ ni ∧ ni - j ≤ gj ∧ s72 = .int .i64 j ∧ s11 = .bool bb ∧ Hid (bb = (q.is.take j).any (thr g'.ns)) ∧ Hid (Below W6.heap.size W6 wq))
          case atStart => exact ⟨0, false, by omega, by omega, rfl, rfl, hide (by simp), hide (Below.refl _ _)⟩
          case round =>
            obtain ⟨j, bb, hj, hgj, rfl, rfl, BB, BQ⟩ := hrel
            by_cases hjn : j < ni
            · have hjz : (j : Int) < (ni : Int) := by omega
              have hj0 : (0 : Int) ≤ (j : Int) := by omega
              have hjl : j < q.is.length := by rw [unhide HNI]; exact hjn
              have HS := hide (take_snoc hjl)
              obtain ⟨yb, yo, ea, hyl, hyc⟩ := unhide IA j hjl
              have ym : q.is.getD j 0 ∈ q.is := by rw [show q.is.getD j 0 = q.is[j] by simp [List.getD, hjl]]; exact List.getElem_mem hjl
              have YN := hide ((unhide LQ).nn _ ym)
              have YS := hide ((unhide LQ).sub _ ym)
              have yc := ((unhide BQ).cell (p := ⟨yb, yo + j, none⟩) hyl).trans hyc
              subst ea
              clear hjl hyl hyc ym
              generalize q.is.getD j 0 = y at *
              have BXQ : Hid (∀ W, Below W6.heap.size W6 W → W.cell? ⟨pb, 4, none⟩ = some (.slice ar q.rs.length kr) ∧ W.cell? ⟨pb, 5, none⟩ = some (.slice at_ q.ts.length kt)) := hide (fun W hW => by
                have := below_keep hW (unhide BXH)
                exact ⟨cell_of this 4, cell_of this 5⟩)
              have KNy : Hid (Calls Try.prog 10 #[.pointer (some ⟨mb, 0, none⟩), .int .i64 y] wr fun e w' => ∃ (t u : Int), e = .returned (.tuple #[.bool (thr g'.ns y), .int .i64 t, .int .u64 u]) ∧ Hid (Below W6.heap.size W6 w')) := hide (unhide KN wr y (unhide BQ) (unhide YN))
              have KR := fun W h => unhide KHR W y h
              have KT := fun W h => unhide KHT W y h
              have hrt : q.rs.contains y = true ∨ (q.rs.contains y = false ∧ q.ts.contains y = true) := by
                cases hc : q.rs.contains y with
                | true => exact .inl rfl
                | false =>
                  refine .inr ⟨rfl, ?_⟩
                  rcases unhide YS with h | h
                  · have : q.rs.contains y = true := by simpa using h
                    rw [hc] at this; cases this
                  · simpa using h
              have NEW : Hid ((q.is.take (j + 1)).any (thr g'.ns) = (bb || thr g'.ns y)) := hide (by rw [unhide HS, List.any_append, ← unhide BB]; simp)
              clear YS YN HS BB BQ
              generalize thr g'.ns y = th at *
              generalize q.rs.length = nr at *
              generalize q.ts.length = nt at *
              rcases hrt with hrs | ⟨hrs, hts⟩
              · simp only [hrs] at KR
                have KR' := hide KR
                clear KR KT hrs
                cases bb
                all_goals
                  go_wp2_with (first
                    | (go_at_call 10; refine (unhide KNy).mono ?_; rintro e w7 ⟨t7, u7, rfl, B7⟩; obtain ⟨e4, e5⟩ := unhide BXQ w7 (unhide B7); clear KNy yc)
                    | (go_at_call 11; refine (unhide KR' _ (unhide B7)).mono ?_; rintro e w8 ⟨rfl, rfl⟩))
                  go_roundg (ni - (j + 1))
                  case measure => omega
                  case rel => exact ⟨j + 1, _, by omega, by omega, by go_num, rfl, hide (by rw [unhide NEW]; simp), B7⟩
              · simp only [hrs] at KR
                simp only [hts] at KT
                have KR' := hide KR
                have KT' := hide KT
                clear KR KT hrs hts
                cases bb
                all_goals
                  go_wp2_with (first
                    | (go_at_call 11; have h1 := HR1; refine (unhide KT' _ (unhide B7)).mono ?_; rintro e w8 ⟨rfl, rfl⟩)
                    | (go_at_call 11; refine (unhide KR' _ (unhide B7)).mono ?_; rintro e w8 ⟨rfl, rfl⟩; have HR1 := trivial; clear KR')
                    | (go_at_call 10; refine (unhide KNy).mono ?_; rintro e w7 ⟨t7, u7, rfl, B7⟩; obtain ⟨e4, e5⟩ := unhide BXQ w7 (unhide B7); clear KNy yc))
                  go_roundg (ni - (j + 1))
                  case measure => omega
                  case rel => exact ⟨j + 1, _, by omega, by omega, by go_num, rfl, hide (by rw [unhide NEW]; simp), B7⟩
            · have hjz : ¬ (j : Int) < (ni : Int) := by omega
              have ej : j = ni := by omega
              subst ej
              have BBF : Hid (bb = q.is.any (thr g'.ns)) := hide (by rw [unhide BB, ← unhide HNI, List.take_length])
              clear BB KHR KHT TR TT TI IA
              have BXQ : Hid (∀ W, Below W6.heap.size W6 W → W.heap[pb]? = some (.cells #[.int .i64 q.ld, .int .i64 q.ep, .int .i64 q.ve, .slice ai j ki, .slice ar q.rs.length kr, .slice at_ q.ts.length kt] 30)) := hide (fun W hW => below_keep hW (unhide BXH))
              clear BXH
              by_cases hld : q.ld = -1
              · have bf : bb = false := by
                  rw [unhide BBF]
                  cases hc : q.is.any (thr g'.ns) with
                  | false => rfl
                  | true =>
                    obtain ⟨x, hx, ht⟩ := List.any_eq_true.1 hc
                    rw [(unhide LQ).non hld x hx] at ht
                    cases ht
                subst bf
                rw [hld] at BXQ
                have HLD := hide hld
                clear hld
                have p0 := cell_of (unhide BXQ wr (unhide BQ)) 0
                simp at p0
                go_upto_region 28 with fail
                clear p0
                have bz := unhide BQ
                have hz := unhide BXQ wr bz
                have p0 := cell_of hz 0
                have p1 := cell_of hz 1
                have p2 := cell_of hz 2
                have p3 := cell_of hz 3
                have p4 := cell_of hz 4
                have p5 := cell_of hz 5
                simp at p0 p1 p2 p3 p4 p5
                have AZ := hide ((unhide A6).keep bz)
                have LZ := hide ((unhide L6).later bz)
                obtain ⟨o, ho, hoc, hof⟩ := (unhide AZ).cells hk4
                have o0 := hoc 0 (by omega)
                have o1 := hoc 1 (by omega)
                have o2 := hoc 2 (by omega)
                have o3 := hoc 3 (by omega)
                have o4 := hoc 4 (by omega)
                have o5 := hoc 5 (by omega)
                simp only [pmC, List.getElem?_cons_zero, List.getElem?_cons_succ, Nat.add_zero] at o0 o1 o2 o3 o4 o5
                have OF := hide hof
                have HO := hide ho
                have O3 := hide o3
                have O4 := hide o4
                have O5 := hide o5
                clear ho hoc hof hz bz o3 o4 o5
                have SET : Hid (∀ W, Touch (fun _ => False) wr W → Hid (Was W wb wt) ∧ Hid (LS w W mb g')) := hide (fun W t => by
                  obtain ⟨m, i1, e1⟩ := (unhide LZ).ex
                  exact ⟨hide ⟨t.keep (unhide AZ).at_ (fun h => h), (unhide AZ).len⟩, hide ⟨m, ⟨i1.at_.quiet t, i1.new, below_touch i1.below t i1.below.size (fun _ h => h.elim)⟩, e1⟩⟩)
                clear AZ LZ
                have dec : (i = 0) ∨ (0 < i ∧ ¬ q.ep < o.q.ep ∧ ¬ q.ve < o.q.ve ∧ ((-1 : Int) = o.q.ld ∨ (¬ (-1 : Int) = o.q.ld ∧ ¬ q.ep = o.q.ep))) := by
                  by_cases hi0 : i = 0
                  · exact .inl hi0
                  · obtain ⟨q0, hq0⟩ : ∃ q0, g.ps[k]? = some q0 := ⟨_, List.getElem?_eq_getElem (by rw [unhide HGL]; exact hk4)⟩
                    obtain ⟨o', ho', m1, m2, m3⟩ := unhide M2 (by omega) k q0 (Nat.le_refl _) hq0
                    rw [unhide HO] at ho'
                    cases ho'
                    have go := unhide GO k q0 q hq0 (unhide HQ)
                    refine .inr ⟨by omega, by rw [m2]; have := go.ep; omega, by rw [m3]; have := go.ve; omega, ?_⟩
                    by_cases hl : (-1 : Int) = o.q.ld
                    · exact .inl hl
                    · refine .inr ⟨hl, fun e => go.new (fun e2 => hl ?_) (by rw [← m2]; exact e.symm)⟩
                      rw [m1, e2]; exact (unhide HLD).symm
                clear HO 
                generalize o.q.ld = old at *
                generalize o.q.ep = oep at *
                generalize o.q.ve = ove at *
                have P3 := hide p3
                have P4 := hide p4
                have P5 := hide p5
                clear p3 p4 p5
                go_cut [166] from 121 to 169 (fun s166 wz => s166 = .bool false ∧ Hid (Touch (fun _ => False) wr wz))
                case first =>
                  clear SET L6 A6 BXQ HNI LQ HQ GO G5 M1 M2 HGL KN KHI HN HR HIN CG CT5 BBF OF P3 P4 P5 O3 O4 O5
                  rcases dec with hi0 | ⟨hi0, d1, d2, d3⟩
                  · have iz : decide ((0 : Int) < (i : Int)) = false := by simp; omega
                    have iy : decide (0 < i) = false := by simp; omega
                    clear hi0
                    go_quiet (fail)
                    go_wp2_with fail
                    go_meet
                    exact ⟨rfl, hide (tdrew _ _)⟩
                  · have iz : decide ((0 : Int) < (i : Int)) = true := by simp; omega
                    have iy : decide (0 < i) = true := by simp; omega
                    have e1 : decide (q.ep < oep) = false := by simp; omega
                    have e2 : decide (q.ve < ove) = false := by simp; omega
                    clear hi0 d1 d2
                    rcases d3 with d3 | ⟨d3, d4⟩
                    · have e3 : ((-1 : Int) != old) = false := by simpa using d3
                      clear d3
                      go_quiet (fail)
                      go_wp2_with fail
                      go_meet
                      exact ⟨rfl, hide (tdrew _ _)⟩
                    · have e3 : ((-1 : Int) != old) = true := by simpa using d3
                      have e4 : (q.ep == oep) = false := by simpa using d4
                      clear d3 d4
                      go_quiet (fail)
                      go_wp2_with fail
                      go_meet
                      exact ⟨rfl, hide (tdrew _ _)⟩
                case rest =>
                  obtain ⟨rfl, T⟩ := hcut
                  obtain ⟨AW, LW⟩ := unhide SET wc (unhide T)
                  have hz := (unhide T).keep (unhide BXQ wr (unhide BQ)) (fun h => h)
                  have p0 := cell_of hz 0
                  have p1 := cell_of hz 1
                  have p2 := cell_of hz 2
                  have p3 := cell_of hz 3
                  have p4 := cell_of hz 4
                  have p5 := cell_of hz 5
                  simp at p0 p1 p2 p3 p4 p5
                  obtain ⟨o', _, hoc, hof⟩ := (unhide AW).cells hk4
                  have o0 := hoc 0 (by omega)
                  have o1 := hoc 1 (by omega)
                  have o2 := hoc 2 (by omega)
                  have o3 := hoc 3 (by omega)
                  have o4 := hoc 4 (by omega)
                  have o5 := hoc 5 (by omega)
                  simp only [pmC, List.getElem?_cons_zero, List.getElem?_cons_succ, Nat.add_zero] at o0 o1 o2 o3 o4 o5
                  have f0 := hof (k * 6)
                  have f1 := hof (k * 6 + 1)
                  have f2 := hof (k * 6 + 2)
                  have f3 := hof (k * 6 + 3)
                  have f4 := hof (k * 6 + 4)
                  have f5 := hof (k * 6 + 5)
                  obtain ⟨s1, s2⟩ := (unhide AW).set hk4 ⟨⟨(-1 : Int), q.ep, q.ve, q.is, q.rs, q.ts⟩, .slice ai j ki, .slice ar q.rs.length kr, .slice at_ q.ts.length kt⟩
                  have S1 := hide s1
                  have S2 := hide ((unhide LW).keep hwb (fun m hm => (unhide AW).alien mb m hm) s2)
                  have N1 : Hid (∀ (x : Nat) (r : Pt), x < k + 1 → g'.ps[x]? = some r → Mt (wt.set k ⟨⟨(-1 : Int), q.ep, q.ve, q.is, q.rs, q.ts⟩, .slice ai j ki, .slice ar q.rs.length kr, .slice at_ q.ts.length kt⟩) x r) := hide (fun x r hx hr => by
                    by_cases e : k = x
                    · subst e
                      rw [unhide HQ] at hr
                      cases hr
                      exact Mt.set_eq (by rw [(unhide AW).len]; exact hk4) ⟨(unhide HLD).symm, rfl, rfl⟩
                    · exact (unhide M1 x r (by omega) hr).set_ne e)
                  have N2 : Hid (0 < i → ∀ (x : Nat) (r : Pt), k + 1 ≤ x → g.ps[x]? = some r → Mt (wt.set k ⟨⟨(-1 : Int), q.ep, q.ve, q.is, q.rs, q.ts⟩, .slice ai j ki, .slice ar q.rs.length kr, .slice at_ q.ts.length kt⟩) x r) := hide (fun h x r hx hr => (unhide M2 h x r (by omega) hr).set_ne (by omega))
                  clear s1 s2 hof hoc hz SET dec M1 M2 BXQ AW LW GO LQ HQ OF P3 P4 P5 O3 O4 O5 KN KHI L6 A6 HGL
                  go_wp2
                  go_roundg (4 - (k + 1))
                  case measure => omega
                  case rel => exact ⟨k + 1, _, by omega, by omega, by go_num, S2, S1, N1, N2⟩
              · have hge : 0 ≤ q.ld := in_low (unhide LQ).nn ((unhide LQ).led hld).2
                have hgn : decide (q.ld < 0) = false := by simp; omega
                have KNl := hide (unhide KN wr q.ld (unhide BQ) ((unhide LQ).nn _ ((unhide LQ).led hld).2))
                rw [((unhide LQ).led hld).1] at KNl
                have KHl := fun W h => unhide KHI W q.ld h
                have hco : q.is.contains q.ld = true := by simpa using ((unhide LQ).led hld).2
                simp only [hco] at KHl
                have KHl' := hide KHl
                have p0 := cell_of (unhide BXQ wr (unhide BQ)) 0
                simp at p0
                clear KHl hco
                go_upto_region 28 with (first
                  | (go_at_call 10; refine (unhide KNl).mono ?_; rintro e w9 ⟨t9, u9, rfl, B9⟩; have c0 := cell_of (unhide BXQ w9 (unhide B9)) 0; have c3 := cell_of (unhide BXQ w9 (unhide B9)) 3; simp at c0 c3; clear KNl)
                  | (go_at_call 11; refine (unhide KHl' _ (unhide B9)).mono ?_; rintro e wy ⟨rfl, ey⟩; obtain rfl : w9 = wy := ey.symm))
                clear p0 c0 c3
                have bz := unhide B9
                have hz := unhide BXQ _ bz
                have p0 := cell_of hz 0
                have p1 := cell_of hz 1
                have p2 := cell_of hz 2
                have p3 := cell_of hz 3
                have p4 := cell_of hz 4
                have p5 := cell_of hz 5
                simp at p0 p1 p2 p3 p4 p5
                have AZ := hide ((unhide A6).keep bz)
                have LZ := hide ((unhide L6).later bz)
                obtain ⟨o, ho, hoc, hof⟩ := (unhide AZ).cells hk4
                have o0 := hoc 0 (by omega)
                have o1 := hoc 1 (by omega)
                have o2 := hoc 2 (by omega)
                have o3 := hoc 3 (by omega)
                have o4 := hoc 4 (by omega)
                have o5 := hoc 5 (by omega)
                simp only [pmC, List.getElem?_cons_zero, List.getElem?_cons_succ, Nat.add_zero] at o0 o1 o2 o3 o4 o5
                have OF := hide hof
                have HO := hide ho
                have O3 := hide o3
                have O4 := hide o4
                have O5 := hide o5
                clear ho hoc hof hz bz o3 o4 o5
                have SET : Hid (∀ W, Touch (fun _ => False) w9 W → Hid (Was W wb wt) ∧ Hid (LS w W mb g')) := hide (fun W t => by
                  obtain ⟨m, i1, e1⟩ := (unhide LZ).ex
                  exact ⟨hide ⟨t.keep (unhide AZ).at_ (fun h => h), (unhide AZ).len⟩, hide ⟨m, ⟨i1.at_.quiet t, i1.new, below_touch i1.below t i1.below.size (fun _ h => h.elim)⟩, e1⟩⟩)
                clear AZ LZ
                have dec : (i = 0) ∨ (0 < i ∧ ¬ q.ep < o.q.ep ∧ ¬ q.ve < o.q.ve ∧ (q.ld = o.q.ld ∨ (¬ q.ld = o.q.ld ∧ ¬ q.ep = o.q.ep))) := by
                  by_cases hi0 : i = 0
                  · exact .inl hi0
                  · obtain ⟨q0, hq0⟩ : ∃ q0, g.ps[k]? = some q0 := ⟨_, List.getElem?_eq_getElem (by rw [unhide HGL]; exact hk4)⟩
                    obtain ⟨o', ho', m1, m2, m3⟩ := unhide M2 (by omega) k q0 (Nat.le_refl _) hq0
                    rw [unhide HO] at ho'
                    cases ho'
                    have go := unhide GO k q0 q hq0 (unhide HQ)
                    refine .inr ⟨by omega, by rw [m2]; have := go.ep; omega, by rw [m3]; have := go.ve; omega, ?_⟩
                    by_cases hl : q.ld = o.q.ld
                    · exact .inl hl
                    · refine .inr ⟨hl, fun e => go.new (fun e2 => hl ?_) (by rw [← m2]; exact e.symm)⟩
                      rw [m1, e2]
                clear HO 
                generalize o.q.ld = old at *
                generalize o.q.ep = oep at *
                generalize o.q.ve = ove at *
                have P3 := hide p3
                have P4 := hide p4
                have P5 := hide p5
                clear p3 p4 p5
                go_cut [166] from 121 to 169 (fun s166 wz => s166 = .bool false ∧ Hid (Touch (fun _ => False) w9 wz))
                case first =>
                  clear SET L6 A6 BXQ HNI LQ HQ GO G5 M1 M2 HGL KN KHI HN HR HIN CG CT5 BBF OF P3 P4 P5 O3 O4 O5
                  rcases dec with hi0 | ⟨hi0, d1, d2, d3⟩
                  · have iz : decide ((0 : Int) < (i : Int)) = false := by simp; omega
                    have iy : decide (0 < i) = false := by simp; omega
                    clear hi0
                    go_quiet (fail)
                    go_wp2_with fail
                    go_meet
                    exact ⟨rfl, hide (tdrew _ _)⟩
                  · have iz : decide ((0 : Int) < (i : Int)) = true := by simp; omega
                    have iy : decide (0 < i) = true := by simp; omega
                    have e1 : decide (q.ep < oep) = false := by simp; omega
                    have e2 : decide (q.ve < ove) = false := by simp; omega
                    clear hi0 d1 d2
                    rcases d3 with d3 | ⟨d3, d4⟩
                    · have e3 : (q.ld != old) = false := by simpa using d3
                      clear d3
                      go_quiet (fail)
                      go_wp2_with fail
                      go_meet
                      exact ⟨rfl, hide (tdrew _ _)⟩
                    · have e3 : (q.ld != old) = true := by simpa using d3
                      have e4 : (q.ep == oep) = false := by simpa using d4
                      clear d3 d4
                      go_quiet (fail)
                      go_wp2_with fail
                      go_meet
                      exact ⟨rfl, hide (tdrew _ _)⟩
                case rest =>
                  obtain ⟨rfl, T⟩ := hcut
                  obtain ⟨AW, LW⟩ := unhide SET wc (unhide T)
                  have hz := (unhide T).keep (unhide BXQ w9 (unhide B9)) (fun h => h)
                  have p0 := cell_of hz 0
                  have p1 := cell_of hz 1
                  have p2 := cell_of hz 2
                  have p3 := cell_of hz 3
                  have p4 := cell_of hz 4
                  have p5 := cell_of hz 5
                  simp at p0 p1 p2 p3 p4 p5
                  obtain ⟨o', _, hoc, hof⟩ := (unhide AW).cells hk4
                  have o0 := hoc 0 (by omega)
                  have o1 := hoc 1 (by omega)
                  have o2 := hoc 2 (by omega)
                  have o3 := hoc 3 (by omega)
                  have o4 := hoc 4 (by omega)
                  have o5 := hoc 5 (by omega)
                  simp only [pmC, List.getElem?_cons_zero, List.getElem?_cons_succ, Nat.add_zero] at o0 o1 o2 o3 o4 o5
                  have f0 := hof (k * 6)
                  have f1 := hof (k * 6 + 1)
                  have f2 := hof (k * 6 + 2)
                  have f3 := hof (k * 6 + 3)
                  have f4 := hof (k * 6 + 4)
                  have f5 := hof (k * 6 + 5)
                  obtain ⟨s1, s2⟩ := (unhide AW).set hk4 ⟨⟨q.ld, q.ep, q.ve, q.is, q.rs, q.ts⟩, .slice ai j ki, .slice ar q.rs.length kr, .slice at_ q.ts.length kt⟩
                  have S1 := hide s1
                  have S2 := hide ((unhide LW).keep hwb (fun m hm => (unhide AW).alien mb m hm) s2)
                  have N1 : Hid (∀ (x : Nat) (r : Pt), x < k + 1 → g'.ps[x]? = some r → Mt (wt.set k ⟨⟨q.ld, q.ep, q.ve, q.is, q.rs, q.ts⟩, .slice ai j ki, .slice ar q.rs.length kr, .slice at_ q.ts.length kt⟩) x r) := hide (fun x r hx hr => by
                    by_cases e : k = x
                    · subst e
                      rw [unhide HQ] at hr
                      cases hr
                      exact Mt.set_eq (by rw [(unhide AW).len]; exact hk4) ⟨rfl, rfl, rfl⟩
                    · exact (unhide M1 x r (by omega) hr).set_ne e)
                  have N2 : Hid (0 < i → ∀ (x : Nat) (r : Pt), k + 1 ≤ x → g.ps[x]? = some r → Mt (wt.set k ⟨⟨q.ld, q.ep, q.ve, q.is, q.rs, q.ts⟩, .slice ai j ki, .slice ar q.rs.length kr, .slice at_ q.ts.length kt⟩) x r) := hide (fun h x r hx hr => (unhide M2 h x r (by omega) hr).set_ne (by omega))
                  clear s1 s2 hof hoc hz SET dec M1 M2 BXQ AW LW GO LQ HQ OF P3 P4 P5 O3 O4 O5 KN KHI L6 A6 HGL
                  go_wp2
                  go_roundg (4 - (k + 1))
                  case measure => omega
                  case rel => exact ⟨k + 1, _, by omega, by omega, by go_num, S2, S1, N1, N2⟩
        · have hkz : ¬ (k : Int) < 4 := by omega
          have ek : k = 4 := by omega
          have N1 : Hid (0 < i + 1 → ∀ (x : Nat) (r : Pt), g'.ps[x]? = some r → Mt wt x r) := hide (fun _ x r hr => unhide M1 x r (by
            rcases Nat.lt_or_ge x g'.ps.length with h | h
            · rw [(unhide G5).gf.pl] at h; omega
            · rw [List.getElem?_eq_none h] at hr; cases hr) hr)
          clear ek M1 M2 GO HGL
          go_wp2
          go_roundg (n - (i + 1))
          case measure => omega
          case rel => exact ⟨i + 1, g', wt, by omega, by omega, by go_num, L, G5, CT5, A, N1⟩
    · have hltz : ¬ (i : Int) < (n : Int) := by omega
      clear G CT A MT
      go_wp2
      go_returns
      exact ⟨rfl, (unhide L).below⟩
end Go.Proofs.Ythaedepnglincaa
