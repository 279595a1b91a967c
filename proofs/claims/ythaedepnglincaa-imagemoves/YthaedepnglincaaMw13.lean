/-
  after: an image behind any commands. Conditions: the list as it is read.
-/
import Derived.Test.YthaedepnglincaaMv13
namespace Go.Proofs.Ythaedepnglincaa
open Go.RowKit Go.Maps
set_option linter.unusedVariables false

/-- An image of the call's own, whose blocks are those of S. -/
structure LX (w wr : World) (mb : Nat) (g : Img) (S : Nat → Prop) : Prop where
  ex : ∃ m, INew w wr mb m ∧ m.abs = g ∧ ∀ k, m.R mb k → S k
theorem LX.ls {w wr : World} {mb : Nat} {g : Img} {S : Nat → Prop} (h : LX w wr mb g S) : LS w wr mb g := by
  obtain ⟨m, h1, h2, _⟩ := h.ex
  exact ⟨m, h1, h2⟩
theorem LS.lx {w wr : World} {mb : Nat} {g : Img} (h : LS w wr mb g) : LX w wr mb g (· < wr.heap.size) := by
  obtain ⟨m, h1, h2⟩ := h.ex
  exact ⟨m, h1, h2, fun k hk => h1.at_.lt hk⟩
theorem LX.later {w w1 w2 : World} {mb : Nat} {g : Img} {S : Nat → Prop} (h : LX w w1 mb g S) (b : Below w1.heap.size w1 w2) : LX w w2 mb g S := by
  obtain ⟨m, h1, h2, h3⟩ := h.ex
  exact ⟨m, h1.after b, h2, h3⟩
theorem lx_does {w w1 w2 : World} {mb : Nat} {g : Img} {b : Int} {S : Nat → Prop} {a : Option Addr} {k : Nat} {l : List Int} (kd nd pt ep ve : Int) (h : LX w w1 mb g S) (hG : GL 5 4 b g) (hb : b ≤ 2305843009213693952) (h0 : 0 ≤ g.ct) (h1 : g.ct ≤ 4611686018427387904)
    (b2 : Below w1.heap.size w1 w2) (hl : IL w2 (.slice a l.length k) l) (hn : New w1 (.slice a l.length k)) :
    Calls Try.prog 7 #[.pointer (some ⟨mb, 0, none⟩), .agg #[.int .i64 kd, .int .i64 nd, .int .i64 pt, .int .i64 ep, .int .i64 ve, .slice a l.length k]] w2 fun e w3 => e = .returned (.int .i64 (applyI g ⟨kd, nd, pt, ep, ve, a, k, l⟩).1) ∧ LX w w3 mb (applyI g ⟨kd, nd, pt, ep, ve, a, k, l⟩).2 (fun x => S x ∨ w2.heap.size ≤ x) ∧ Touch S w2 w3 := by
  obtain ⟨m, i1, rfl, hS⟩ := h.ex
  have at2 := i1.at_.later b2
  obtain ⟨a', k', e1, hi, _, _, _, hw⟩ := hl.iat
  injection e1 with e1 e2 e3
  subst e1 e3
  have far : Far m mb ⟨kd, nd, pt, ep, ve, a, k, l⟩ := fun _ x hx hR => by
    have q1 := i1.at_.lt hR
    have q2 := hn x.block (hw x hx)
    omega
  have hF : ∀ q ∈ m.ps.map Pm.q, PFit m.ns.length q := fun q hq => by
    have := (hG.gf.each q hq).fit hb
    have e : m.ns.length = 5 := hG.gf.nl
    rw [e]; exact this
  refine (does_any (c := ⟨kd, nd, pt, ep, ve, a, k, l⟩) at2 ⟨hi, hl.len⟩ far h0 h1 hF).mono ?_
  rintro e w3 ⟨v, rfl, rfl, m', t, e2⟩
  exact ⟨rfl, ⟨m', (i1.after b2).goes t, e2, fun x hx => (t.moved x hx).imp (hS x) id⟩, t.touch.mono (fun x hx => hS x hx)⟩
theorem il_empty (W : World) : IL (W.alloc (.cells #[] 3)) (.slice (some ⟨W.heap.size, 0, none⟩) 0 0) [] :=
  World.ownsRow_lit (base := 0) (e := 3) (size := 1) W #[] 0 (Nat.zero_le _) (by simp) rfl
/-- What a move leaves. -/
structure MvP (g g' : Img) (k : Nat) (q : Pt) (ls : List Int) (nn : Nat) (E : Int) : Prop where
  none : ls = [] → E = 1
  busy : ls ≠ [] → q.ts ≠ [] → E = 16
  done : ls ≠ [] → q.ts = [] → E = 0 ∧ g'.ns = g.ns ∧ g'.ps[k]? = some (moveQ g.ns q ls)
  gl : GL 5 4 (3 * ((nn + 1 : Nat) : Int)) g'
  ct : g'.ct = ((nn + 1 : Nat) : Int)
theorem mvP {g : Img} {k nn : Nat} (hG : GL 5 4 (3 * (nn : Int)) g) (hc : g.ct = (nn : Int)) (hk : k < 4) {q : Pt} (hq : g.ps[k]? = some q) {ls : List Int} {ub : Nat} (hl : Rb ub ls) (a : Option Addr) (c : Nat) : MvP g (applyI g (cMv k a c ls)).2 k q ls nn (applyI g (cMv k a c ls)).1 := by
  have hkl : k < g.ps.length := by rw [hG.gf.pl]; exact hk
  obtain ⟨g1, _, g3⟩ := hG.apply (cMv k a c ls)
  refine ⟨fun h => by subst h; exact mv_none hG k a c, fun h0 ht => (mv_some hG hk a c hl h0 hq).1 ht, fun h0 ht => ?_, ?_, by rw [g3, hc]; omega⟩
  · obtain ⟨e1, e2⟩ := (mv_some hG hk a c hl h0 hq).2 ht
    refine ⟨e1, by rw [e2], ?_⟩
    rw [e2]
    simp [hkl]
  · have e3 : (3 : Int) * ((nn + 1 : Nat) : Int) = 3 * (nn : Int) + 3 := by omega
    rw [e3]; exact g1
/-- What after leaves. -/
def AfterP (w : World) (n : Nat) (e : Ending) (w' : World) : Prop := ∃ mb g, e = .returned (.pointer (some ⟨mb, 0, none⟩)) ∧ LS w w' mb g ∧ GL 5 4 (3 * (n : Int)) g ∧ g.ct = (n : Int)
set_option maxRecDepth 100000 in
set_option maxHeartbeats 4000000 in
theorem after_any (w : World) (a : Option Addr) (cap : Nat) (cs : List Cm) (hr : RowsAt cmL 6 w a cs) (hin : ∀ c ∈ cs, CGot w c) (hlen : cs.length * 64 ≤ reachBytes) :
    Calls Try.prog 12 #[.slice a cs.length cap] w fun e w' => AfterP w cs.length e w' := by
  have K0 := hide (ls_new w)
  have HR := hide hr
  have HIN := hide hin
  unfold reachBytes at hlen
  have hlen2 : cs.length ≤ 2199023255552 := by omega
  clear hr hin hlen
  generalize hn : cs.length = n at *
  have HN := hide hn
  clear hn
  go_enter Try.func12, Try.ntmps12
  go_wp2_with (first
    | (go_at_call 5; refine (unhide K0).mono ?_; rintro e w1 ⟨mb, rfl, q1⟩; have Q1 := hide q1; clear q1 K0))
  go_loopg [13] n (fun gg s13 wr => ∃ (i : Nat) (g : Img), i ≤ n ∧ n - i ≤ gg ∧ s13 = .int .i64 i ∧ Hid (LS w wr mb g) ∧ Hid (GL 5 4 (3 * (i : Int)) g) ∧ Hid (g.ct = (i : Int)))
  case atStart => exact ⟨0, newI 5 4 3, Nat.zero_le _, by omega, rfl, Q1, hide gl_new, hide rfl⟩
  case round =>
    clear Q1
    obtain ⟨i, g, hi, hgg, rfl, L, G, CT⟩ := hrel
    by_cases hlt : i < n
    · have hltz : (i : Int) < (n : Int) := by omega
      have hiz : (0 : Int) ≤ (i : Int) := by omega
      have hil : i < cs.length := by rw [unhide HN]; exact hlt
      obtain ⟨b, off, ea, hbl, hcell⟩ := unhide HR i hil
      have CG := hide (unhide HIN _ (List.getElem_mem hil))
      generalize cs[i] = c at *
      obtain ⟨kd, nd, pt, ep, ve, ca, ck, cl⟩ := c
      have z0 := ((unhide L).below.cell (p := ⟨b, off + i * 6, none⟩) hbl).trans (hcell 0 (by omega))
      have z1 := ((unhide L).below.cell (p := ⟨b, off + i * 6 + 1, none⟩) hbl).trans (hcell 1 (by omega))
      have z2 := ((unhide L).below.cell (p := ⟨b, off + i * 6 + 2, none⟩) hbl).trans (hcell 2 (by omega))
      have z3 := ((unhide L).below.cell (p := ⟨b, off + i * 6 + 3, none⟩) hbl).trans (hcell 3 (by omega))
      have z4 := ((unhide L).below.cell (p := ⟨b, off + i * 6 + 4, none⟩) hbl).trans (hcell 4 (by omega))
      have z5 := ((unhide L).below.cell (p := ⟨b, off + i * 6 + 5, none⟩) hbl).trans (hcell 5 (by omega))
      simp only [cmL, List.getElem?_cons_zero, List.getElem?_cons_succ] at z0 z1 z2 z3 z4 z5
      subst ea
      clear hcell hbl hil
      have KO : Hid (∀ W, Below wr.heap.size wr W → Calls Try.prog 8 #[.agg #[.int .i64 kd, .int .i64 nd, .int .i64 pt, .int .i64 ep, .int .i64 ve, .slice ca cl.length ck]] W fun e w' => ∃ a k, e = .returned (.agg #[.int .i64 kd, .int .i64 nd, .int .i64 pt, .int .i64 ep, .int .i64 ve, .slice a cl.length k]) ∧ Hid (IL w' (.slice a cl.length k) cl) ∧ Hid (New wr (.slice a cl.length k)) ∧ Hid (Below wr.heap.size wr w')) := hide (fun W hW => (own_any (((unhide CG).later (unhide L).below).later hW)).mono (by
        rintro e w' ⟨a, k, rfl, h1, h2, h3⟩
        exact ⟨a, k, rfl, hide h1, hide (h2.mono hW.size), hide (hW.trans (h3.mono hW.size))⟩))
      have KA : Hid (∀ W oa ok, Below wr.heap.size wr W → IL W (.slice oa cl.length ok) cl → New wr (.slice oa cl.length ok) → Calls Try.prog 7 #[.pointer (some ⟨mb, 0, none⟩), .agg #[.int .i64 kd, .int .i64 nd, .int .i64 pt, .int .i64 ep, .int .i64 ve, .slice oa cl.length ok]] W fun e w3 => ∃ (E : Int) (g' : Img), e = .returned (.int .i64 E) ∧ Hid (LS w w3 mb g') ∧ Hid (GL 5 4 (3 * ((i + 1 : Nat) : Int)) g') ∧ Hid (g'.ct = ((i + 1 : Nat) : Int))) := hide (fun W oa ok hW h1 h2 => by
        have ct := unhide CT
        refine (ls_apply kd nd pt ep ve (unhide L) (unhide G) (by omega) (by omega) (by omega) hW h1 h2).mono ?_
        rintro e w3 ⟨E, rfl, q1, q2⟩
        obtain ⟨g1, g2, g3⟩ := (unhide G).apply ⟨kd, nd, pt, ep, ve, oa, ok, cl⟩
        refine ⟨E, _, rfl, hide q1, hide ?_, hide (by rw [g3, ct]; omega)⟩
        have e3 : (3 : Int) * ((i + 1 : Nat) : Int) = 3 * (i : Int) + 3 := by omega
        rw [e3]; exact g1)
      generalize hcn : cl.length = cn at *
      clear hcn
      go_wp2_with (first
        | (go_at_call 8; refine (unhide KO _ (by go_grown)).mono ?_; rintro e w4 ⟨oa, ok, rfl, O1, O2, O3⟩; clear KO z0 z1 z2 z3 z4 z5)
        | (go_at_call 7; refine (unhide KA w4 oa ok (unhide O3) (unhide O1) (unhide O2)).mono ?_; rintro e w5 ⟨E, g', rfl, L5, G5, CT5⟩; clear KA O1 O2 O3 L G CT))
      go_roundg (n - (i + 1))
      case measure => omega
      case rel => exact ⟨i + 1, g', by omega, by omega, by go_num, L5, G5, CT5⟩
    · have hltz : ¬ (i : Int) < (n : Int) := by omega
      obtain rfl : n = i := by omega
      go_wp2
      go_returns
      exact ⟨mb, g, rfl, unhide L, unhide G, unhide CT⟩
end Go.Proofs.Ythaedepnglincaa
