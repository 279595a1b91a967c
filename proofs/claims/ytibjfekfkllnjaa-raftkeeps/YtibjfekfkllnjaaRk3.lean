/-
  RaftKeeps where New does not refuse: a node that is begun has what was kept, and is refused just where the document says. Conditions: what is kept is handed in whole; a log of at most 2^42 - 128 entries.
-/
import Derived.Test.YtibjfekfkllnjaaRk1
namespace Go.Proofs.Ytibjfekfkllnjaa
open Go.RowKit Go.Maps
set_option linter.unusedVariables false

theorem HRow.hin {w0 w : World} {h : Hd} (x : HRow w0 w h) (hn : h.ps.length ≤ 4398046510976) : HIn w h := by
  obtain ⟨a, cap, e, h1, _, _, h4, _⟩ := x.row.parts
  obtain ⟨la, lc, e2, h5⟩ := x.log.arr
  injection e with e1 _ e3
  injection e2 with f1 _ f3
  subst e1 e3 f1 f3
  exact ⟨h1, h4, x.len, h5, hn⟩
theorem HSame.len {g h : Hd} (s : HSame g h) : g.ps.length = h.ps.length := by
  have := congrArg List.length s.ps
  simpa using this
theorem HSame.trans {f g h : Hd} (s : HSame f g) (t : HSame g h) : HSame f h := ⟨s.T.trans t.T, s.vo.trans t.vo, s.base.trans t.base, s.bt.trans t.bt, s.l.trans t.l, s.ps.trans t.ps⟩
theorem tkC_get {cs : Array Value} {t : Int} {n i : Nat} {u : Value} (h : i < 24) (hi : cs[i]? = some u) : (tkC cs t n)[i]? = some u := set_keep (by omega) (set_keep (by omega) (set_keep (by omega) (set_keep (by omega) hi)))
theorem row_at {w : World} {a : Option Addr} {n c : Nat} {l : List Nat} (h : Row w (.slice a n c) l) : LAt w a l ∧ n = l.length := by
  obtain ⟨qa, qc, qe, q1, _⟩ := h.parts
  injection qe with e1 e2 e3
  exact ⟨by rw [e1]; exact q1, e2⟩
/-- Take of a node that has just begun. -/
structure Kp (w w' : World) (rb : Nat) (g : Hd) (rs : Bool) (sn v : Value) : Prop where
  snap : rs = true → Row w' sn g.l
  bare : rs = false → sn = .slice none 0 0
  v : ∃ a c, v = .slice a 0 c
  touch : Touch (· = rb) w w'
  c2 : w'.cell? ⟨rb, 2, none⟩ = some (.int .i64 g.T)
  c4 : w'.cell? ⟨rb, 4, none⟩ = some (.int .i64 g.base)
  c7 : w'.cell? ⟨rb, 7, none⟩ = some (hdL g)
  c8 : w'.cell? ⟨rb, 8, none⟩ = some (.int .i64 0)
  c9 : w'.cell? ⟨rb, 9, none⟩ = some (.int .i64 (-1))
  c23 : w'.cell? ⟨rb, 23, none⟩ = some (.int .i64 g.base)
theorem kept_take {w0 w : World} {rb : Nat} {i n : Int} {g : Hd} {rs : Bool} (hb : w.heap[rb]? = some (.cells (nwC i n g rs) 77)) (hr : HRow w0 w g) (h0 : ¬ g.base < 0) (h1 : g.base ≤ 9223372036854775807) (hn : g.ps.length ≤ 4398046510976) :
    Calls Try.prog 18 #[.pointer (some ⟨rb, 0, none⟩)] w fun e w' => ∃ z sn v, z = Hd.mk 0 0 0 0 none 0 [] none 0 [] ∧ e = .returned (rdV false z (.slice none 0 0) rs sn v) ∧ Kp w w' rb g rs sn v := by
  obtain ⟨la, lc, e2, h5⟩ := hr.log.arr
  have hpar : g.ps.length ≤ g.lc ∧ (g.la = none → g.lc = 0) := by
    obtain ⟨a, cap, e, q1, q2, q3, _⟩ := hr.log.row.parts
    injection e with e1 _ e3
    subst e1 e3
    exact ⟨q1, q3⟩
  have TL : ∀ X, Below w.heap.size w X → Calls Try.prog 33 #[.pointer (some ⟨rb, 0, none⟩)] X fun e w' => TlPost X rb (nwC i n g rs) g.base [] e w' := fun X hX => by
    have hX2 := below_keep hX hb
    refine tell_of (cap := g.lc) (a := g.la) (co := g.base) hX2 rfl rfl (by rw [Int.sub_self]; rfl) (by omega) (by simp; omega) (EArr.nil _ _) (fun b hb => ?_) (by simp) (fun m => ?_)
    · rcases hb with ⟨h, _⟩ | ⟨p, hp, _⟩
      · simp at h
      · cases hp
    · exact behind_zero (w := X.drewN m) (cell_of hX2 4) (cell_of hX2 7) hpar.1 hpar.2
  have fin : ∀ {e : Ending} {w' : World}, TkPost w rb (nwC i n g rs) g false rs none 0 0 g.base [] e w' → ∃ z sn v, z = Hd.mk 0 0 0 0 none 0 [] none 0 [] ∧ e = .returned (rdV false z (.slice none 0 0) rs sn v) ∧ Kp w w' rb g rs sn v := by
    rintro e w' ⟨z, sn, v, ks, rfl, s⟩
    have hk : ks = [] := by
      have := congrArg List.length s.abs
      simpa [cmE] using this
    subst hk
    obtain ⟨va, vc, rfl⟩ := s.list.row.shape
    refine ⟨z, sn, _, s.zero rfl, rfl, ⟨fun h => (s.snap h).1, s.none, ⟨va, vc, rfl⟩, s.touch, ?_, ?_, ?_, ?_, ?_, ?_⟩⟩
    · exact cell_get s.box (tkC_get (by omega) rfl)
    · exact cell_get s.box (tkC_get (by omega) rfl)
    · exact cell_get s.box (tkC_get (by omega) rfl)
    · exact cell_get s.box (tkC_get (by omega) rfl)
    · exact cell_get s.box (tkC_get (by omega) rfl)
    · exact cell_get s.box (tkC_get (by omega) rfl)
  cases rs with
  | true => exact (take_kept (h := g) hb ⟨rfl, rfl, rfl, rfl, rfl, rfl, rfl, rfl, rfl, rfl, rfl⟩ (hr.hin hn) TL).mono (fun e w' h => fin h)
  | false => exact (take_bare (h := g) hb ⟨rfl, rfl, rfl, rfl, rfl, rfl, rfl, rfl, rfl, rfl, rfl⟩ (hr.hin hn) TL).mono (fun e w' h => fin h)
set_option maxRecDepth 100000 in
set_option maxHeartbeats 4000000 in
/-- Where it isn't. -/
theorem raftKeeps_good {w : World} {i n : Int} {h : Hd} (x : HIn w h) (hb0 : h.base ≤ 9223372036854775807) (h1 : ¬ n < 1) (h2 : ¬ 5 < n) (h3 : ¬ i < 0) (h4 : ¬ n ≤ i) (h5 : ¬ h.T < 0) (h6 : ¬ h.base < 0) (h7 : ¬ h.vo < -1) (h8 : ¬ n ≤ h.vo) : Calls Try.prog 5 #[.int .i64 i, .int .i64 n, hdV h] w fun e w' => e = .returned (.bool true) ∧ Below w.heap.size w w' := by
  obtain ⟨T, vo, base, bt, a, c, l, la, lc, ps⟩ := h
  simp only at h5 h6 h7 h8 hb0
  unfold hdV hdS hdL
  dsimp only
  have hA : Below w.heap.size w (w.alloc (.cells #[.int .i64 T, .int .i64 vo, .int .i64 base, .int .i64 bt, .slice a l.length c, .slice la ps.length lc] 52)) := (Below.refl _ _).alloc (Nat.le_refl _) _
  have G : Hid ((w.alloc (.cells #[.int .i64 T, .int .i64 vo, .int .i64 base, .int .i64 bt, .slice a l.length c, .slice la ps.length lc] 52)).heap[w.heap.size]? = some (.cells #[.int .i64 T, .int .i64 vo, .int .i64 base, .int .i64 bt, .slice a l.length c, .slice la ps.length lc] 52)) := heap_new _ _
  have CP : Hid (Calls Try.prog 17 #[.agg #[.int .i64 T, .int .i64 vo, .int .i64 base, .int .i64 bt, .slice a l.length c, .slice la ps.length lc]] (w.alloc (.cells #[.int .i64 T, .int .i64 vo, .int .i64 base, .int .i64 bt, .slice a l.length c, .slice la ps.length lc] 52)) fun e w' => OhPost (w.alloc (.cells #[.int .i64 T, .int .i64 vo, .int .i64 base, .int .i64 bt, .slice a l.length c, .slice la ps.length lc] 52)) ⟨T, vo, base, bt, a, c, l, la, lc, ps⟩ e w') := refCopy_any (x.later hA)
  have HA := hide hA
  have HX := hide (x.later hA)
  have k0 : (w.alloc (.cells #[.int .i64 T, .int .i64 vo, .int .i64 base, .int .i64 bt, .slice a l.length c, .slice la ps.length lc] 52)).cell? ⟨w.heap.size, 0, none⟩ = some (.int .i64 T) := cell_of (unhide G) 0
  have k1 : (w.alloc (.cells #[.int .i64 T, .int .i64 vo, .int .i64 base, .int .i64 bt, .slice a l.length c, .slice la ps.length lc] 52)).cell? ⟨w.heap.size, 1, none⟩ = some (.int .i64 vo) := cell_of (unhide G) 1
  have k2 : (w.alloc (.cells #[.int .i64 T, .int .i64 vo, .int .i64 base, .int .i64 bt, .slice a l.length c, .slice la ps.length lc] 52)).cell? ⟨w.heap.size, 2, none⟩ = some (.int .i64 base) := cell_of (unhide G) 2
  have k3 : (w.alloc (.cells #[.int .i64 T, .int .i64 vo, .int .i64 base, .int .i64 bt, .slice a l.length c, .slice la ps.length lc] 52)).cell? ⟨w.heap.size, 3, none⟩ = some (.int .i64 bt) := cell_of (unhide G) 3
  have k4 : (w.alloc (.cells #[.int .i64 T, .int .i64 vo, .int .i64 base, .int .i64 bt, .slice a l.length c, .slice la ps.length lc] 52)).cell? ⟨w.heap.size, 4, none⟩ = some (.slice a l.length c) := cell_of (unhide G) 4
  have k5 : (w.alloc (.cells #[.int .i64 T, .int .i64 vo, .int .i64 base, .int .i64 bt, .slice a l.length c, .slice la ps.length lc] 52)).cell? ⟨w.heap.size, 5, none⟩ = some (.slice la ps.length lc) := cell_of (unhide G) 5
  clear x hA
  have HBB := hide hb0
  clear hb0
  generalize hln : l.length = ln at *
  have HLN := hide hln
  clear hln
  generalize hpn : ps.length = pn at *
  have HPN := hide hpn
  clear hpn
  go_enter Try.func5, Try.ntmps5
  go_wp2_with fail
  generalize w.alloc (.cells #[.int .i64 T, .int .i64 vo, .int .i64 base, .int .i64 bt, .slice a ln c, .slice la pn lc] 52) = W at *
  refine (unhide CP).mono ?_
  rintro e w1 ⟨g, rfl, gs, gr, b1⟩
  have hgl := gs.len
  simp only at hgl
  have hfew : g.ps.length ≤ 4398046510976 := by rw [hgl]; exact (unhide HX).few
  have NG := hide (new_ok (i := i) (n := n) (gr.hin hfew) (by omega) (by omega) (by omega) (by omega) (by rw [gs.T]; show ¬ T < 0; omega) (by rw [gs.base]; show ¬ base < 0; omega) (by rw [gs.vo]; show ¬ vo < -1; omega) (by rw [gs.vo]; show ¬ n ≤ vo; omega))
  have GS := hide gs
  have B1 := hide ((unhide HA).trans (b1.mono (unhide HA).size))
  have BX := hide b1
  have G1 := hide (below_keep b1 (unhide G))
  have HFW := hide hfew
  have hgv : hdV g = .agg #[.int .i64 g.T, .int .i64 g.vo, .int .i64 g.base, .int .i64 g.bt, hdS g, hdL g] := rfl
  clear gr b1 CP HA G k0 k1 k2 k3 k4 k5 gs hgl hfew hgv
  go_wp2_with fail
  refine (unhide NG).mono ?_
  rintro e w2 ⟨rb, g2, rfl, hbx, hrb, s2, r2, b2⟩
  have B2 := hide ((unhide B1).trans (b2.mono (unhide B1).size))
  have G2 := hide (below_keep b2 (unhide G1))
  have BX2 := hide ((unhide BX).trans (b2.mono (unhide BX).size))
  have m0 : w2.cell? ⟨w.heap.size, 0, none⟩ = some (.int .i64 T) := cell_of (unhide G2) 0
  have m1 : w2.cell? ⟨w.heap.size, 1, none⟩ = some (.int .i64 vo) := cell_of (unhide G2) 1
  have m2 : w2.cell? ⟨w.heap.size, 2, none⟩ = some (.int .i64 base) := cell_of (unhide G2) 2
  have AW := hide (awake12_any w2)
  have ss := s2.trans (unhide GS)
  have eb : g2.base = base := ss.base
  have eT : g2.T = T := ss.T
  have el : g2.l = l := ss.l
  have ep : g2.ps.length = ps.length := ss.len
  have egb : g.base = base := (unhide GS).base
  have rs0 : decide (0 < g.base) = decide (0 < base) := by rw [egb]
  rw [rs0] at hbx
  have HBX := hide hbx
  have HR := hide r2
  have HRB : Hid (w.heap.size < rb) := Nat.lt_of_lt_of_le (lt_of_heap (unhide G1)) hrb
  have HSW : Hid (W.heap.size ≤ rb) := Nat.le_trans (unhide BX).size hrb
  have EE := hide (And.intro eb (And.intro eT (And.intro el ep)))
  clear NG B1 G1 BX GS b2 hbx hrb s2 r2 ss eb eT el ep egb rs0
  go_wp2_with fail
  refine (unhide AW).mono ?_
  rintro e w3 ⟨rfl, b3⟩
  have B3 := hide ((unhide B2).trans (b3.mono (unhide B2).size))
  have G3 := hide (below_keep b3 (unhide G2))
  have BX3 := hide ((unhide BX2).trans (b3.mono (unhide BX2).size))
  have hb3 := below_keep b3 (unhide HBX)
  have r3 : HRow w1 w3 g2 := (unhide HR).keep (Touch.of_below (S := fun _ => False) b3) (fun _ h => h.elim)
  have hf2 : g2.ps.length ≤ 4398046510976 := by rw [(unhide EE).2.2.2]; exact (unhide HX).few
  have TK := hide (kept_take hb3 r3 (by rw [(unhide EE).1]; omega) (by rw [(unhide EE).1]; exact unhide HBB) hf2)
  clear AW B2 G2 BX2 b3 hb3 r3 hf2 HBX HR m0 m1 m2
  go_wp2_with fail
  refine (unhide TK).mono ?_
  generalize hrs : decide (0 < base) = rs at *
  rintro e w4 ⟨z, sn, v, rfl, rfl, kp⟩
  obtain ⟨va, vc, rfl⟩ := kp.v
  have hsn : ∃ sa sl sc, sn = .slice sa sl sc := by
    cases rs with
    | true => exact (kp.snap rfl).shape
    | false => exact ⟨_, _, _, kp.bare rfl⟩
  obtain ⟨sa, sl, sc, rfl⟩ := hsn
  have hAr : Below w4.heap.size w4 (w4.alloc (.cells #[.bool false, .int .i64 0, .int .i64 0, .int .i64 0, .int .i64 0, .slice none 0 0, .slice none 0 0, .slice none 0 0, .bool rs, .slice sa sl sc, .slice va 0 vc] 57)) := (Below.refl _ _).alloc (Nat.le_refl _) _
  have GR : (w4.alloc (.cells #[.bool false, .int .i64 0, .int .i64 0, .int .i64 0, .int .i64 0, .slice none 0 0, .slice none 0 0, .slice none 0 0, .bool rs, .slice sa sl sc, .slice va 0 vc] 57)).heap[w4.heap.size]? = some (.cells #[.bool false, .int .i64 0, .int .i64 0, .int .i64 0, .int .i64 0, .slice none 0 0, .slice none 0 0, .slice none 0 0, .bool rs, .slice sa sl sc, .slice va 0 vc] 57) := heap_new _ _
  have hrl := unhide HRB
  have g4 := below_keep hAr (kp.touch.keep (unhide G3) (show ¬ w.heap.size = rb by omega))
  have hr4 := lt_of_cell kp.c2
  simp only at hr4
  have ST : Hid (Calls Try.prog 12 #[.pointer (some ⟨rb, 0, none⟩)] (w4.alloc (.cells #[.bool false, .int .i64 0, .int .i64 0, .int .i64 0, .int .i64 0, .slice none 0 0, .slice none 0 0, .slice none 0 0, .bool rs, .slice sa sl sc, .slice va 0 vc] 57)) fun e w' => e = .returned (.tuple #[.int .i64 0, .int .i64 T, .int .i64 (-1), .int .i64 base, .int .i64 (wrap64 (base + (pn : Int)))]) ∧ ∃ n, w' = (w4.alloc (.cells #[.bool false, .int .i64 0, .int .i64 0, .int .i64 0, .int .i64 0, .slice none 0 0, .slice none 0 0, .slice none 0 0, .bool rs, .slice sa sl sc, .slice va 0 vc] 57)).drewN n) := by
    have c7 := (hAr.cell (p := ⟨rb, 7, none⟩) hr4).trans kp.c7
    have := state_any (w := w4.alloc (.cells #[.bool false, .int .i64 0, .int .i64 0, .int .i64 0, .int .i64 0, .slice none 0 0, .slice none 0 0, .slice none 0 0, .bool rs, .slice sa sl sc, .slice va 0 vc] 57)) (rb := rb) (k := g2.ps.length) (cap := g2.lc) (a := g2.la) (base := g2.base) (T := g2.T) (ro := 0) (le := -1) (co := g2.base) ((hAr.cell (p := ⟨rb, 2, none⟩) hr4).trans kp.c2) ((hAr.cell (p := ⟨rb, 4, none⟩) hr4).trans kp.c4) c7 ((hAr.cell (p := ⟨rb, 8, none⟩) hr4).trans kp.c8) ((hAr.cell (p := ⟨rb, 9, none⟩) hr4).trans kp.c9) ((hAr.cell (p := ⟨rb, 23, none⟩) hr4).trans kp.c23)
    rw [(unhide EE).1, (unhide EE).2.1, (unhide EE).2.2.2, unhide HPN] at this
    exact this
  have B4 : Hid (Below w.heap.size w (w4.alloc (.cells #[.bool false, .int .i64 0, .int .i64 0, .int .i64 0, .int .i64 0, .slice none 0 0, .slice none 0 0, .slice none 0 0, .bool rs, .slice sa sl sc, .slice va 0 vc] 57))) := by
    have hw : Below w.heap.size w w4 := below_touch (unhide B3) kp.touch (unhide B3).size (fun k hk => by omega)
    exact hw.trans (hAr.mono hw.size)
  have SM : Hid (rs = true → ∀ m, Calls Try.prog 15 #[.slice sa sl sc, .slice a ln c] ((w4.alloc (.cells #[.bool false, .int .i64 0, .int .i64 0, .int .i64 0, .int .i64 0, .slice none 0 0, .slice none 0 0, .slice none 0 0, .bool rs, .slice sa sl sc, .slice va 0 vc] 57)).drewN m) fun e w' => e = .returned (.bool true) ∧ ∃ n, w' = ((w4.alloc (.cells #[.bool false, .int .i64 0, .int .i64 0, .int .i64 0, .int .i64 0, .slice none 0 0, .slice none 0 0, .slice none 0 0, .bool rs, .slice sa sl sc, .slice va 0 vc] 57)).drewN m).drewN n) := fun hrt m => by
    have hrow := kp.snap hrt
    rw [(unhide EE).2.2.1] at hrow
    obtain ⟨q1, q2⟩ := row_at hrow
    subst q2
    have hW : Touch (· = rb) W w4 := (Touch.of_below (unhide BX3)).trans kp.touch
    have la2 : LAt w4 a l := (unhide HX).at_.keep hW (fun h0 y hy e => by
      obtain ⟨b, off, e', hlt, _⟩ := (unhide HX).at_.cell (i := 0) h0
      have hy' : a = some y := hy
      simp only at e'
      rw [hy'] at e'
      cases e'
      simp only at e
      have := unhide HSW
      omega)
    have := same03_any ((w4.alloc (.cells #[.bool false, .int .i64 0, .int .i64 0, .int .i64 0, .int .i64 0, .slice none 0 0, .slice none 0 0, .slice none 0 0, .bool rs, .slice sa l.length sc, .slice va 0 vc] 57)).drewN m) sa a sc c l (q1.keep (Touch.of_below (S := fun _ => False) (below_drewN3 hAr m)) (fun _ _ _ h => h)) (la2.keep (Touch.of_below (S := fun _ => False) (below_drewN3 hAr m)) (fun _ _ _ h => h)) (by have := (unhide HX).len; simp only at this; omega)
    rw [unhide HLN] at this
    rw [unhide HLN]
    exact this
  have n0 : (w4.alloc (.cells #[.bool false, .int .i64 0, .int .i64 0, .int .i64 0, .int .i64 0, .slice none 0 0, .slice none 0 0, .slice none 0 0, .bool rs, .slice sa sl sc, .slice va 0 vc] 57)).cell? ⟨w.heap.size, 0, none⟩ = some (.int .i64 T) := cell_of g4 0
  have n2 : (w4.alloc (.cells #[.bool false, .int .i64 0, .int .i64 0, .int .i64 0, .int .i64 0, .slice none 0 0, .slice none 0 0, .slice none 0 0, .bool rs, .slice sa sl sc, .slice va 0 vc] 57)).cell? ⟨w.heap.size, 2, none⟩ = some (.int .i64 base) := cell_of g4 2
  have n4 : (w4.alloc (.cells #[.bool false, .int .i64 0, .int .i64 0, .int .i64 0, .int .i64 0, .slice none 0 0, .slice none 0 0, .slice none 0 0, .bool rs, .slice sa sl sc, .slice va 0 vc] 57)).cell? ⟨w.heap.size, 4, none⟩ = some (.slice a ln c) := cell_of g4 4
  have n5 : (w4.alloc (.cells #[.bool false, .int .i64 0, .int .i64 0, .int .i64 0, .int .i64 0, .slice none 0 0, .slice none 0 0, .slice none 0 0, .bool rs, .slice sa sl sc, .slice va 0 vc] 57)).cell? ⟨w.heap.size, 5, none⟩ = some (.slice la pn lc) := cell_of g4 5
  have o0 : (w4.alloc (.cells #[.bool false, .int .i64 0, .int .i64 0, .int .i64 0, .int .i64 0, .slice none 0 0, .slice none 0 0, .slice none 0 0, .bool rs, .slice sa sl sc, .slice va 0 vc] 57)).cell? ⟨w4.heap.size, 0, none⟩ = some (.bool false) := cell_of GR 0
  have o7 : (w4.alloc (.cells #[.bool false, .int .i64 0, .int .i64 0, .int .i64 0, .int .i64 0, .slice none 0 0, .slice none 0 0, .slice none 0 0, .bool rs, .slice sa sl sc, .slice va 0 vc] 57)).cell? ⟨w4.heap.size, 7, none⟩ = some (.slice none 0 0) := cell_of GR 7
  have o8 : (w4.alloc (.cells #[.bool false, .int .i64 0, .int .i64 0, .int .i64 0, .int .i64 0, .slice none 0 0, .slice none 0 0, .slice none 0 0, .bool rs, .slice sa sl sc, .slice va 0 vc] 57)).cell? ⟨w4.heap.size, 8, none⟩ = some (.bool rs) := cell_of GR 8
  have o9 : (w4.alloc (.cells #[.bool false, .int .i64 0, .int .i64 0, .int .i64 0, .int .i64 0, .slice none 0 0, .slice none 0 0, .slice none 0 0, .bool rs, .slice sa sl sc, .slice va 0 vc] 57)).cell? ⟨w4.heap.size, 9, none⟩ = some (.slice sa sl sc) := cell_of GR 9
  have o10 : (w4.alloc (.cells #[.bool false, .int .i64 0, .int .i64 0, .int .i64 0, .int .i64 0, .slice none 0 0, .slice none 0 0, .slice none 0 0, .bool rs, .slice sa sl sc, .slice va 0 vc] 57)).cell? ⟨w4.heap.size, 10, none⟩ = some (.slice va 0 vc) := cell_of GR 10
  clear TK kp hAr GR g4 hr4 G3 BX3 B3 EE HX hrl
  go_wp2_with fail
  generalize w4.alloc (.cells #[.bool false, .int .i64 0, .int .i64 0, .int .i64 0, .int .i64 0, .slice none 0 0, .slice none 0 0, .slice none 0 0, .bool rs, .slice sa sl sc, .slice va 0 vc] 57) = W5 at *
  refine (unhide ST).mono ?_
  rintro e w6 ⟨rfl, nn, rfl⟩
  have BF := hide (below_drewN3 (unhide B4) nn)
  have SM2 : Hid (rs = true → Calls Try.prog 15 #[.slice sa sl sc, .slice a ln c] (W5.drewN nn) fun e w' => e = .returned (.bool true) ∧ ∃ n, w' = (W5.drewN nn).drewN n) := fun h => unhide SM h nn
  have p0 : (W5.drewN nn).cell? ⟨w.heap.size, 0, none⟩ = some (.int .i64 T) := n0
  have p2 : (W5.drewN nn).cell? ⟨w.heap.size, 2, none⟩ = some (.int .i64 base) := n2
  have p4 : (W5.drewN nn).cell? ⟨w.heap.size, 4, none⟩ = some (.slice a ln c) := n4
  have p5 : (W5.drewN nn).cell? ⟨w.heap.size, 5, none⟩ = some (.slice la pn lc) := n5
  have q0 : (W5.drewN nn).cell? ⟨w4.heap.size, 0, none⟩ = some (.bool false) := o0
  have q7 : (W5.drewN nn).cell? ⟨w4.heap.size, 7, none⟩ = some (.slice none 0 0) := o7
  have q8 : (W5.drewN nn).cell? ⟨w4.heap.size, 8, none⟩ = some (.bool rs) := o8
  have q9 : (W5.drewN nn).cell? ⟨w4.heap.size, 9, none⟩ = some (.slice sa sl sc) := o9
  have q10 : (W5.drewN nn).cell? ⟨w4.heap.size, 10, none⟩ = some (.slice va 0 vc) := o10
  clear SM ST B4 n0 n2 n4 n5 o0 o7 o8 o9 o10
  generalize W5.drewN nn = W6 at *
  cases rs with
  | true =>
    have hb : 0 < base := of_decide_eq_true hrs
    go_wp2_with fail
    refine (unhide SM2 (by first | rfl | trivial)).mono ?_
    rintro e w7 ⟨rfl, n7, rfl⟩
    go_wp2
    go_returns
    exact ⟨rfl, below_drewN3 (unhide BF) n7⟩
  | false =>
    have hb : ¬ 0 < base := of_decide_eq_false hrs
    go_wp2
    go_returns
    exact ⟨rfl, unhide BF⟩
end Go.Proofs.Ytibjfekfkllnjaa
