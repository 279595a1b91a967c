/-
  FrameScans walked: it answers true. Conditions: the bytes are at most 2^40.
-/
import Derived.Test.YtcnmenfianeakaaSc1
namespace Go.Proofs.Ytcnmenfianeakaa
open Go.RowKit
set_option linter.unusedVariables false

theorem scan_payloads (t : List Nat) : (∀ l ∈ (scan t).1, l.length ≤ 4096) ∧ 8 * (scan t).1.length ≤ t.length ∧ (scan t).2.1 ≤ t.length := by
  suffices H : ∀ n, ∀ t : List Nat, t.length ≤ n → (∀ l ∈ (scan t).1, l.length ≤ 4096) ∧ 8 * (scan t).1.length ≤ t.length ∧ (scan t).2.1 ≤ t.length from H _ t (Nat.le_refl _)
  intro n
  induction n with
  | zero =>
    intro t h
    obtain rfl : t = [] := List.eq_nil_of_length_eq_zero (by omega)
    rw [scan_nil]; simp
  | succ n ih =>
    intro t h
    by_cases h0 : t = []
    · subst h0; rw [scan_nil]; simp
    by_cases hd : (dec t).2.2 = 0
    · have ho := dec_ok hd
      obtain ⟨i1, i2, i3⟩ := ih (t.drop (dec t).2.1) (by rw [List.length_drop]; omega)
      rw [List.length_drop] at i2 i3
      rw [scan_more h0 hd]
      refine ⟨fun l hl => ?_, ?_, ?_⟩
      · rcases List.mem_cons.1 hl with e | e
        · rw [e]; exact ho.2.2
        · exact i1 l e
      · show 8 * (_ + 1) ≤ _
        omega
      · show _ + _ ≤ _
        omega
    · rw [scan_bad h0 hd]; simp

/-- What stands while payloads are written over. -/
structure Over (w w4 wr : World) (v : Value) (vs : List Value) (ls : List (List Nat)) (c : Value) (t : List Nat) : Prop where
  own : Own wr 22 v vs
  each : ∀ i, i < ls.length → ∃ u, vs[i]? = some u ∧ ∃ l', l'.length = (ls.getD i []).length ∧ Row wr u l' ∧ New w4 u
  row : Row wr c t
  low : ∀ k, c.ownBlock = some k → k < w4.heap.size
  below : Below w.heap.size w wr
  size : w.heap.size ≤ w4.heap.size
theorem Over.cell {w w4 wr : World} {v : Value} {vs : List Value} {ls : List (List Nat)} {c : Value} {t : List Nat} (h : Over w w4 wr v vs ls c t) {i : Nat} (hi : i < ls.length) :
    ∃ a cap, vs[i]? = some (.slice a (ls.getD i []).length cap) ∧ ∃ l', l'.length = (ls.getD i []).length ∧ Row wr (.slice a (ls.getD i []).length cap) l' ∧ New w4 (.slice a (ls.getD i []).length cap) := by
  obtain ⟨u, h1, l', h2, h3, h4⟩ := h.each i hi
  obtain ⟨a, cap, e, _⟩ := h3.parts
  rw [h2] at e
  subst e
  exact ⟨a, cap, h1, l', h2, h3, h4⟩
theorem Over.drewN {w w4 wr : World} {v : Value} {vs : List Value} {ls : List (List Nat)} {c : Value} {t : List Nat} (h : Over w w4 wr v vs ls c t) (n : Nat) : Over w w4 (wr.drewN n) v vs ls c t :=
  ⟨h.own, fun i hi => by obtain ⟨u, h1, l', h2, h3, h4⟩ := h.each i hi; exact ⟨u, h1, l', h2, h3.drewN n, h4⟩, h.row.drewN n, h.low, below_drewN3 h.below n, h.size⟩
theorem Over.set {w w4 wr : World} {v : Value} {vs : List Value} {ls : List (List Nat)} {c : Value} {t : List Nat} (h : Over w w4 wr v vs ls c t) {g n cap : Nat} {l : List Nat} (r : Row wr (.slice (some ⟨g, 0, none⟩) n cap) l) (hn : New w4 (.slice (some ⟨g, 0, none⟩) n cap)) (k : Nat) {x : Nat} (hx : x < 256) :
    Over w w4 (wr.setCell ⟨g, k, none⟩ (.int .u8 (x : Nat))) v vs ls c t := by
  have tt := touch_set wr g k (.int .u8 (x : Nat))
  have hg := hn g rfl
  refine ⟨h.own.keep tt (fun j hj e => Spine.apart h.own r g rfl (by rw [← e]; exact hj)), fun i hi => ?_, h.row.keep tt (fun j hj e => by have := h.low j hj; omega), h.low, below_touch h.below tt h.below.size (fun j hj => by have := h.size; omega), h.size⟩
  obtain ⟨u, h1, l', h2, h3, h4⟩ := h.each i hi
  by_cases hu : u.ownBlock = some g
  · rcases h3.own.2 with ⟨e, _⟩ | ⟨g', cap', cur, e, _⟩
    · rw [e] at hu; simp [Value.ownBlock] at hu
    · subst e
      have e' : g' = g := by simpa [Value.ownBlock] using hu
      subst e'
      exact ⟨_, h1, l'.set k x, by simpa using h2, h3.set k hx, h4⟩
  · exact ⟨u, h1, l', h2, h3.keep tt (fun j hj e => hu (by rw [hj, e])), h4⟩

set_option maxRecDepth 100000 in
set_option maxHeartbeats 8000000 in
theorem frameScans_walk (a : Option Addr) (cap : Nat) (t : List Nat) (w : World) (hp : LAt w a t) (hn : a = none → cap = 0) (hcp : t.length ≤ cap) (hl : t.length ≤ 1099511627776) :
    Calls Try.prog 3 #[.slice a t.length cap] w fun e w' => e = .returned (.bool true) ∧ Below w.heap.size w w' := by
  have HP := hide hp
  clear hp
  obtain ⟨hp1, hp2, hp3⟩ := scan_payloads t
  go_enter Try.func3, Try.ntmps3
  go_wp2_with fail
  refine (fnew_any w).mono ?_
  rintro e w1 ⟨rfl, h1, b1⟩
  have R1 := hide h1
  have B1 := hide b1
  have hfb := h1.lt
  have DEH := hide (docscan_any ((unhide HP).later b1) hn hcp hl)
  clear h1 b1
  go_wp2_with fail
  refine (unhide DEH).mono ?_
  rintro e w2 ⟨v2, rfl, to2, n2, b2⟩
  have R2 := hide ((unhide R1).keep (Touch.of_below (S := fun _ => False) b2) (fun h => h))
  have B2 := hide ((unhide B1).trans (b2.mono (unhide B1).size))
  obtain ⟨vs2, sp2⟩ := to2
  have RA2 := hide sp2
  have N2 : Hid (∀ k, v2.ownBlock = some k → w.heap.size < k) := fun k hk => by have := n2 k hk; omega
  obtain ⟨a2, m2, c2, rfl⟩ := sp2.shape
  have hs12 := b2.size
  clear b2 DEH R1 n2 sp2
  go_wp2_with fail
  refine (awake4_any w2).mono ?_
  rintro e w3 ⟨rfl, b3⟩
  have R3 := hide ((unhide R2).keep (Touch.of_below (S := fun _ => False) b3) (fun h => h))
  have B3 := hide ((unhide B2).trans (b3.mono (unhide B2).size))
  have RA3 := hide ((unhide RA2).later b3)
  have hs23 := b3.size
  clear b3 R2 B2 RA2
  have P3 := hide ((unhide HP).later (unhide B3))
  have R0 := hide (Row.lit w3 [] (fun x hx => by cases hx) #[] rfl (by simp [maxLen]))
  go_wp2_with (at_builtin; refine wpList_row _ rfl (.tmp 23) (.tmp 24) rfl _ [] rfl (unhide R0) a cap t rfl ((unhide P3).keep ((Touch.refl (fun _ => False) w3).alloc _) (fun _ _ _ h => h)) hn (by simp; omega) ?_)
  intro vc w4 r4 t4 m4
  have F4 := fresh_copy4 r4 t4 m4
  clear r4 t4 m4 R0 P3
  have hs34 := F4.2.2.size
  have R4 := hide ((unhide R3).keep (Touch.of_below (S := fun _ => False) F4.2.2) (fun h => h))
  have B4 := hide ((unhide B3).trans (F4.2.2.mono (unhide B3).size))
  have RA4 := hide ((unhide RA3).later F4.2.2)
  have C4 := hide F4.1
  have NC : Hid (∀ k, vc.ownBlock = some k → w.heap.size < k ∧ k < w4.heap.size) := fun k hk => ⟨by have := F4.2.1 k hk; omega, F4.1.lt k hk⟩
  obtain ⟨ac, cc, rfl, lc, hcc, _, hnc, hoc, _⟩ := F4.1.parts
  have DC := hide (fscan_any (unhide R4) lc hnc hcc (fun h0 x hx => by have := unhide NC x.block (hoc x hx); omega) hl)
  clear F4 R3 B3 RA3 lc hcc hnc hoc
  go_wp2_with fail
  refine (unhide DC).mono ?_
  rintro e w5 ⟨vb, rfl, r5, n5, d5⟩
  have B5 := hide (below_touch (unhide B4) d5.touch (unhide B4).size (fun i hi => by omega))
  obtain ⟨vs, sp5⟩ := r5
  have OV : Hid (Over w w4 w5 vb vs (scan t).1 (.slice ac t.length cc) t) := by
    refine ⟨sp5.own, fun i hi => ?_, (unhide C4).keep d5.touch (fun i hi e => by have := unhide NC i hi; omega), fun k hk => (unhide NC k hk).2, unhide B5, (unhide B4).size⟩
    obtain ⟨u, e1, e2, e3⟩ := sp5.each i hi
    exact ⟨u, e1, _, rfl, e2, e3⟩
  obtain ⟨ab, cb, rfl, rb, _, _, _, _⟩ := (sp5.parts (fun u l h => h.1.elem))
  have RA5 := told_at ((unhide RA4).keep d5.touch (fun k hk e => by have := unhide N2 k hk; omega)) (unhide B1) (unhide B5) (unhide HP) (by omega)
  obtain ⟨_, _, e2, ra5, _⟩ := RA5
  cases e2
  have SM := hide (samelist_any w5 ab a2 cb c2 (scan t).1 rb ra5 (by omega) (fun l hl' => by have := hp1 l hl'; omega))
  clear sp5 n5 d5 rb ra5 DC R4 B4 C4 RA4
  generalize scan t = D at *
  obtain ⟨W, sz, er⟩ := D
  simp only at hp1 hp2 hp3 OV SM
  go_wp2_with fail
  refine (unhide SM).mono ?_
  rintro e w6 ⟨rfl, n6, rfl⟩
  have OV6 : Hid (Over w w4 (w5.drewN n6) (.slice ab W.length cb) vs W (.slice ac t.length cc) t) := (unhide OV).drewN n6
  clear OV SM B5
  generalize w5.drewN n6 = w7 at *
  have HP1 := hide hp1
  clear hp1
  go_wp2_with fail
  go_loopw [49] (fun i wr => ∃ (j : Nat), j ≤ W.length ∧ i = .int .i64 j ∧ Over w w4 wr (.slice ab W.length cb) vs W (.slice ac t.length cc) t) (fun i _ => W.length - (intOf i).toNat)
  case atStart => exact ⟨0, Nat.zero_le _, rfl, unhide OV6⟩
  case round =>
    obtain ⟨j, hj, rfl, ov⟩ := hrel
    have OV := hide ov
    clear OV6
    by_cases hjc : j < W.length
    · have hjc' : (j : Int) < (W.length : Int) := by omega
      obtain ⟨x, cx, ex, l', el', rx, nx⟩ := ov.cell hjc
      obtain ⟨_, _, e, _, _, _, _, hcs⟩ := ov.own.parts
      have hvl : vs.length = W.length := by
        have := e; simp at this; omega
      obtain ⟨g, hg, hgl, hc, _⟩ := hcs j (by omega)
      simp only [Value.slice.injEq] at e
      obtain ⟨rfl, _, rfl⟩ := e
      subst hg
      rw [ex] at hc
      have hlw := unhide HP1 _ (getD_mem_l hjc)
      have NX := hide nx
      have RX : Hid (∃ l', Row wr (.slice x (W.getD j []).length cx) l') := ⟨l', rx⟩
      clear ov hcs ex rx el' nx hvl
      generalize (W.getD j []).length = L at *
      go_wp2_with fail
      go_loopw [55] (fun i wq => ∃ (k : Nat), k ≤ L ∧ i = .int .i64 k ∧ (∃ l', Row wq (.slice x L cx) l') ∧ Over w w4 wq (.slice (some ⟨g, 0, none⟩) W.length cb) vs W (.slice ac t.length cc) t) (fun i _ => L - (intOf i).toNat)
      case atStart => exact ⟨0, Nat.zero_le _, rfl, unhide RX, unhide OV⟩
      case round =>
        obtain ⟨k, hk, rfl, ⟨l2, rq⟩, oq⟩ := hrel
        by_cases hkc : k < L
        · obtain ⟨gg, rfl, ⟨y, hcell⟩, hfz, rl2, _⟩ := rq.put (k := k) hkc (x := 5) (by omega)
          have OQ2 := hide (oq.set rq (unhide NX) k (x := 5) (by omega))
          have RL2 := hide rl2
          clear rq oq rl2 RX OV
          have hkc' : (k : Int) < (L : Int) := by omega
          go_wp2
          go_roundw
          case rel => exact ⟨k + 1, by omega, by go_num, ⟨_, unhide RL2⟩, unhide OQ2⟩
          case measure => simp [intOf]; omega
        · have hkc' : ¬ (k : Int) < (L : Int) := by omega
          have OQ := hide oq
          clear oq rq RX OV
          go_wp2
          go_roundw
          case rel => exact ⟨j + 1, by omega, by go_num, unhide OQ⟩
          case measure => simp [intOf]; omega
    · have hjc' : ¬ (j : Int) < (W.length : Int) := by omega
      obtain ⟨_, _, e, lc8, _⟩ := ov.row.parts
      cases e
      have B8 := hide ov.below
      have SM := hide (same_any wr ac a cc cap t lc8 ((unhide HP).later ov.below) (by omega))
      clear ov lc8 OV
      go_wp2_with fail
      refine (unhide SM).mono ?_
      rintro e w9 ⟨rfl, n9, rfl⟩
      go_wp2
      go_returns
      exact ⟨rfl, below_drewN3 (unhide B8) n9⟩
end Go.Proofs.Ytcnmenfianeakaa
