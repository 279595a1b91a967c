/-
  EpochsEnds, walked. Conditions: the script is one; it has at most 2^47 bytes.
-/
import Derived.Test.YtfpcocagifmpbaaRg
namespace Go.Proofs.Ytfpcocagifmpbaa
open Go.RowKit Go.Shelf
set_option linter.unusedVariables false
attribute [local go_sem] Oper.semAt_some

/-- An epoch that is there ends where the next one begins. -/
theorem end_at {l : List Pr} (h : Ris l) {k : Nat} (hk : k < l.length) {ep : Int} (h1 : (l[k]'hk).1 ≤ ep) (h2 : ∀ hn : k + 1 < l.length, ep < (l[k + 1]'hn).1) (en : Int) : endE l ep en = ((l[k]'hk).1, if hn : k + 1 < l.length then (l[k + 1]'hn).2 else en, true) := by
  refine endE_some hk h1 (fun j hj hkj => ?_)
  have hn : k + 1 < l.length := by omega
  have := h2 hn
  by_cases e : j = k + 1
  · subst e; exact this
  · have := (h.at (i := k + 1) (j := j) (by omega) hj).1; omega
theorem end_low {l : List Pr} (h : Ris l) (hk : 0 < l.length) (en : Int) : endE l ((l[0]'hk).1 - 1) en = (0, 0, false) := by
  refine endE_none (fun j hj => ?_)
  by_cases e : j = 0
  · subst e; omega
  · have := (h.at (i := 0) (j := j) (by omega) hj).1; omega
/-- Numbers of a list that a script makes. -/
def Fit (l : List Pr) : Prop := ∀ q ∈ l, 0 ≤ q.1 ∧ q.1 ≤ 9223372036854775807
theorem Fit.asg {l : List Pr} (h : Fit l) (hr : Ris l) {ep a : Int} (he : ep ≤ 9223372036854775807) : Fit (asgE ep a l).2 := by
  intro q hq
  rcases asg_cases ep a l hr with e | ⟨e, h0, _⟩
  · rw [e] at hq; exact h q hq
  · rw [e] at hq
    rcases List.mem_append.1 hq with h' | h'
    · exact h q (List.mem_filter.1 h').1
    · rw [List.mem_singleton] at h'; subst h'; exact ⟨h0, he⟩
/-- What stands behind the first round. -/
structure En (w W : World) (cb lb sb D : Nat) (l : List Pr) : Prop where
  ca : ∃ v, CaAt w.heap.size W cb v l
  b1 : ∃ u, Bo w.heap.size W lb u (fsC l)
  b2 : ∃ u, Bo w.heap.size W sb u (snC l)
  hd : W.heap[D]? = some (.deferred (some []))
  bl : Below w.heap.size w W
theorem En.later {w W W' : World} {cb lb sb D : Nat} {l : List Pr} (h : En w W cb lb sb D l) (hb : Below W.heap.size W W') : En w W' cb lb sb D l := by
  obtain ⟨⟨v, h1⟩, ⟨u1, h2⟩, ⟨u2, h3⟩, h4, h5⟩ := h
  exact ⟨⟨v, h1.later hb⟩, ⟨u1, h2.later hb⟩, ⟨u2, h3.later hb⟩, below_keep hb h4, h5.trans (hb.mono h5.size)⟩
theorem En.endd {w W : World} {cb lb sb D : Nat} {l : List Pr} (h : En w W cb lb sb D l) (ep en : Int) :
    Calls Try.prog 15 #[.pointer (some ⟨cb, 0, none⟩), .int .i64 ep, .int .i64 en] W fun e W' => e = .returned (tup (endE l ep en)) ∧ En w W' cb lb sb D l := by
  obtain ⟨v, hc⟩ := h.ca
  refine (end_any hc ep en).mono ?_
  rintro e W' ⟨rfl, b'⟩
  exact ⟨rfl, h.later b'⟩
/-- The rows' values and cells. -/
theorem En.cells {w W : World} {cb lb sb D : Nat} {l : List Pr} (h : En w W cb lb sb D l) : ∃ a1 c1 a2 c2, W.cell? ⟨lb, 0, none⟩ = some (.slice a1 l.length c1) ∧ W.cell? ⟨sb, 0, none⟩ = some (.slice a2 l.length c2) ∧ ∀ i (hi : i < l.length), ∃ g1 g2, a1 = some ⟨g1, 0, none⟩ ∧ a2 = some ⟨g2, 0, none⟩ ∧ W.cell? ⟨g1, i, none⟩ = some (.int .i64 l[i].1) ∧ W.cell? ⟨g2, i, none⟩ = some (.int .i64 l[i].2) := by
  obtain ⟨u1, b1⟩ := h.b1
  obtain ⟨u2, b2⟩ := h.b2
  obtain ⟨a1, c1, e1, m1, m2, _, _, p1⟩ := b1.row.parts
  obtain ⟨a2, c2, e2, m3, m4, _, _, p2⟩ := b2.row.parts
  rw [List.length_map] at e1 e2
  refine ⟨a1, c1, a2, c2, by rw [b1.cell, e1], by rw [b2.cell, e2], fun i hi => ?_⟩
  obtain ⟨g1, q1, _, q3, _⟩ := p1 i (by rw [List.length_map]; exact hi)
  obtain ⟨g2, s1, _, s3, _⟩ := p2 i (by rw [List.length_map]; exact hi)
  exact ⟨g1, g2, q1, s1, by rw [q3]; simp [hi], by rw [s3]; simp [hi]⟩
set_option maxRecDepth 100000 in
set_option maxHeartbeats 4000000 in
theorem epochsEnds_walk (a : Option Addr) (cap : Nat) (os : List Op10) (t : Int) (w : World) (hos : OpsAt w a os) (hn : os.length ≤ 5864062014634) :
    Calls Try.prog 5 #[.slice a os.length cap, .int .i64 t] w fun e w' => e = .returned (.bool true) ∧ Below w.heap.size w w' := by
  have HOS := hide hos
  clear hos
  refine (callsIn_wide (n := 3)).1 ?_
  refine callsIn_of_wp_marks Try.func5 rfl trivial ?_ rfl
  simp only [Try.ntmps5, List.size_toArray, List.length_cons, List.length_nil, Nat.reduceAdd, Nat.reduceSub, Array.replicate_succ, Array.replicate_zero, List.push_toArray, List.append_toArray, List.nil_append, List.cons_append]
  gi_wp2_with fail
  refine ⟨trivial, (callsIn_wide.2 (new10_any w)).mono ?_⟩
  rintro e w0 ⟨rfl, rfl⟩
  have U0 := hide (Uno.start w w [] (fun x hx => by cases hx) (Below.refl _ _))
  gi_wp2_with fail
  generalize w.alloc (.cells #[.slice none 0 0] 50) = W0 at *
  refine ⟨trivial, (callsIn_wide.2 (awake10_any W0)).mono ?_⟩
  rintro e w1 ⟨rfl, b1⟩
  have U1 := hide ((unhide U0).later b1)
  clear b1 U0
  gi_wp2_with fail
  gi_loopw [32] (fun pl wr => ∃ (k : Nat) (l : List Pr), k ≤ os.length ∧ pl = .int .i64 (k : Int) ∧ l.length ≤ k ∧ Ris l ∧ Fit l ∧ Uno w wr w.heap.size l []) (fun pl _ => os.length - (intOf pl).toNat)
  case atStart => exact ⟨0, [], Nat.zero_le _, rfl, Nat.le_refl _, List.Pairwise.nil, (fun q hq => by cases hq), unhide U1⟩
  case round =>
    obtain ⟨k, l, hk, rfl, hlk, hris, hfit, hU⟩ := hrel
    have hl8 : l.length ≤ 8000000000000 := by omega
    by_cases hkl : k < os.length
    · have hkl' : (k : Int) < (os.length : Int) := by omega
      have hz : (0 : Int) ≤ (k : Int) := by omega
      have hw1 : IntKind.i64.wrap ((k : Int) + 1) = (k : Int) + 1 := wrap_low (by omega) (by omega)
      obtain ⟨⟨b, off, rfl, hb, hcell⟩, hIn⟩ := unhide HOS k hkl
      have y0 := (hU.bl.cell (p := ⟨b, off + k * 3 + 0, none⟩) hb).trans (hcell 0 (by omega))
      have y1 := (hU.bl.cell (p := ⟨b, off + k * 3 + 1, none⟩) hb).trans (hcell 1 (by omega))
      have y2 := (hU.bl.cell (p := ⟨b, off + k * 3 + 2, none⟩) hb).trans (hcell 2 (by omega))
      clear hcell U1 HOS
      generalize os[k] = o at *
      obtain ⟨ok, oe, oa⟩ := o
      have he2 := hIn.e2
      simp only at he2
      simp only [Op10.cells, List.getElem?_cons_zero, List.getElem?_cons_succ, Nat.add_zero] at y0 y1 y2
      have DA := hide (hU.add #[.int .i64 ok, .int .i64 oe, .int .i64 oa] 31 (by decide) (by decide) (by decide))
      have NX : Hid (Ris (asgE oe oa l).2 ∧ (asgE oe oa l).2.length ≤ k + 1 ∧ Fit (asgE oe oa l).2) := ⟨hris.asg oe oa, Nat.le_trans (len_asg hris oe oa) (by omega), hfit.asg hris he2⟩
      have ob := (unhide DA).get (List.mem_cons_self ..)
      have x1 : (wr.alloc (.cells #[.int .i64 ok, .int .i64 oe, .int .i64 oa] 31)).cell? ⟨wr.heap.size, 1, none⟩ = some (.int .i64 oe) := by rw [cell_of ob]; rfl
      have x2 : (wr.alloc (.cells #[.int .i64 ok, .int .i64 oe, .int .i64 oa] 31)).cell? ⟨wr.heap.size, 2, none⟩ = some (.int .i64 oa) := by rw [cell_of ob]; rfl
      have AC := hide ((unhide DA).asg hris hl8 oe oa)
      clear ob hU hris hfit hIn DA
      generalize asgE oe oa l = R at *
      obtain ⟨r1, r2⟩ := R
      simp only at NX AC
      gi_wp2_with fail
      generalize wr.alloc (.cells #[.int .i64 ok, .int .i64 oe, .int .i64 oa] 31) = W1 at *
      refine ⟨trivial, (callsIn_wide.2 (unhide AC)).mono ?_⟩
      rintro e w2 ⟨rfl, d2⟩
      have FT := hide d2.drop
      clear AC x1 x2 y0 y1 y2 d2
      gi_wp2
      go_roundw
      case rel => exact ⟨k + 1, r2, by omega, by go_num, (unhide NX).2.1, (unhide NX).1, (unhide NX).2.2, unhide FT⟩
      case measure => simp [intOf]; omega
    · have hkl' : ¬ (k : Int) < (os.length : Int) := by omega
      have HX := hide hris
      have HF := hide hfit
      have U2 := hide ((hU.add #[.slice none 0 0] 26 (by decide) (by decide) (by decide)).add #[.slice none 0 0] 26 (by decide) (by decide) (by decide))
      have hwr := hU.bl.size
      clear hris hfit hU HOS U1
      rw [World.size_alloc] at U2
      have AL := hide ((unhide U2).all hl8)
      have hs2 : Hid (((wr.alloc (.cells #[.slice none 0 0] 26)).alloc (.cells #[.slice none 0 0] 26)).heap.size = wr.heap.size + 1 + 1) := by show _ = _; simp
      gi_wp2_with fail
      generalize (wr.alloc (.cells #[.slice none 0 0] 26)).alloc (.cells #[.slice none 0 0] 26) = W2 at *
      refine ⟨trivial, (callsIn_wide.2 (unhide AL)).mono ?_⟩
      rintro e w8 ⟨⟨v8, rfl, x8, r8, b8⟩, d8⟩
      clear AL
      have L8 := hide (d8.get (List.mem_cons_of_mem _ (List.mem_cons_self ..)))
      have S8 := hide (d8.get (List.mem_cons_self ..))
      have C8 := hide d8.ca
      have B8 := hide d8.bl
      obtain ⟨lo, hlo⟩ : ∃ lo, lo = W2.heap.size := ⟨_, rfl⟩
      rw [← hlo] at x8 r8 ⊢
      rw [unhide hs2] at hlo
      obtain ⟨sb, hsb⟩ : ∃ sb, sb = wr.heap.size + 1 := ⟨_, rfl⟩
      obtain ⟨lb, hlb⟩ : ∃ lb, lb = wr.heap.size := ⟨_, rfl⟩
      rw [← hsb] at S8
      rw [← hlb] at L8
      have h89 := lt_of_heap x8
      have g1 : lb < sb := by omega
      have g2 : sb < lo := by omega
      have g3 : w.heap.size ≤ lb := by omega
      have C8L : Hid (∀ v, CaAt w.heap.size w8 w.heap.size v l → (w.heap.size ≠ lb ∧ w.heap.size ≠ sb ∧ ∀ k, v.ownBlock = some k → k ≠ lb ∧ k ≠ sb)) := fun v hv => by
        refine ⟨fun e => ?_, fun e => ?_, fun k hk => ⟨fun e => ?_, fun e => ?_⟩⟩
        · have := hv.box; rw [e] at this; exact absurd (obj_ne this (unhide L8)) (by decide)
        · have := hv.box; rw [e] at this; exact absurd (obj_ne this (unhide S8)) (by decide)
        · subst e; obtain ⟨cs, hcs⟩ := hv.row.heap hk; exact absurd (obj_ne hcs (unhide L8)) (by decide)
        · subst e; obtain ⟨cs, hcs⟩ := hv.row.heap hk; exact absurd (obj_ne hcs (unhide S8)) (by decide)
      have HSB := hide hsb
      have HLB := hide hlb
      clear d8 b8 U2 hs2 hlo hsb hlb
      gi_wp2_with fail
      rw [← unhide HSB, ← unhide HLB]
      clear HSB HLB
      refine wpIn_rangeFunc_ownG rfl (by omega) (gf := 22) (lb := #[.pointer (some ⟨lo, 0, none⟩)]) rfl trivial (enters_of Try.func22 (by kernel_rfl) rfl)
        (alls Fence.wide _ trivial rfl (by omega) lo v8 l w8 x8 r8 hl8) Keep.trans (Keep.put (Nat.le_refl _)) (Below.refl _ _) (fun _ => rfl)
        (fun pre W => (∃ u1 u2, Bo w8.heap.size W lb u1 (fsC pre) ∧ Bo w8.heap.size W sb u2 (snC pre) ∧ (∀ k, u1.ownBlock = some k → u2.ownBlock ≠ some k)) ∧ Touch (fun k => k = lb ∨ k = sb) w8 W)
        (fun _ _ _ => False)
        (OwnFrom.and (Own.from (fun s A B row hs hg hr => by obtain ⟨u1, u2, h1, h2, h3⟩ := hs; exact ⟨u1, u2, h1.grown hg hr, h2.grown hg hr, h3⟩) _) (Touch.own (Nat.le_refl _)))
        (fun c s A B row hs hg hr => hs)
        ⟨⟨.slice none 0 0, .slice none 0 0, ⟨unhide L8, Own.nil _ _, fun k hk => by simp [Value.ownBlock] at hk⟩, ⟨unhide S8, Own.nil _ _, fun k hk => by simp [Value.ownBlock] at hk⟩, fun k hk => by simp [Value.ownBlock] at hk⟩, Touch.refl _ _⟩
        ?a1 ?assign ?body ?done ?stop
      case assign =>
        intro l x W K hK
        gi_wp2
        exact hK
      case body =>
        rintro L pre x W ⟨⟨u1, u2, h1, h2, hap⟩, tW⟩ hlt
        obtain ⟨x1, x2⟩ := x
        have hsW := tW.size
        have c1 := h1.cell
        obtain ⟨p1, q1, e1⟩ := h1.shape
        obtain ⟨p2, q2, e2⟩ := h2.shape
        rw [List.length_map] at e1 e2
        subst e1 e2
        have O1 := hide (h1.row.later ((Below.refl W.heap.size W).alloc (Nat.le_refl _) (.cells #[.int .i64 x1] 3)))
        have H1 := hide h1
        have H2 := hide h2
        have AP := hide hap
        have TW := hide tW
        have hlW : lb < W.heap.size := lt_of_heap h1.box
        clear h1 h2 hap tW
        gi_wp2_with (gi_at_builtin; refine wpListIn_i1 _ rfl (.tmp 47) (.tmp 49) rfl (.slice p1 pre.length q1) (fsC pre) rfl (unhide O1) W.heap.size x1 rfl (by rw [cell_of (heap_new _ _)]; rfl) (by rw [List.length_map]; omega) ?_)
        intro u3 w3 o3 t3 m3
        obtain ⟨K1, K2, K3, K4⟩ := (unhide H1).more (by omega) hsW o3 t3 m3
        have H2' := hide ((unhide H2).keep K2 (fun e => by
          rcases e with e | e
          · omega
          · have := (unhide H1).new _ e; omega) (fun k hk e => by
          rcases e with e | e
          · have := (unhide H2).new k hk; omega
          · exact unhide AP k e hk))
        have AP' : Hid (∀ k, u3.ownBlock = some k → (Value.slice p2 pre.length q2).ownBlock ≠ some k) := fun k hk e => by
          rcases K3 k hk with e2 | e2
          · exact unhide AP k e2 e
          · have := (unhide H2).row.lt k e; omega
        have T3 : Hid (Touch (fun k => k = lb ∨ k = sb) w8 (w3.setCell ⟨lb, 0, none⟩ u3)) := touch_new (unhide TW) K2 (fun k hk => by
          rcases hk with e | e
          · exact .inl (.inl e)
          · exact .inr ((unhide H1).new k e))
        have H1' := hide K1
        have z3 := frozen_of K4 0
        have y3 : w3.cell? ⟨lb, 0, none⟩ = some (.slice p1 pre.length q1) := by rw [cell_of K4]; rfl
        obtain ⟨p3, q3, e3⟩ := own_shape o3
        rw [List.length_append, List.length_map, List.length_singleton] at e3
        subst e3
        have c2 := (unhide H2').cell
        have hs3 : (w3.setCell ⟨lb, 0, none⟩ (.slice p3 (pre.length + 1) q3)).heap.size = w3.heap.size := by simp
        have KS : Hid (Keep lo w8.heap.size W (w3.setCell ⟨lb, 0, none⟩ (.slice p3 (pre.length + 1) q3))) := Keep.touch K2 hsW (fun k hk => by
          rcases hk with e | e
          · omega
          · have := (unhide H1).new k e; omega)
        have KO : Hid (KeepsOthers W (w3.setCell ⟨lb, 0, none⟩ (.slice p3 (pre.length + 1) q3))) := (unhide H1).others K2
        have O2 := hide ((unhide H2').row.later ((Below.refl _ (w3.setCell ⟨lb, 0, none⟩ (.slice p3 (pre.length + 1) q3))).alloc (Nat.le_refl _) (.cells #[.int .i64 x2] 3)))
        have C2 : Hid (((w3.setCell ⟨lb, 0, none⟩ (.slice p3 (pre.length + 1) q3)).alloc (.cells #[.int .i64 x2] 3)).cell? ⟨w3.heap.size, 0, none⟩ = some (.int .i64 x2)) := by
          have := heap_new (w3.setCell ⟨lb, 0, none⟩ (.slice p3 (pre.length + 1) q3)) (.cells #[.int .i64 x2] 3)
          rw [hs3] at this
          show _ = _
          rw [cell_of this]; rfl
        have hl3 : lb < w3.heap.size := lt_of_heap K4
        have hsz3 : w8.heap.size ≤ (w3.setCell ⟨lb, 0, none⟩ (.slice p3 (pre.length + 1) q3)).heap.size := (unhide T3).size
        have HZ3 := hide hsz3
        clear K1 K2 K3 K4 o3 t3 m3 O1 H1 H2 AP TW c1 hs3 hsz3
        gi_wp2_with (gi_at_builtin; refine wpListIn_i1 _ rfl (.tmp 51) (.tmp 53) rfl (.slice p2 pre.length q2) (snC pre) rfl (unhide O2) w3.heap.size x2 rfl (unhide C2) (by rw [List.length_map]; omega) ?_)
        intro u5 w5 o5 t5 m5
        obtain ⟨K1, K2, K3, K4⟩ := (unhide H2').more (by omega) (unhide HZ3) o5 t5 m5
        obtain ⟨p5, q5, e5⟩ := own_shape o5
        rw [List.length_append, List.length_map, List.length_singleton] at e5
        subst e5
        have z5 := frozen_of K4 0
        have y5 : w5.cell? ⟨sb, 0, none⟩ = some (.slice p2 pre.length q2) := by rw [cell_of K4]; rfl
        have FIN : Hid (KeepsFrom w8.heap.size W (w5.setCell ⟨sb, 0, none⟩ (.slice p5 (pre.length + 1) q5)) ∧ Keep lo w8.heap.size W (w5.setCell ⟨sb, 0, none⟩ (.slice p5 (pre.length + 1) q5)) ∧ (∃ u1 u2, Bo w8.heap.size (w5.setCell ⟨sb, 0, none⟩ (.slice p5 (pre.length + 1) q5)) lb u1 (fsC (pre ++ [(x1, x2)])) ∧ Bo w8.heap.size (w5.setCell ⟨sb, 0, none⟩ (.slice p5 (pre.length + 1) q5)) sb u2 (snC (pre ++ [(x1, x2)])) ∧ (∀ k, u1.ownBlock = some k → u2.ownBlock ≠ some k)) ∧ Touch (fun k => k = lb ∨ k = sb) w8 (w5.setCell ⟨sb, 0, none⟩ (.slice p5 (pre.length + 1) q5))) := by
          refine ⟨((unhide KO).trans ((unhide H2').others K2)).from _, (unhide KS).trans (Keep.touch K2 (unhide HZ3) (fun k hk => ?_)), ⟨.slice p3 (pre.length + 1) q3, .slice p5 (pre.length + 1) q5, ?_, ?_, fun k hk e => ?_⟩, touch_new (unhide T3) K2 (fun k hk => ?_)⟩
          · rcases hk with e | e
            · omega
            · have := (unhide H2').new k e; omega
          · have := (unhide H1').keep K2 (fun e => by
              rcases e with e | e
              · omega
              · have := (unhide H2').new _ e; omega) (fun k hk e => by
              rcases e with e | e
              · have := (unhide H1').new k hk; omega
              · exact unhide AP' k hk e)
            show Bo _ _ _ _ (List.map _ _)
            rw [List.map_append]
            exact this
          · show Bo _ _ _ _ (List.map _ _)
            rw [List.map_append]
            exact K1
          · rcases K3 k e with e2 | e2
            · exact unhide AP' k hk e2
            · have := (unhide H1').row.lt k hk; omega
          · rcases hk with e | e
            · exact .inl (.inr e)
            · exact .inr ((unhide H2').new k e)
        clear K1 K2 K3 K4 o5 t5 m5 O2 C2 H1' H2' AP' T3 KS KO HZ3 y3 z3 c2
        gi_wp2
        exact unhide FIN
      case done =>
        rintro D ys W hD rfl ⟨⟨u1, u2, h1, h2, hap⟩, tW⟩ hK
        have hsW := tW.size
        have EN : Hid (En w W w.heap.size lb sb D ys) := by
          obtain ⟨v, hv⟩ := unhide C8
          obtain ⟨n1, n2, n3⟩ := unhide C8L v hv
          have hB8 := (unhide B8).size
          refine ⟨⟨v, hv.keep tW (fun e => by rcases e with e | e; exact n1 e; exact n2 e) (fun k hk e => by rcases e with e | e; exact (n3 k hk).1 e; exact (n3 k hk).2 e)⟩, ⟨u1, h1.box, h1.row, fun k hk => by have := h1.new k hk; omega⟩, ⟨u2, h2.box, h2.row, fun k hk => by have := h2.new k hk; omega⟩, hK, below_touch (unhide B8) tW (unhide B8).size (fun k hk => by omega)⟩
        have hDw : w.heap.size ≤ D := by have := (unhide B8).size; omega
        clear h1 h2 hap tW hK C8 C8L L8 S8 B8 r8 x8
        gi_wp2_with fail
        gi_loopw [12] (fun pl wr => ∃ (k : Nat), k ≤ ys.length ∧ pl = .int .i64 (k : Int) ∧ En w wr w.heap.size lb sb D ys) (fun pl _ => ys.length - (intOf pl).toNat)
        case atStart => exact ⟨0, Nat.zero_le _, rfl, unhide EN⟩
        case round =>
          obtain ⟨i, hi, rfl, hE⟩ := hrel
          obtain ⟨a1, c1, a2, c2, e1, e2, hcs⟩ := hE.cells
          by_cases hil : i < ys.length
          · have hil' : (i : Int) < (ys.length : Int) := by omega
            have hi0 : (0 : Int) ≤ (i : Int) := by omega
            have hw1 : IntKind.i64.wrap ((i : Int) + 1) = (i : Int) + 1 := wrap_low (by omega) (by omega)
            obtain ⟨g1', g2', rfl, rfl, y1, y2⟩ := hcs i hil
            have hF := unhide HF _ (List.getElem_mem hil)
            by_cases hn1 : i + 1 < ys.length
            · have hn1' : (i : Int) + 1 < (ys.length : Int) := by omega
              have hn2 : (0 : Int) ≤ (i : Int) + 1 := by omega
              have htn : ((i : Int) + 1).toNat = i + 1 := by omega
              have hrs := ((unhide HX).at (i := i) (j := i + 1) (by omega) hn1).1
              have hF2 := unhide HF _ (List.getElem_mem hn1)
              obtain ⟨g3', g4', q3, q4, y3, y4⟩ := hcs (i + 1) hn1
              injection q3 with q3; injection q3 with q3; subst q3
              injection q4 with q4; injection q4 with q4; subst q4
              have EA := hide (hE.endd (ys[i]'hil).1 t)
              rw [end_at (unhide HX) hil (Int.le_refl _) (fun h => hrs) t, dif_pos hn1] at EA
              have EB : Hid ((ys[i]'hil).1 + 1 < (ys[i + 1]'hn1).1 → ∀ W, En w W w.heap.size lb sb D ys → Calls Try.prog 15 #[.pointer (some ⟨w.heap.size, 0, none⟩), .int .i64 ((ys[i]'hil).1 + 1), .int .i64 t] W fun e W' => e = .returned (tup ((ys[i]'hil).1, (ys[i + 1]'hn1).2, true)) ∧ En w W' w.heap.size lb sb D ys) := fun hg W h => by
                have := h.endd ((ys[i]'hil).1 + 1) t
                rw [end_at (unhide HX) hil (by omega) (fun _ => hg) t, dif_pos hn1] at this
                exact this
              have CE : Hid (∀ W, En w W w.heap.size lb sb D ys → ∃ p1 d1 p2 d2, W.cell? ⟨lb, 0, none⟩ = some (.slice (some ⟨p1, 0, none⟩) ys.length d1) ∧ W.cell? ⟨sb, 0, none⟩ = some (.slice (some ⟨p2, 0, none⟩) ys.length d2) ∧ W.cell? ⟨p1, i, none⟩ = some (.int .i64 (ys[i]'hil).1) ∧ W.cell? ⟨p1, i + 1, none⟩ = some (.int .i64 (ys[i + 1]'hn1).1)) := fun W h => by
                obtain ⟨a1, c1, a2, c2, e1, e2, hcs⟩ := h.cells
                obtain ⟨p1, p2, rfl, rfl, z1, z2⟩ := hcs i hil
                obtain ⟨p3, p4, q3, q4, z3, z4⟩ := hcs (i + 1) hn1
                injection q3 with q3; injection q3 with q3; subst q3
                exact ⟨_, _, _, _, e1, e2, z1, z3⟩
              clear hE hcs y2 y3
              generalize (ys[i]'hil).1 = X at *
              generalize (ys[i + 1]'hn1).1 = Y at *
              generalize (ys[i + 1]'hn1).2 = Z at *
              have hwX : IntKind.i64.wrap (X + 1) = X + 1 := wrap_low (by omega) (by omega)
              gi_wp2_with fail
              refine ⟨trivial, (callsIn_wide.2 (unhide EA)).mono ?_⟩
              rintro e W3 ⟨rfl, hE3⟩
              obtain ⟨p1, d1, p2, d2, z1, z2, z3, z4⟩ := unhide CE W3 hE3
              have H3 := hide hE3
              clear hE3 EA e1 e2 y1 y4
              have hd1 : decide ((i : Int) + 1 < (ys.length : Int)) = true := decide_eq_true hn1'
              by_cases hgap : X + 1 < Y
              · have hd2 : decide (X + 1 < Y) = true := decide_eq_true hgap
                gi_wp2_with fail
                gi_quiet (fail)
                have EB3 := hide (unhide EB hgap (W3.drewN nq) ((unhide H3).later (below_drewN3 (Below.refl _ _) _)))
                clear EB
                gi_wp2_with fail
                refine ⟨trivial, (callsIn_wide.2 (unhide EB3)).mono ?_⟩
                rintro e W4 ⟨rfl, hE4⟩
                obtain ⟨p1, d1, p2, d2, z1, z2, z3, z4⟩ := unhide CE W4 hE4
                have hE9 := hE4
                clear EB3 H3 CE hE4
                have E9 := hide hE9
                clear hE9
                gi_wp2
                go_roundw
                case rel => exact ⟨i + 1, by omega, by go_num, unhide E9⟩
                case measure => simp [intOf]; omega
              · have hd2 : decide (X + 1 < Y) = false := decide_eq_false hgap
                clear EB CE
                gi_wp2_with fail
                gi_quiet (fail)
                have hE9 := (unhide H3).later (below_drewN3 (Below.refl W3.heap.size W3) nq)
                clear H3
                have E9 := hide hE9
                clear hE9
                gi_wp2
                go_roundw
                case rel => exact ⟨i + 1, by omega, by go_num, unhide E9⟩
                case measure => simp [intOf]; omega
            · have hn1' : ¬ (i : Int) + 1 < (ys.length : Int) := by omega
              have EA := hide (hE.endd (ys[i]'hil).1 t)
              rw [end_at (unhide HX) hil (Int.le_refl _) (fun h => absurd h hn1) t, dif_neg hn1] at EA
              have CE : Hid (∀ W, En w W w.heap.size lb sb D ys → ∃ p1 d1 p2 d2, W.cell? ⟨lb, 0, none⟩ = some (.slice (some ⟨p1, 0, none⟩) ys.length d1) ∧ W.cell? ⟨sb, 0, none⟩ = some (.slice (some ⟨p2, 0, none⟩) ys.length d2) ∧ W.cell? ⟨p1, i, none⟩ = some (.int .i64 (ys[i]'hil).1)) := fun W h => by
                obtain ⟨a1, c1, a2, c2, e1, e2, hcs⟩ := h.cells
                obtain ⟨p1, p2, rfl, rfl, z1, z2⟩ := hcs i hil
                exact ⟨_, _, _, _, e1, e2, z1⟩
              clear hE hcs y2
              generalize (ys[i]'hil).1 = X at *
              gi_wp2_with fail
              refine ⟨trivial, (callsIn_wide.2 (unhide EA)).mono ?_⟩
              rintro e W3 ⟨rfl, hE3⟩
              obtain ⟨p1, d1, p2, d2, z1, z2, z3⟩ := unhide CE W3 hE3
              have H3 := hide hE3
              clear hE3 EA e1 e2 y1 CE
              have hd1 : decide ((i : Int) + 1 < (ys.length : Int)) = false := decide_eq_false (by omega)
              gi_wp2_with fail
              gi_quiet (fail)
              have hE9 := (unhide H3).later (below_drewN3 (Below.refl W3.heap.size W3) nq)
              clear H3
              have E9 := hide hE9
              clear hE9
              gi_wp2
              go_roundw
              case rel => exact ⟨i + 1, by omega, by go_num, unhide E9⟩
              case measure => simp [intOf]; omega
          · have hil' : ¬ (i : Int) < (ys.length : Int) := by omega
            by_cases h0 : 0 < ys.length
            · have h0' : (0 : Int) < (ys.length : Int) := by omega
              obtain ⟨g1', g2', rfl, rfl, y1, y2⟩ := hcs 0 h0
              have hF := unhide HF _ (List.getElem_mem h0)
              have EA := hide (hE.endd ((ys[0]'h0).1 - 1) t)
              rw [end_low (unhide HX) h0 t] at EA
              clear hE hcs y2
              generalize (ys[0]'h0).1 = X at *
              have hwX : IntKind.i64.wrap (X - 1) = X - 1 := by
                simp [IntKind.wrap, IntKind.bits, IntKind.signed]; omega
              gi_wp2_with fail
              refine ⟨trivial, (callsIn_wide.2 (unhide EA)).mono ?_⟩
              rintro e W3 ⟨rfl, hE3⟩
              have H3 := hide hE3
              clear hE3 EA e1 e2 y1
              gi_wp2
              refine ⟨by simp, .inl ⟨_, _, rfl, run_takeDeferred (unhide H3).hd, ?_⟩⟩
              exact ⟨_, results_tmp rfl _ _ _, rfl, (unhide H3).bl.trans (belowK_b (w := w) (Nat.le_refl _) _ D _ _ hDw (unhide H3).hd rfl rfl)⟩
            · have h0' : ¬ (0 : Int) < (ys.length : Int) := by omega
              have hy : ys = [] := List.eq_nil_of_length_eq_zero (by omega)
              have EA := hide (hE.endd t t)
              rw [show endE ys t t = (0, 0, false) by rw [hy]; rfl] at EA
              clear hE hcs hy
              gi_wp2_with fail
              refine ⟨trivial, (callsIn_wide.2 (unhide EA)).mono ?_⟩
              rintro e W3 ⟨rfl, hE3⟩
              have H3 := hide hE3
              clear hE3 EA e1 e2
              gi_wp2
              refine ⟨by simp, .inl ⟨_, _, rfl, run_takeDeferred (unhide H3).hd, ?_⟩⟩
              exact ⟨_, results_tmp rfl _ _ _, rfl, (unhide H3).bl.trans (belowK_b (w := w) (Nat.le_refl _) _ D _ _ hDw (unhide H3).hd rfl rfl)⟩
      case stop =>
        rintro D c pre W _ _ h _
        exact h.elim
end Go.Proofs.Ytfpcocagifmpbaa
