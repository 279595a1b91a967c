/-
  EpochsLeft, walked. Conditions: the script is one; it has at most 2^47 bytes.
-/
import Derived.Test.YtfpcocagifmpbaaRh
namespace Go.Proofs.Ytfpcocagifmpbaa
open Go.RowKit Go.Shelf
set_option linter.unusedVariables false
attribute [local go_sem] Oper.semAt_some

/-- Beginnings of a list that a script makes. -/
def Pos (l : List Pr) : Prop := ∀ q ∈ l, 0 ≤ q.2
theorem Pos.asg {l : List Pr} (h : Pos l) (hr : Ris l) (ep a : Int) : Pos (asgE ep a l).2 := by
  intro q hq
  rcases asg_cases ep a l hr with e | ⟨e, _, h0, _⟩
  · rw [e] at hq; exact h q hq
  · rw [e] at hq
    rcases List.mem_append.1 hq with h' | h'
    · exact h q (List.mem_filter.1 h').1
    · rw [List.mem_singleton] at h'; subst h'; exact h0
theorem fst_snoc {pre l : List Pr} {x : Pr} (hp : pre.map Prod.fst <+: l.map Prod.fst) (hk : pre.length < l.length) (hx : x.1 = (l[pre.length]'hk).1) : (pre ++ [x]).map Prod.fst <+: l.map Prod.fst := by
  obtain ⟨s, hs⟩ := hp
  have hl : (pre.map Prod.fst).length < (l.map Prod.fst).length := by simpa using hk
  cases s with
  | nil => rw [List.append_nil] at hs; rw [hs] at hl; omega
  | cons z s =>
    have hz : (l.map Prod.fst)[pre.length]'(by simpa using hk) = z := by simp [← hs]
    rw [List.getElem_map] at hz
    exact ⟨s, by rw [← hs, List.map_append, List.map_cons, List.map_nil, hx, hz]; simp⟩
theorem fst_not {pre l : List Pr} {x : Pr} (hk : pre.length < l.length) (hx : ¬ x.1 = (l[pre.length]'hk).1) : ¬ (pre ++ [x]).map Prod.fst <+: l.map Prod.fst := fun hpp => by
  obtain ⟨s, hs⟩ := hpp
  have hz : (l.map Prod.fst)[pre.length]'(by simpa using hk) = x.1 := by simp [← hs]
  rw [List.getElem_map] at hz
  exact hx hz.symm
theorem pos_not {pre l : List Pr} {x : Pr} (hl : Pos l) (hx : x.2 < 0) : ¬ (pre ++ [x]) <+: l := fun hpp => by
  obtain ⟨hk, e⟩ := pre_snoc hpp
  have := hl _ (List.getElem_mem hk)
  rw [e] at this
  omega
theorem Touch.others {S : Nat → Prop} {W W2 W' : World} (hb : Below W.heap.size W W2) (t : Touch S W2 W') (hs : ∀ k, S k → W.heap.size ≤ k) : KeepsOthers W W' := ⟨Nat.le_trans hb.size t.size, fun k o hk _ => by
  have hlt := lt_of_heap hk
  rw [t.block k (Nat.lt_of_lt_of_le hlt hb.size) (fun e => by have := hs k e; omega), hb.block k hlt]; exact hk⟩
/-- A row's cells. -/
theorem Bo.cells {B : Nat} {W : World} {lb : Nat} {u : Value} {l : List Pr} (h : Bo B W lb u (fsC l)) : ∃ a c, u = .slice a l.length c ∧ ∀ i (hi : i < l.length), ∃ g, a = some ⟨g, 0, none⟩ ∧ W.cell? ⟨g, i, none⟩ = some (.int .i64 l[i].1) := by
  obtain ⟨a1, c1, e1, m1, m2, _, _, p1⟩ := h.row.parts
  rw [List.length_map] at e1
  refine ⟨a1, c1, e1, fun i hi => ?_⟩
  obtain ⟨g1, q1, _, q3, _⟩ := p1 i (by rw [List.length_map]; exact hi)
  exact ⟨g1, q1, by rw [q3]; simp [hi]⟩
set_option maxRecDepth 100000 in
set_option maxHeartbeats 4000000 in
theorem epochsLeft_walk (a : Option Addr) (cap : Nat) (os : List Op10) (s : Nat) (hs8 : s < 256) (w : World) (hos : OpsAt w a os) (hn : os.length ≤ 5864062014634) :
    Calls Try.prog 7 #[.slice a os.length cap, .int .u8 (s : Int)] w fun e w' => e = .returned (.bool true) ∧ Below w.heap.size w w' := by
  have HOS := hide hos
  clear hos
  refine (callsIn_wide (n := 9)).1 ?_
  refine callsIn_of_wp_marks Try.func7 rfl trivial ?_ rfl
  simp only [Try.ntmps7, List.size_toArray, List.length_cons, List.length_nil, Nat.reduceAdd, Nat.reduceSub, Array.replicate_succ, Array.replicate_zero, List.push_toArray, List.append_toArray, List.nil_append, List.cons_append]
  gi_wp2_with fail
  refine ⟨trivial, (callsIn_wide.2 (new10_any _)).mono ?_⟩
  rintro e w0 ⟨rfl, rfl⟩
  have U0 : Hid (Uno w ((((w.alloc (Obj.cells #[Value.int IntKind.u8 (s : Int)] 5)).alloc (Obj.cells #[Value.bool false] 4)).alloc (Obj.cells #[Value.slice none 0 0] 50)).alloc (Obj.cells #[Value.pointer (some { block := w.heap.size + 1 + 1, off := 0 })] 23)) (w.heap.size + 1 + 1) [] [(w.heap.size + 1 + 1 + 1, #[Value.pointer (some { block := w.heap.size + 1 + 1, off := 0 })], 23), (w.heap.size + 1, #[Value.bool false], 4), (w.heap.size, #[Value.int IntKind.u8 (s : Int)], 5)]) := by
    have h1 : Held10 ((w.alloc (Obj.cells #[Value.int IntKind.u8 (s : Int)] 5)).alloc (Obj.cells #[Value.bool false] 4)) [(w.heap.size + 1, #[Value.bool false], 4), (w.heap.size, #[Value.int IntKind.u8 (s : Int)], 5)] := fun x hx => by
      have g1 := heap_new (w.alloc (Obj.cells #[Value.int IntKind.u8 (s : Int)] 5)) (Obj.cells #[Value.bool false] 4)
      rw [World.size_alloc] at g1
      simp only [List.mem_cons, List.not_mem_nil, or_false] at hx
      rcases hx with rfl | rfl
      · exact ⟨g1, by dsimp only; decide, by dsimp only; decide, by dsimp only; decide⟩
      · exact ⟨heap_old _ (heap_new _ _), by dsimp only; decide, by dsimp only; decide, by dsimp only; decide⟩
    have u1 := Uno.start w _ _ h1 (((Below.refl _ _).alloc (Nat.le_refl _) _).alloc (by simp) _)
    have d2 := u1.add #[Value.pointer (some { block := w.heap.size + 1 + 1, off := 0 })] 23 (by decide) (by decide) (by decide)
    simp only [World.size_alloc] at d2
    exact d2
  gi_wp2_with fail
  generalize (((w.alloc (Obj.cells #[Value.int IntKind.u8 (s : Int)] 5)).alloc (Obj.cells #[Value.bool false] 4)).alloc (Obj.cells #[Value.slice none 0 0] 50)).alloc (Obj.cells #[Value.pointer (some { block := w.heap.size + 1 + 1, off := 0 })] 23) = W0 at *
  obtain ⟨pb, hpb⟩ : ∃ pb, pb = w.heap.size + 1 + 1 + 1 := ⟨_, rfl⟩
  obtain ⟨cb, hcb⟩ : ∃ cb, cb = w.heap.size + 1 + 1 := ⟨_, rfl⟩
  obtain ⟨qb, hqb⟩ : ∃ qb, qb = w.heap.size + 1 := ⟨_, rfl⟩
  rw [← hpb, ← hcb, ← hqb] at U0 ⊢
  obtain ⟨E0, hE0⟩ : ∃ E0 : Bs, E0 = [(pb, #[Value.pointer (some { block := cb, off := 0 })], 23), (qb, #[Value.bool false], 4), (w.heap.size, #[Value.int IntKind.u8 (s : Int)], 5)] := ⟨_, rfl⟩
  rw [← hE0] at U0
  have MP : Hid ((pb, #[Value.pointer (some { block := cb, off := 0 })], 23) ∈ E0) := by rw [hE0]; exact List.mem_cons_self ..
  have MQ : Hid ((qb, #[Value.bool false], 4) ∈ E0) := by rw [hE0]; exact List.mem_cons_of_mem _ (List.mem_cons_self ..)
  have MA : Hid ((w.heap.size, #[Value.int IntKind.u8 (s : Int)], 5) ∈ E0) := by rw [hE0]; exact List.mem_cons_of_mem _ (List.mem_cons_of_mem _ (List.mem_cons_self ..))
  have TYE : Hid (∀ x ∈ E0, x.2.2 ≠ 26) := fun x hx => by
    rw [hE0] at hx
    simp only [List.mem_cons, List.not_mem_nil, or_false] at hx
    rcases hx with rfl | rfl | rfl <;> (dsimp only; decide)
  have hq0 : w.heap.size < qb := by omega
  clear hpb hcb hqb hE0
  refine ⟨trivial, (callsIn_wide.2 (awake10_any W0)).mono ?_⟩
  rintro e w1 ⟨rfl, b1⟩
  have U1 := hide ((unhide U0).later b1)
  have xp1 : w1.cell? ⟨pb, 0, none⟩ = some (.pointer (some ⟨cb, 0, none⟩)) := by rw [cell_of ((unhide U1).get (unhide MP))]; rfl
  clear b1 U0
  gi_wp2_with fail
  clear xp1
  gi_loopw [24] (fun pl wr => ∃ (k : Nat) (l : List Pr), k ≤ os.length ∧ pl = .int .i64 (k : Int) ∧ l.length ≤ k ∧ Ris l ∧ Pos l ∧ Uno w wr cb l E0) (fun pl _ => os.length - (intOf pl).toNat)
  case atStart => exact ⟨0, [], Nat.zero_le _, rfl, Nat.le_refl _, List.Pairwise.nil, (fun q hq => by cases hq), unhide U1⟩
  case round =>
    obtain ⟨k, l, hk, rfl, hlk, hris, hpos, hU⟩ := hrel
    have hl8 : l.length ≤ 8000000000000 := by omega
    by_cases hkl : k < os.length
    · have hkl' : (k : Int) < (os.length : Int) := by omega
      have hz : (0 : Int) ≤ (k : Int) := by omega
      have hw1 : IntKind.i64.wrap ((k : Int) + 1) = (k : Int) + 1 := wrap_low (by omega) (by omega)
      obtain ⟨⟨b, off, rfl, hb, hcell⟩, hIn⟩ := unhide HOS k hkl
      have y0 := (hU.bl.cell (p := ⟨b, off + k * 3 + 0, none⟩) hb).trans (hcell 0 (by omega))
      have y1 := (hU.bl.cell (p := ⟨b, off + k * 3 + 1, none⟩) hb).trans (hcell 1 (by omega))
      have y2 := (hU.bl.cell (p := ⟨b, off + k * 3 + 2, none⟩) hb).trans (hcell 2 (by omega))
      clear hcell U1 HOS
      generalize os[k] = o at *
      obtain ⟨ok, oe, oa⟩ := o
      simp only [Op10.cells, List.getElem?_cons_zero, List.getElem?_cons_succ, Nat.add_zero] at y0 y1 y2
      have DA := hide (hU.add #[.int .i64 ok, .int .i64 oe, .int .i64 oa] 31 (by decide) (by decide) (by decide))
      have NX : Hid (Ris (asgE oe oa l).2 ∧ (asgE oe oa l).2.length ≤ k + 1 ∧ Pos (asgE oe oa l).2) := ⟨hris.asg oe oa, Nat.le_trans (len_asg hris oe oa) (by omega), hpos.asg hris oe oa⟩
      have ob := (unhide DA).get (List.mem_cons_self ..)
      have x1 : (wr.alloc (.cells #[.int .i64 ok, .int .i64 oe, .int .i64 oa] 31)).cell? ⟨wr.heap.size, 1, none⟩ = some (.int .i64 oe) := by rw [cell_of ob]; rfl
      have x2 : (wr.alloc (.cells #[.int .i64 ok, .int .i64 oe, .int .i64 oa] 31)).cell? ⟨wr.heap.size, 2, none⟩ = some (.int .i64 oa) := by rw [cell_of ob]; rfl
      have xp : (wr.alloc (.cells #[.int .i64 ok, .int .i64 oe, .int .i64 oa] 31)).cell? ⟨pb, 0, none⟩ = some (.pointer (some ⟨cb, 0, none⟩)) := by rw [cell_of ((unhide DA).get (List.mem_cons_of_mem _ (unhide MP)))]; rfl
      have AC := hide ((unhide DA).asg hris hl8 oe oa)
      clear ob hU hris hpos hIn DA
      generalize asgE oe oa l = R at *
      obtain ⟨r1, r2⟩ := R
      simp only at NX AC
      gi_wp2_with fail
      generalize wr.alloc (.cells #[.int .i64 ok, .int .i64 oe, .int .i64 oa] 31) = W1 at *
      refine ⟨trivial, (callsIn_wide.2 (unhide AC)).mono ?_⟩
      rintro e w2 ⟨rfl, d2⟩
      have FT := hide d2.drop
      clear AC x1 x2 xp y0 y1 y2 d2
      gi_wp2
      go_roundw
      case rel => exact ⟨k + 1, r2, by omega, by go_num, (unhide NX).2.1, (unhide NX).1, (unhide NX).2.2, unhide FT⟩
      case measure => simp [intOf]; omega
    · have hkl' : ¬ (k : Int) < (os.length : Int) := by omega
      have HF := hide hpos
      have U2 := hide (hU.add #[.slice none 0 0] 26 (by decide) (by decide) (by decide))
      have hwr := hU.bl.size
      clear hris hpos hU HOS U1
      have AL := hide ((unhide U2).all hl8)
      have hs2 : Hid ((wr.alloc (.cells #[.slice none 0 0] 26)).heap.size = wr.heap.size + 1) := by show _ = _; simp
      have xp : (wr.alloc (.cells #[.slice none 0 0] 26)).cell? ⟨pb, 0, none⟩ = some (.pointer (some ⟨cb, 0, none⟩)) := by rw [cell_of ((unhide U2).get (List.mem_cons_of_mem _ (unhide MP)))]; rfl
      gi_wp2_with fail
      generalize wr.alloc (.cells #[.slice none 0 0] 26) = W2 at *
      refine ⟨trivial, (callsIn_wide.2 (unhide AL)).mono ?_⟩
      rintro e w8 ⟨⟨v8, rfl, x8, r8, b8⟩, d8⟩
      clear AL xp
      obtain ⟨lo, hlo⟩ : ∃ lo, lo = W2.heap.size := ⟨_, rfl⟩
      rw [← hlo] at x8 r8 ⊢
      rw [unhide hs2] at hlo
      obtain ⟨lb, hlb⟩ : ∃ lb, lb = wr.heap.size := ⟨_, rfl⟩
      rw [← hlb] at d8
      have L8 := hide (d8.get (List.mem_cons_self ..))
      have D8 := hide d8
      have h89 := lt_of_heap x8
      have g2 : lb < lo := by omega
      have g3 : w.heap.size ≤ lb := by omega
      have HLB := hide hlb
      clear d8 b8 U2 hs2 hlo hlb
      gi_wp2_with fail
      rw [← unhide HLB]
      clear HLB
      refine wpIn_rangeFunc_ownG rfl (by omega) (gf := 22) (lb := #[.pointer (some ⟨lo, 0, none⟩)]) rfl trivial (enters_of Try.func22 (by kernel_rfl) rfl)
        (alls Fence.wide _ trivial rfl (by omega) lo v8 l w8 x8 r8 hl8) Keep.trans (Keep.put (Nat.le_refl _)) (Below.refl _ _) (fun _ => rfl)
        (fun pre W => (∃ u1, Bo w8.heap.size W lb u1 (fsC pre)) ∧ Touch (· = lb) w8 W)
        (fun _ _ _ => False)
        (OwnFrom.and (Own.from (fun s A B row hs hg hr => by obtain ⟨u1, h1⟩ := hs; exact ⟨u1, h1.grown hg hr⟩) _) (Touch.own (Nat.le_refl _)))
        (fun c s A B row hs hg hr => hs)
        ⟨⟨.slice none 0 0, unhide L8, Own.nil _ _, fun k hk => by simp [Value.ownBlock] at hk⟩, Touch.refl _ _⟩
        ?a1 ?assign ?body ?done ?stop
      case assign =>
        intro l x W K hK
        gi_wp2
        exact hK
      case body =>
        rintro L pre x W ⟨⟨u1, h1⟩, tW⟩ hlt
        obtain ⟨x1, x2⟩ := x
        have hsW := tW.size
        have c1 := h1.cell
        obtain ⟨p1, q1, e1⟩ := h1.shape
        rw [List.length_map] at e1
        subst e1
        have O1 := hide (h1.row.later ((Below.refl W.heap.size W).alloc (Nat.le_refl _) (.cells #[.int .i64 x1] 3)))
        have H1 := hide h1
        have TW := hide tW
        have hlW : lb < W.heap.size := lt_of_heap h1.box
        clear h1 tW
        gi_wp2_with (gi_at_builtin; refine wpListIn_i1 _ rfl (.tmp 39) (.tmp 41) rfl (.slice p1 pre.length q1) (fsC pre) rfl (unhide O1) W.heap.size x1 rfl (by rw [cell_of (heap_new _ _)]; rfl) (by rw [List.length_map]; omega) ?_)
        intro u3 w3 o3 t3 m3
        obtain ⟨K1, K2, K3, K4⟩ := (unhide H1).more (by omega) hsW o3 t3 m3
        obtain ⟨p3, q3, e3⟩ := own_shape o3
        rw [List.length_append, List.length_map, List.length_singleton] at e3
        subst e3
        have z3 := frozen_of K4 0
        have y3 : w3.cell? ⟨lb, 0, none⟩ = some (.slice p1 pre.length q1) := by rw [cell_of K4]; rfl
        have FIN : Hid (KeepsFrom w8.heap.size W (w3.setCell ⟨lb, 0, none⟩ (.slice p3 (pre.length + 1) q3)) ∧ Keep lo w8.heap.size W (w3.setCell ⟨lb, 0, none⟩ (.slice p3 (pre.length + 1) q3)) ∧ (∃ u1, Bo w8.heap.size (w3.setCell ⟨lb, 0, none⟩ (.slice p3 (pre.length + 1) q3)) lb u1 (fsC (pre ++ [(x1, x2)]))) ∧ Touch (· = lb) w8 (w3.setCell ⟨lb, 0, none⟩ (.slice p3 (pre.length + 1) q3))) := by
          refine ⟨((unhide H1).others K2).from _, Keep.touch K2 hsW (fun k hk => ?_), ⟨.slice p3 (pre.length + 1) q3, ?_⟩, touch_new (unhide TW) K2 (fun k hk => ?_)⟩
          · rcases hk with e | e
            · omega
            · have := (unhide H1).new k e; omega
          · show Bo _ _ _ _ (List.map _ _)
            rw [List.map_append]
            exact K1
          · rcases hk with e | e
            · exact .inl e
            · exact .inr ((unhide H1).new k e)
        clear K1 K2 K3 K4 o3 t3 m3 O1 H1 TW c1
        gi_wp2
        exact unhide FIN
      case done =>
        rintro D1 ys W9 hD1 rfl ⟨⟨u1, h1⟩, tW⟩ hK1
        have hsW := tW.size
        have hB8 := (unhide D8).bl.size
        have U9 : Hid (Uno w W9 cb ys E0) := by
          obtain ⟨v, hv⟩ := (unhide D8).ca
          refine ⟨⟨v, hv.keep tW (fun e => ?_) (fun k hk e => ?_)⟩, (unhide D8).drop.ex.keep tW (fun x hx e => ?_), below_touch (unhide D8).bl tW (unhide D8).bl.size (fun k hk => by omega)⟩
          · have := hv.box; rw [e] at this; exact absurd (obj_ne this (unhide L8)) (by decide)
          · subst e; obtain ⟨cs, hcs⟩ := hv.row.heap hk; exact absurd (obj_ne hcs (unhide L8)) (by decide)
          · have h1 := (unhide D8).drop.ex x hx
            rw [e] at h1
            have hty := obj_ne h1.1 (unhide L8)
            exact unhide TYE x hx hty
        have hDw : w.heap.size ≤ D1 := by omega
        have BO9 : Hid (Bo w.heap.size W9 lb u1 (fsC ys)) := ⟨h1.box, h1.row, fun k hk => by have := h1.new k hk; omega⟩
        have HK1 := hide hK1
        have hlb9 : lb < W9.heap.size := lt_of_heap h1.box
        clear h1 tW hK1 D8 L8 r8 x8
        have U10 := hide ((unhide U9).add #[.int .i64 0] 3 (by decide) (by decide) (by decide))
        have AL2 := hide ((unhide U10).all hl8)
        have xp : (W9.alloc (.cells #[.int .i64 0] 3)).cell? ⟨pb, 0, none⟩ = some (.pointer (some ⟨cb, 0, none⟩)) := by rw [cell_of ((unhide U10).get (List.mem_cons_of_mem _ (unhide MP)))]; rfl
        have B9 : Hid (Below W9.heap.size W9 (W9.alloc (.cells #[.int .i64 0] 3))) := (Below.refl _ _).alloc (Nat.le_refl _) _
        have hs9 : Hid ((W9.alloc (.cells #[.int .i64 0] 3)).heap.size = W9.heap.size + 1) := by show _ = _; simp
        have lP := lt_of_heap ((unhide U9).get (unhide MP))
        have lQ := lt_of_heap ((unhide U9).get (unhide MQ))
        have lA := lt_of_heap ((unhide U9).get (unhide MA))
        have lU : Hid (∀ k, u1.ownBlock = some k → k < W9.heap.size) := (unhide BO9).row.lt
        have lD : D1 < W9.heap.size := lt_of_heap (unhide HK1)
        have LC : Hid (∀ W (v : Value), CaAt w.heap.size W cb v ys → W.heap[W9.heap.size]? = some (.cells #[.int .i64 0] 3) → cb ≠ W9.heap.size ∧ ∀ k, v.ownBlock = some k → k ≠ W9.heap.size) := fun W v hv hN => ⟨fun e => by have := hv.box; rw [e] at this; exact absurd (obj_ne this hN) (by decide), fun k hk e => by subst e; obtain ⟨cs, hcs⟩ := hv.row.heap hk; exact absurd (obj_ne hcs hN) (by decide)⟩
        gi_wp2_with fail
        generalize W9.alloc (.cells #[.int .i64 0] 3) = W10 at *
        refine ⟨trivial, (callsIn_wide.2 (unhide AL2)).mono ?_⟩
        rintro e w10 ⟨⟨v10, rfl, x10, r10, b10⟩, d10⟩
        clear AL2 xp
        have B910 : Below W9.heap.size W9 w10 := (unhide B9).trans (b10.mono (unhide B9).size)
        have BO10 := hide ((unhide BO9).later B910)
        have HK10 := hide (below_keep B910 (unhide HK1))
        have N10 := hide (d10.get (List.mem_cons_self ..))
        have P10 := hide (d10.get (List.mem_cons_of_mem _ (unhide MP)))
        have Q10 := hide (d10.get (List.mem_cons_of_mem _ (unhide MQ)))
        have A10 := hide (d10.get (List.mem_cons_of_mem _ (unhide MA)))
        have BL10 := hide d10.bl
        have CA10 : Hid (∃ v, CaAt w.heap.size w10 cb v ys ∧ cb ≠ W9.heap.size ∧ ∀ k, v.ownBlock = some k → k ≠ W9.heap.size) := by
          obtain ⟨v, hv⟩ := d10.ca
          exact ⟨v, hv, unhide LC w10 v hv (unhide N10)⟩
        have h910 := lt_of_heap x10
        obtain ⟨lo2, hlo2⟩ : ∃ lo2, lo2 = W10.heap.size := ⟨_, rfl⟩
        rw [← hlo2] at x10 r10 h910 ⊢
        rw [unhide hs9] at hlo2
        have hlo9 : W9.heap.size < lo2 := by omega
        have h910' : W9.heap.size < w10.heap.size := by omega
        clear b10 d10 B910 B9 hs9 U10 U9 BO9 HK1 hlo2 LC
        gi_wp2_with fail
        obtain ⟨nb, hnb⟩ : ∃ nb, nb = W9.heap.size := ⟨_, rfl⟩
        rw [← hnb] at lP lQ lA lU lD N10 CA10 hlo9 h910' hlb9 ⊢
        clear hnb
        refine range_outer rfl (by omega) (gf := 22) (lb := #[.pointer (some ⟨lo2, 0, none⟩)]) rfl trivial (enters_of Try.func22 (by kernel_rfl) rfl)
          (alls Fence.wide _ trivial rfl (by omega) lo2 v10 ys w10 x10 r10 hl8) (Keep.refl _ _) Keep.trans (Keep.put (Nat.le_refl _)) (Below.refl _ _) (fun _ => rfl)
          (fun pre W => (W.cell? ⟨nb, 0, none⟩ = some (.int .i64 (pre.length : Int)) ∧ W.frozen? ⟨nb, 0, none⟩ = false ∧ pre.map Prod.fst <+: ys.map Prod.fst ∧ pre.length ≤ s) ∧ Touch (· = nb) w10 W)
          (fun c pre W => ((c = .ret ∧ ¬ pre.map Prod.fst <+: ys.map Prod.fst) ∨ (c = .exit 4 ∧ W.cell? ⟨nb, 0, none⟩ = some (.int .i64 (s : Int)) ∧ W.frozen? ⟨nb, 0, none⟩ = false ∧ s < ys.length ∧ Touch (· = nb) w10 W)))
          (OwnFrom.and (Own.from (fun s A B row hs hg hr => ⟨cell_kept hs.1 hg hr, (frozen_kept hs.1 hg hr).trans hs.2.1, hs.2.2⟩) _) (Touch.own (Nat.le_refl _)))
          (fun c s A B row hs hg hr => by
            rcases hs with h | ⟨h1, h2, h3, h4, h5⟩
            · exact .inl h
            · exact .inr ⟨h1, cell_kept h2 hg (fun r e => (hr r e).2), (frozen_kept h2 hg (fun r e => (hr r e).2)).trans h3, h4, Touch.own (α := Unit) (Nat.le_refl _) [] A B row h5 hg hr⟩)
          ⟨⟨by rw [cell_of (unhide N10)]; rfl, frozen_of (unhide N10) 0, List.nil_prefix, Nat.zero_le _⟩, Touch.refl _ _⟩
          ?oa ?assign2 ?body2 ?done2 ?stop2
        case assign2 =>
          intro l x W K hK
          gi_wp2
          exact hK
        case body2 =>
          rintro L pre x W hL ⟨r, hr⟩ ⟨⟨hc, hf, hp, hps⟩, tW⟩ hlt
          have hsW := tW.size
          have t1 : W.cell? ⟨w.heap.size, 0, none⟩ = some (.int .u8 (s : Int)) := by rw [cell_of (tW.keep (unhide A10) (by omega))]; rfl
          by_cases hge : s ≤ pre.length
          · have hge' : (s : Int) ≤ (pre.length : Int) := by omega
            have FIN : Hid (W.cell? ⟨nb, 0, none⟩ = some (.int .i64 (s : Int)) ∧ W.frozen? ⟨nb, 0, none⟩ = false ∧ s < ys.length ∧ Touch (· = nb) w10 W) := ⟨by rw [hc]; congr 2; omega, hf, by omega, tW⟩
            have hcv : IntKind.i64.wrap (s : Int) = (s : Int) := wrap_low (by omega) (by omega)
            clear tW hp
            gi_wp2
            exact ⟨KeepsFrom.refl _ _, .inr ⟨rfl, unhide FIN⟩⟩
          · have hge' : ¬ (s : Int) ≤ (pre.length : Int) := by omega
            have hcv : IntKind.i64.wrap (s : Int) = (s : Int) := wrap_low (by omega) (by omega)
            obtain ⟨v, hv, hvn, hvr⟩ := unhide CA10
            have CW := hv.keep tW (fun e => hvn e) (fun k hk e => hvr k hk e)
            have BW := (unhide BO10).keep tW (by omega) (fun k hk e => by have := unhide lU k hk; omega)
            have hA : Below W.heap.size W (W.alloc (.cells #[.int .i64 0] 3)) := (Below.refl _ _).alloc (Nat.le_refl _) _
            have AL3 := hide (all_any (CW.later hA) hl8)
            have PW := tW.keep (unhide P10) (by omega)
            have QW := tW.keep (unhide Q10) (by omega)
            have xp : (W.alloc (.cells #[.int .i64 0] 3)).cell? ⟨pb, 0, none⟩ = some (.pointer (some ⟨cb, 0, none⟩)) := by rw [cell_of (below_keep hA PW)]; rfl
            have KN : Hid ((W.alloc (.cells #[.int .i64 0] 3)).heap[W.heap.size]? = some (.cells #[.int .i64 0] 3)) := heap_new _ _
            have HA := hide hA
            have HZ : Hid ((W.alloc (.cells #[.int .i64 0] 3)).heap.size = W.heap.size + 1) := by show _ = _; simp
            have HC := hide hc
            have HFZ := hide hf
            have HP := hide hp
            have TW := hide tW
            have BWH := hide BW
            have QWH := hide QW
            have HR := hide hr
            have lbW : lb < W.heap.size := by omega
            have nbW : nb < W.heap.size := by omega
            have lUW : Hid (∀ k, u1.ownBlock = some k → k < W.heap.size) := fun k hk => by have := unhide lU k hk; omega
            have qbW : qb < W.heap.size := by omega
            clear hv CW BW hA PW QW tW hp hvr CA10
            gi_wp2_with fail
            generalize W.alloc (.cells #[.int .i64 0] 3) = V0 at *
            refine ⟨trivial, (CallsIn.inRound L (callsIn_wide.2 (unhide AL3))).mono ?_⟩
            rintro e W3 ⟨v3, rfl, x3, r3, b3⟩
            have B3 := hide ((unhide HA).trans (b3.mono (unhide HA).size))
            have K3 := hide (below_keep b3 (unhide KN))
            have R3 := below_keep (unhide B3) (unhide HR)
            have BO3 := hide ((unhide BWH).later (unhide B3))
            have Q3 := hide (below_keep (unhide B3) (unhide QWH))
            have NC3 := hide (((unhide B3).cell (p := ⟨nb, 0, none⟩) nbW).trans (unhide HC))
            have NF3 : Hid (W3.frozen? ⟨nb, 0, none⟩ = false) := (World.frozen?_of_block (a := ⟨nb, 0, none⟩) ((unhide B3).block nb nbW)).trans (unhide HFZ)
            have h3s := lt_of_heap x3
            clear b3 AL3 KN HA xp BWH QWH HR hc hf
            obtain ⟨lo3, hlo3⟩ : ∃ lo3, lo3 = V0.heap.size := ⟨_, rfl⟩
            rw [← hlo3] at x3 r3 h3s ⊢
            rw [unhide HZ] at hlo3
            obtain ⟨kb, hkb⟩ : ∃ kb, kb = W.heap.size := ⟨_, rfl⟩
            rw [← hkb] at K3 hlo3
            have hkl3 : kb < lo3 := by omega
            have hkbW : W.heap.size ≤ kb := by omega
            have HKB := hide hkb
            clear hlo3 hkb HZ
            gi_wp2_with fail
            rw [← unhide HKB]
            clear HKB
            have hk3 : kb < W3.heap.size := by omega
            refine range_inner (l₀ := L) (r₀ := r) rfl R3 (by omega) (gf := 22) (lb := #[.pointer (some ⟨lo3, 0, none⟩)]) rfl trivial (enters_of Try.func22 (by kernel_rfl) rfl)
              ((alls Fence.wide _ trivial rfl (by omega) lo3 v3 ys W3 x3 r3 hl8).inRound L) (Keep.refl _ _) Keep.trans (Keep.put (Nat.le_refl _)) (Below.refl _ _) (fun _ => rfl)
              (fun pre' W' => (W'.cell? ⟨kb, 0, none⟩ = some (.int .i64 (pre'.length : Int)) ∧ W'.frozen? ⟨kb, 0, none⟩ = false) ∧ Touch (· = kb) W3 W')
              (fun c pre' W' => (c = .ret ∧ ¬ pre' <+: ys))
              (OwnFrom.and (Own.from (fun s A B row hs hg hr => ⟨cell_kept hs.1 hg hr, (frozen_kept hs.1 hg hr).trans hs.2⟩) _) (Touch.own (Nat.le_refl _)))
              (fun c s A B row hs hg hr => hs)
              ⟨⟨by rw [cell_of (unhide K3)]; rfl, frozen_of (unhide K3) 0⟩, Touch.refl _ _⟩
              ?ia ?iassign ?ibody ?idone ?istop
            case iassign =>
              intro l x W K hK
              gi_wp2
              exact hK
            case ibody =>
              rintro L2 pre' y W' ⟨⟨hc', hf'⟩, tW'⟩ hlt'
              have BO4 := (unhide BO3).keep tW' (by omega) (fun k hk e => by have := unhide lUW k hk; omega)
              have Q4 := tW'.keep (unhide Q3) (by omega)
              have q4 : W'.cell? ⟨qb, 0, none⟩ = some (.bool false) := by rw [cell_of Q4]; rfl
              have qf4 := frozen_of Q4 0
              have cl := BO4.cell
              obtain ⟨a1, c1, hu1, hcs⟩ := BO4.cells
              obtain ⟨g1, rfl, y1⟩ := hcs pre'.length hlt'
              rw [hu1] at cl
              have TW' := hide tW'
              have hlt2 : ¬ (ys.length : Int) ≤ (pre'.length : Int) := by omega
              have hlt3 : (0 : Int) ≤ (pre'.length : Int) := by omega
              have hlt4 : (pre'.length : Int) < (ys.length : Int) := by omega
              have NE : Hid (¬ y.1 = (ys[pre'.length]'hlt').1 → ¬ (pre' ++ [y]) <+: ys) := fun h hpp => by
                obtain ⟨hk, e⟩ := pre_snoc hpp
                rw [e] at h
                exact h rfl
              have NP : Hid (y.2 < 0 → ¬ (pre' ++ [y]) <+: ys) := fun h => pos_not (unhide HF) h
              have hs3' := tW'.size
              clear BO4 Q4 hcs tW' hu1
              generalize (ys[pre'.length]'hlt').1 = E at *
              obtain ⟨y1', y2'⟩ := y
              simp only at NE NP
              have hb1 : ∀ a b : Int, ¬ a = b → (a != b) = true := fun a b h => by simpa using h
              by_cases h1 : y1' = E
              · by_cases h2 : y2' < 0
                · have FX := hide (unhide NP h2)
                  clear NE NP
                  subst h1
                  gi_wp2
                  exact ⟨(KeepsOthers.setCell _ _ _).from _, rfl, unhide FX⟩
                · subst h1
                  have hw1 : IntKind.i64.wrap ((pre'.length : Int) + 1) = (pre'.length : Int) + 1 := wrap_low (by omega) (by omega)
                  clear NE NP
                  gi_wp2
                  have ts := touch_set W' kb 0 (.int .i64 ((pre'.length : Int) + 1))
                  refine ⟨(KeepsOthers.setCell _ _ _).from _, Keep.touch ts hs3' (fun k hk => by omega), ⟨?_, ?_⟩, (unhide TW').trans ts⟩
                  · rw [World.cell?_setCell_same' _ _ _ (by rw [hc']; rfl)]
                    simp
                  · rw [World.frozen?_setCell]; exact hf'
              · have FX := hide (unhide NE h1)
                have hb2 := hb1 _ _ h1
                clear NE NP
                gi_wp2
                exact ⟨(KeepsOthers.setCell _ _ _).from _, rfl, unhide FX⟩
            case idone =>
              rintro zs W' rfl ⟨⟨hc', hf'⟩, tW'⟩
              have BO4 := (unhide BO3).keep tW' (by omega) (fun k hk e => by have := unhide lUW k hk; omega)
              have Q4 := tW'.keep (unhide Q3) (by omega)
              have q4 : W'.cell? ⟨qb, 0, none⟩ = some (.bool false) := by rw [cell_of Q4]; rfl
              have qf4 := frozen_of Q4 0
              have cl := BO4.cell
              obtain ⟨a1, c1, hu1, hcs⟩ := BO4.cells
              obtain ⟨g1, rfl, y1⟩ := hcs pre.length hlt
              rw [hu1] at cl
              have n4 : W'.cell? ⟨nb, 0, none⟩ = some (.int .i64 (pre.length : Int)) := (World.cell?_of_block (a := ⟨nb, 0, none⟩) (tW'.block nb (by have := (unhide B3).size; omega) (by omega))).trans (unhide NC3)
              have nf4 : W'.frozen? ⟨nb, 0, none⟩ = false := (World.frozen?_of_block (a := ⟨nb, 0, none⟩) (tW'.block nb (by have := (unhide B3).size; omega) (by omega))).trans (unhide NF3)
              have TE : Hid (Touch (· = nb) W W') := touch_new (Touch.of_below (unhide B3)) tW' (fun k hk => .inr (by omega))
              have hlt3 : (0 : Int) ≤ (pre.length : Int) := by omega
              have hlt4 : (pre.length : Int) < (zs.length : Int) := by omega
              have NE : Hid (¬ x.1 = (zs[pre.length]'hlt).1 → ¬ (pre ++ [x]).map Prod.fst <+: zs.map Prod.fst) := fun h => fst_not hlt h
              have NG : Hid (x.1 = (zs[pre.length]'hlt).1 → (pre ++ [x]).map Prod.fst <+: zs.map Prod.fst) := fun h => fst_snoc (unhide HP) hlt h
              have KO : Hid (KeepsOthers W W') := keeps_cells (unhide TE) (fun k hk => by subst hk; exact cells_of_cell (unhide HC))
              clear BO4 Q4 hcs tW' hu1
              generalize (zs[pre.length]'hlt).1 = E at *
              obtain ⟨x1, x2⟩ := x
              simp only at NE NG
              have hb1 : ∀ a b : Int, ¬ a = b → (a != b) = true := fun a b h => by simpa using h
              by_cases h1 : x1 = E
              · have FX := hide (unhide NG h1)
                subst h1
                have hw1 : IntKind.i64.wrap ((pre.length : Int) + 1) = (pre.length : Int) + 1 := wrap_low (by omega) (by omega)
                clear NE NG
                gi_wp2
                have ts := touch_set W' nb 0 (.int .i64 ((pre.length : Int) + 1))
                refine ⟨((unhide KO).trans (KeepsOthers.setCell _ _ _)).from _, Keep.touch ((unhide TE).trans ts) hsW (fun k hk => by omega), ⟨?_, ?_, unhide FX, by simp; omega⟩, (unhide TW).trans ((unhide TE).trans ts)⟩
                · rw [World.cell?_setCell_same' _ _ _ (by rw [n4]; rfl)]
                  simp
                · rw [World.frozen?_setCell]; exact nf4
              · have FX := hide (unhide NE h1)
                have hb2 := hb1 _ _ h1
                clear NE NG
                gi_wp2
                exact ⟨((unhide KO).trans (KeepsOthers.setCell _ _ _)).from _, .inl ⟨rfl, unhide FX⟩⟩
            case istop =>
              rintro c pre' W' hs' ⟨_, h⟩
              exact absurd hs' h
        case done2 =>
          rintro D2 zs W hD2 rfl ⟨⟨hc, hf, hp, hps⟩, tW⟩ hK2
          have hsW := tW.size
          have BW := (unhide BO10).keep tW (by omega) (fun k hk e => by have := unhide lU k hk; omega)
          have cl := BW.cell
          obtain ⟨a1, c1, hu1, _⟩ := BW.cells
          rw [hu1] at cl
          have QW := tW.keep (unhide Q10) (by omega)
          have q4 : W.cell? ⟨qb, 0, none⟩ = some (.bool false) := by rw [cell_of QW]; rfl
          have qf4 := frozen_of QW 0
          have t1 : W.cell? ⟨w.heap.size, 0, none⟩ = some (.int .u8 (s : Int)) := by rw [cell_of (tW.keep (unhide A10) (by omega))]; rfl
          have HB : Hid (Below w.heap.size w W) := below_touch (unhide BL10) tW (unhide BL10).size (fun k hk => by omega)
          have HK1 := hide (tW.keep (unhide HK10) (by omega))
          have HK2 := hide hK2
          have hcv : IntKind.i64.wrap (s : Int) = (s : Int) := wrap_low (by omega) (by omega)
          have hD12 : D1 ≠ D2 := by omega
          have hD2w : w.heap.size ≤ D2 := by omega
          clear BW QW tW hK2 hu1
          have hps' : (zs.length : Int) ≤ (s : Int) := by omega
          have hps2 : ¬ (s : Int) < (zs.length : Int) := by omega
          gi_wp2
          have hK9 := (KeepsOthers.setCell W ⟨qb, 0, none⟩ (.bool true)).same D2 _ (unhide HK2) rfl
          have hK8 := (KeepsOthers.setCell W ⟨qb, 0, none⟩ (.bool true)).same D1 _ (unhide HK1) rfl
          have hK7 : ((W.setCell ⟨qb, 0, none⟩ (.bool true)).putObj D2 (.deferred none)).heap[D1]? = some (.deferred (some [])) := (World.putObj_heap_other hD12).trans hK8
          refine ⟨by simp, .inl ⟨_, _, rfl, run_takeDeferred hK9, by simp, .inl ⟨_, _, rfl, run_takeDeferred hK7, ?_⟩⟩⟩
          have hc9 : (W.setCell ⟨qb, 0, none⟩ (.bool true)).cell? ⟨qb, 0, none⟩ = some (.bool true) := World.cell?_setCell_same' W ⟨qb, 0, none⟩ (.bool true) (by rw [q4]; rfl)
          have hcA := cell_kept hc9 (grownBy_putObj' _ D2 (.deferred none)) (fun r e => by cases e; exact ⟨_, hK9, rfl⟩)
          have hcB := cell_kept hcA (grownBy_putObj' _ D1 (.deferred none)) (fun r e => by cases e; exact ⟨_, hK7, rfl⟩)
          have hB9 : Below w.heap.size w (W.setCell ⟨qb, 0, none⟩ (.bool true)) := (unhide HB).setCell (p := ⟨qb, 0, none⟩) (by show w.heap.size ≤ qb; omega) _
          refine ⟨.bool true, ?_, rfl, (hB9.trans (belowK_b (w := w) (Nat.le_refl _) _ D2 _ _ hD2w hK9 rfl rfl)).trans (belowK_b (w := w) (Nat.le_refl _) _ D1 _ _ hDw hK7 rfl rfl)⟩
          simp [results, Try.f7, go_sem, hcB]
        case stop2 =>
          rintro D2 c pre W hD2 hs hx hK2
          rcases hx with ⟨_, h⟩ | ⟨rfl, hc, hf, hsl, tW⟩
          · exact absurd (hs.map Prod.fst) h
          · have hsW := tW.size
            have BW := (unhide BO10).keep tW (by omega) (fun k hk e => by have := unhide lU k hk; omega)
            have cl := BW.cell
            obtain ⟨a1, c1, hu1, _⟩ := BW.cells
            rw [hu1] at cl
            have QW := tW.keep (unhide Q10) (by omega)
            have q4 : W.cell? ⟨qb, 0, none⟩ = some (.bool false) := by rw [cell_of QW]; rfl
            have qf4 := frozen_of QW 0
            have t1 : W.cell? ⟨w.heap.size, 0, none⟩ = some (.int .u8 (s : Int)) := by rw [cell_of (tW.keep (unhide A10) (by omega))]; rfl
            have HB : Hid (Below w.heap.size w W) := below_touch (unhide BL10) tW (unhide BL10).size (fun k hk => by omega)
            have HK1 := hide (tW.keep (unhide HK10) (by omega))
            have HK2 := hide hK2
            have hcv : IntKind.i64.wrap (s : Int) = (s : Int) := wrap_low (by omega) (by omega)
            have hD12 : D1 ≠ D2 := by omega
            have hD2w : w.heap.size ≤ D2 := by omega
            clear BW QW tW hK2 hu1
            have hsl' : (s : Int) < (ys.length : Int) := by omega
            gi_wp2
            have hK9 := (KeepsOthers.setCell W ⟨qb, 0, none⟩ (.bool true)).same D2 _ (unhide HK2) rfl
            have hK8 := (KeepsOthers.setCell W ⟨qb, 0, none⟩ (.bool true)).same D1 _ (unhide HK1) rfl
            have hK7 : ((W.setCell ⟨qb, 0, none⟩ (.bool true)).putObj D2 (.deferred none)).heap[D1]? = some (.deferred (some [])) := (World.putObj_heap_other hD12).trans hK8
            refine ⟨by simp, .inl ⟨_, _, rfl, run_takeDeferred hK9, by simp, .inl ⟨_, _, rfl, run_takeDeferred hK7, ?_⟩⟩⟩
            have hc9 : (W.setCell ⟨qb, 0, none⟩ (.bool true)).cell? ⟨qb, 0, none⟩ = some (.bool true) := World.cell?_setCell_same' W ⟨qb, 0, none⟩ (.bool true) (by rw [q4]; rfl)
            have hcA := cell_kept hc9 (grownBy_putObj' _ D2 (.deferred none)) (fun r e => by cases e; exact ⟨_, hK9, rfl⟩)
            have hcB := cell_kept hcA (grownBy_putObj' _ D1 (.deferred none)) (fun r e => by cases e; exact ⟨_, hK7, rfl⟩)
            have hB9 : Below w.heap.size w (W.setCell ⟨qb, 0, none⟩ (.bool true)) := (unhide HB).setCell (p := ⟨qb, 0, none⟩) (by show w.heap.size ≤ qb; omega) _
            refine ⟨.bool true, ?_, rfl, (hB9.trans (belowK_b (w := w) (Nat.le_refl _) _ D2 _ _ hD2w hK9 rfl rfl)).trans (belowK_b (w := w) (Nat.le_refl _) _ D1 _ _ hDw hK7 rfl rfl)⟩
            simp [results, Try.f7, go_sem, hcB]
      case stop =>
        rintro D c pre W _ _ h _
        exact h.elim
end Go.Proofs.Ytfpcocagifmpbaa
