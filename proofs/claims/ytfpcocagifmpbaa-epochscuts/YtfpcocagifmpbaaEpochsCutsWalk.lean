/-
  EpochsCuts, walked. Conditions: the script is one; it has at most 2^47 bytes.
-/
import Derived.Test.YtfpcocagifmpbaaDu10
import Derived.Test.YtfpcocagifmpbaaRs
namespace Go.Proofs.Ytfpcocagifmpbaa
open Go.RowKit Go.Shelf
set_option linter.unusedVariables false
attribute [local go_sem] Oper.semAt_some

/-- What a Cut leaves is the first epochs; the next one begins at the offset or behind it. -/
theorem cut_first {l : List Pr} (h : Ris l) (a : Int) : ∃ k, k ≤ l.length ∧ cutE a l = l.take k ∧ ∀ hk : k < l.length, a ≤ (l[k]'hk).2 := by
  induction l with
  | nil => exact ⟨0, Nat.le_refl _, rfl, fun hk => by simp at hk⟩
  | cons p r ih =>
    have hr : Ris r := (List.pairwise_cons.1 h).2
    have hp := (List.pairwise_cons.1 h).1
    by_cases hlt : p.2 < a
    · obtain ⟨k, h1, h2, h3⟩ := ih hr
      refine ⟨k + 1, by simpa using h1, ?_, fun hk => ?_⟩
      · unfold cutE at *
        rw [List.filter_cons_of_pos (by simpa using hlt), h2, List.take_succ_cons]
      · simpa using h3 (by simpa using hk)
    · refine ⟨0, Nat.zero_le _, ?_, fun _ => by simp; omega⟩
      unfold cutE
      rw [List.take_zero, List.filter_eq_nil_iff]
      intro q hq
      rcases List.mem_cons.1 hq with e | e
      · subst e; simpa using hlt
      · have := (hp q e).2
        simp; omega
theorem cut_all {l : List Pr} {a : Int} (h : ∀ q ∈ l, q.2 < a) : cutE a l = l := List.filter_eq_self.2 (fun q hq => by simpa using h q hq)
set_option maxRecDepth 100000 in
set_option maxHeartbeats 4000000 in
theorem epochsCuts_walk (a : Option Addr) (cap : Nat) (os : List Op10) (t : Int) (w : World) (hos : OpsAt w a os) (hn : os.length ≤ 5864062014634) :
    Calls Try.prog 6 #[.slice a os.length cap, .int .i64 t] w fun e w' => e = .returned (.bool true) ∧ Below w.heap.size w w' := by
  have HOS := hide hos
  clear hos
  refine (callsIn_wide (n := 3)).1 ?_
  refine callsIn_of_wp_marks Try.func6 rfl trivial ?_ rfl
  simp only [Try.ntmps6, List.size_toArray, List.length_cons, List.length_nil, Nat.reduceAdd, Nat.reduceSub, Array.replicate_succ, Array.replicate_zero, List.push_toArray, List.append_toArray, List.nil_append, List.cons_append]
  gi_wp2_with fail
  refine ⟨trivial, (callsIn_wide.2 (new10_any _)).mono ?_⟩
  rintro e w0 ⟨rfl, rfl⟩
  have D0 : Hid (Duo w (((((w.alloc (Obj.cells #[Value.int IntKind.i64 t] 3)).alloc (Obj.cells #[Value.bool false] 4)).alloc (Obj.cells #[Value.slice none 0 0] 50)).alloc (Obj.cells #[Value.slice none 0 0, Value.slice none 0 0] 28)).alloc (Obj.cells #[Value.pointer (some { block := w.heap.size + 1 + 1 + 1, off := 0 })] 25)) (w.heap.size + 1 + 1) (w.heap.size + 1 + 1 + 1) [] [] [(w.heap.size + 1 + 1 + 1 + 1, #[Value.pointer (some { block := w.heap.size + 1 + 1 + 1, off := 0 })], 25), (w.heap.size + 1, #[Value.bool false], 4), (w.heap.size, #[Value.int IntKind.i64 t], 3)]) := by
    have h1 : Held10 ((w.alloc (Obj.cells #[Value.int IntKind.i64 t] 3)).alloc (Obj.cells #[Value.bool false] 4)) [(w.heap.size + 1, #[Value.bool false], 4), (w.heap.size, #[Value.int IntKind.i64 t], 3)] := fun x hx => by
      have g1 := heap_new (w.alloc (Obj.cells #[Value.int IntKind.i64 t] 3)) (Obj.cells #[Value.bool false] 4)
      rw [World.size_alloc] at g1
      simp only [List.mem_cons, List.not_mem_nil, or_false] at hx
      rcases hx with rfl | rfl
      · exact ⟨g1, by dsimp only; decide, by dsimp only; decide, by dsimp only; decide⟩
      · exact ⟨heap_old _ (heap_new _ _), by dsimp only; decide, by dsimp only; decide, by dsimp only; decide⟩
    have u1 := Uno.start w _ _ h1 (((Below.refl _ _).alloc (Nat.le_refl _) _).alloc (by simp) _)
    have d2 := (Duo.start u1).add #[Value.pointer (some { block := w.heap.size + 1 + 1 + 1, off := 0 })] 25 (by decide) (by decide) (by decide)
    simp only [World.size_alloc] at d2
    exact d2
  gi_wp2_with fail
  generalize ((((w.alloc (Obj.cells #[Value.int IntKind.i64 t] 3)).alloc (Obj.cells #[Value.bool false] 4)).alloc (Obj.cells #[Value.slice none 0 0] 50)).alloc (Obj.cells #[Value.slice none 0 0, Value.slice none 0 0] 28)).alloc (Obj.cells #[Value.pointer (some { block := w.heap.size + 1 + 1 + 1, off := 0 })] 25) = W0 at *
  obtain ⟨pb, hpb⟩ : ∃ pb, pb = w.heap.size + 1 + 1 + 1 + 1 := ⟨_, rfl⟩
  obtain ⟨rb, hrb⟩ : ∃ rb, rb = w.heap.size + 1 + 1 + 1 := ⟨_, rfl⟩
  obtain ⟨cb, hcb⟩ : ∃ cb, cb = w.heap.size + 1 + 1 := ⟨_, rfl⟩
  obtain ⟨qb, hqb⟩ : ∃ qb, qb = w.heap.size + 1 := ⟨_, rfl⟩
  obtain ⟨ab, hab⟩ : ∃ ab, ab = w.heap.size := ⟨_, rfl⟩
  rw [← hpb, ← hrb, ← hcb, ← hqb] at D0 ⊢
  obtain ⟨E0, hE0⟩ : ∃ E0 : Bs, E0 = [(pb, #[Value.pointer (some { block := rb, off := 0 })], 25), (qb, #[Value.bool false], 4), (w.heap.size, #[Value.int IntKind.i64 t], 3)] := ⟨_, rfl⟩
  rw [← hE0] at D0
  have MP : Hid ((pb, #[Value.pointer (some { block := rb, off := 0 })], 25) ∈ E0) := by rw [hE0]; exact List.mem_cons_self ..
  have MQ : Hid ((qb, #[Value.bool false], 4) ∈ E0) := by rw [hE0]; exact List.mem_cons_of_mem _ (List.mem_cons_self ..)
  have MA : Hid ((w.heap.size, #[Value.int IntKind.i64 t], 3) ∈ E0) := by rw [hE0]; exact List.mem_cons_of_mem _ (List.mem_cons_of_mem _ (List.mem_cons_self ..))
  have hq0 : w.heap.size < qb := by omega
  clear hpb hrb hcb hqb hab hE0
  refine ⟨trivial, (callsIn_wide.2 (awake10_any W0)).mono ?_⟩
  rintro e w1 ⟨rfl, b1⟩
  have D1 := hide ((unhide D0).later b1)
  clear b1 D0
  gi_wp2_with fail
  gi_loopw [7, 24] (fun la pl wr => ∃ (k : Nat) (l : List Pr) (mx : Int), k ≤ os.length ∧ la = .int .i64 mx ∧ pl = .int .i64 (k : Int) ∧ l.length ≤ k ∧ Ris l ∧ (∀ q ∈ l, q.2 ≤ mx) ∧ -1 ≤ mx ∧ mx ≤ 9223372036854775807 ∧ Duo w wr cb rb l l E0) (fun _ pl _ => os.length - (intOf pl).toNat)
  case atStart => exact ⟨0, [], -1, Nat.zero_le _, rfl, rfl, Nat.le_refl _, List.Pairwise.nil, (fun q hq => by cases hq), by omega, by omega, unhide D1⟩
  case round =>
    obtain ⟨k, l, mx, hk, rfl, rfl, hlk, hris, hmx, hm1, hm2, hD⟩ := hrel
    have hl8 : l.length ≤ 8000000000000 := by omega
    by_cases hkl : k < os.length
    · have hkl' : (k : Int) < (os.length : Int) := by omega
      have hz : (0 : Int) ≤ (k : Int) := by omega
      have hw1 : IntKind.i64.wrap ((k : Int) + 1) = (k : Int) + 1 := wrap_low (by omega) (by omega)
      obtain ⟨⟨b, off, rfl, hb, hcell⟩, hIn⟩ := unhide HOS k hkl
      have y0 := (hD.u.bl.cell (p := ⟨b, off + k * 3 + 0, none⟩) hb).trans (hcell 0 (by omega))
      have y1 := (hD.u.bl.cell (p := ⟨b, off + k * 3 + 1, none⟩) hb).trans (hcell 1 (by omega))
      have y2 := (hD.u.bl.cell (p := ⟨b, off + k * 3 + 2, none⟩) hb).trans (hcell 2 (by omega))
      clear hcell D1 HOS
      generalize os[k] = o at *
      obtain ⟨ok, oe, oa⟩ := o
      obtain ⟨_, _, ha1, ha2⟩ := hIn
      simp only at ha1 ha2
      simp only [Op10.cells, List.getElem?_cons_zero, List.getElem?_cons_succ, Nat.add_zero] at y0 y1 y2
      have DA := hide (hD.add #[.int .i64 ok, .int .i64 oe, .int .i64 oa] 31 (by decide) (by decide) (by decide))
      have HX := hide hris
      have HM := hide hmx
      clear hD hris hmx
      have ob := (unhide DA).u.get (List.mem_cons_self ..)
      have x1 : (wr.alloc (.cells #[.int .i64 ok, .int .i64 oe, .int .i64 oa] 31)).cell? ⟨wr.heap.size, 1, none⟩ = some (.int .i64 oe) := by rw [cell_of ob]; rfl
      have x2 : (wr.alloc (.cells #[.int .i64 ok, .int .i64 oe, .int .i64 oa] 31)).cell? ⟨wr.heap.size, 2, none⟩ = some (.int .i64 oa) := by rw [cell_of ob]; rfl
      clear ob
      have AC := hide ((unhide DA).asgC (unhide HX) hl8 oe oa)
      gi_wp2_with fail
      generalize wr.alloc (.cells #[.int .i64 ok, .int .i64 oe, .int .i64 oa] 31) = W1 at *
      refine ⟨trivial, (callsIn_wide.2 (unhide AC)).mono ?_⟩
      rintro e w2 ⟨rfl, d2⟩
      clear AC DA x1 x2 y0 y1 y2
      have ob := d2.u.get (List.mem_cons_self ..)
      have x1 : w2.cell? ⟨wr.heap.size, 1, none⟩ = some (.int .i64 oe) := by rw [cell_of ob]; rfl
      have x2 : w2.cell? ⟨wr.heap.size, 2, none⟩ = some (.int .i64 oa) := by rw [cell_of ob]; rfl
      have xp : w2.cell? ⟨pb, 0, none⟩ = some (.pointer (some ⟨rb, 0, none⟩)) := by rw [cell_of (d2.u.get (List.mem_cons_of_mem _ (unhide MP)))]; rfl
      have AR := hide (d2.asgR hl8 oe oa)
      clear d2 ob
      gi_wp2_with fail
      refine ⟨trivial, (callsIn_wide.2 (unhide AR)).mono ?_⟩
      rintro e w3 ⟨rfl, d3⟩
      have ob := d3.u.get (List.mem_cons_self ..)
      clear x1 x2 xp
      have x2 : w3.cell? ⟨wr.heap.size, 2, none⟩ = some (.int .i64 oa) := by rw [cell_of ob]; rfl
      have NX : Hid (Ris (asgE oe oa l).2 ∧ (asgE oe oa l).2.length ≤ k + 1 ∧ (∀ q ∈ (asgE oe oa l).2, q.2 ≤ max mx oa) ∧ Duo w w3 cb rb (asgE oe oa l).2 (asgE oe oa l).2 E0) := by
        refine ⟨(unhide HX).asg oe oa, Nat.le_trans (len_asg (unhide HX) oe oa) (by omega), fun q hq => ?_, d3.drop⟩
        rcases asg_cases oe oa l (unhide HX) with e | ⟨e, _⟩
        · rw [e] at hq
          have := unhide HM q hq
          omega
        · rw [e] at hq
          rcases List.mem_append.1 hq with h | h
          · have := unhide HM q (List.mem_filter.1 h).1
            omega
          · rw [List.mem_singleton] at h; subst h; show oa ≤ _; omega
      clear d3 ob AR HX HM
      generalize (asgE oe oa l).2 = l2 at *
      by_cases hmax : mx < oa
      · gi_wp2
        go_roundw
        case rel => exact ⟨k + 1, l2, oa, by omega, by first | rfl | rw [if_pos hmax], by go_num, (unhide NX).2.1, (unhide NX).1, (fun q hq => by have := (unhide NX).2.2.1 q hq; omega), by omega, by omega, (unhide NX).2.2.2⟩
        case measure => simp [intOf]; omega
      · gi_wp2
        go_roundw
        case rel => exact ⟨k + 1, l2, mx, by omega, by first | rfl | rw [if_neg hmax], by go_num, (unhide NX).2.1, (unhide NX).1, (fun q hq => by have := (unhide NX).2.2.1 q hq; omega), by omega, by omega, (unhide NX).2.2.2⟩
        case measure => simp [intOf]; omega
    · have hkl' : ¬ (k : Int) < (os.length : Int) := by omega
      have HX := hide hris
      clear HOS D1
      by_cases hbig : mx < 4611686018427387904
      · have hwm : IntKind.i64.wrap (mx + 1) = mx + 1 := wrap_low (by omega) (by omega)
        have CC := hide (hD.cutC (unhide HX) (mx + 1))
        rw [cut_all (fun q hq => by have := hmx q hq; omega)] at CC
        clear hD hris hmx
        gi_wp2_with fail
        refine ⟨trivial, (callsIn_wide.2 (unhide CC)).mono ?_⟩
        rintro e w4 ⟨rfl, d4⟩
        clear CC
        have SM := hide (d4.same hl8)
        have xp : w4.cell? ⟨pb, 0, none⟩ = some (.pointer (some ⟨rb, 0, none⟩)) := by rw [cell_of (d4.u.get (unhide MP))]; rfl
        clear d4
        gi_wp2_with fail
        refine ⟨trivial, (callsIn_wide.2 (unhide SM)).mono ?_⟩
        rintro e w5 ⟨rfl, d5⟩
        clear SM xp
        have xa : w5.cell? ⟨w.heap.size, 0, none⟩ = some (.int .i64 t) := by rw [cell_of (d5.u.get (unhide MA))]; rfl
        have CU := hide (d5.cutC (unhide HX) t)
        clear d5
        gi_wp2_with fail
        refine ⟨trivial, (callsIn_wide.2 (unhide CU)).mono ?_⟩
        rintro e w6 ⟨rfl, d6⟩
        clear CU xa
        obtain ⟨kc, hkc1, hkc2, hkc3⟩ := cut_first (unhide HX) t
        have cl8 : (cutE t l).length ≤ 8000000000000 := Nat.le_trans (len_cut t l) hl8
        have D7 := hide (d6.add #[.int .i64 0] 3 (by decide) (by decide) (by decide))
        have AL := hide ((unhide D7).all cl8)
        have CLT : Hid (∀ x ∈ cutE t l, x.2 < t) := fun x hx => by simpa using (List.mem_filter.1 hx).2
        have CL1 : Hid (cutE t l = l.take kc) := hkc2
        have CL2 : (cutE t l).length = kc := by rw [hkc2, List.length_take]; omega
        have CL3 := hide hkc3
        obtain ⟨v1, v2, hr6⟩ := d6.rc
        have R6 := hide hr6
        have P6 := hide (d6.u.get (unhide MP))
        have Q6 := hide (d6.u.get (unhide MQ))
        have A6 := hide (d6.u.get (unhide MA))
        have B6 := hide d6.u.bl
        clear d6 hkc2 hkc3 HX D7 hr6
        generalize cutE t l = cl at *
        gi_wp2_with fail
        have W67 : Hid (Below w6.heap.size w6 (w6.alloc (.cells #[.int .i64 0] 3))) := (Below.refl _ _).alloc (Nat.le_refl _) _
        have N7 : Hid ((w6.alloc (.cells #[.int .i64 0] 3)).heap[w6.heap.size]? = some (.cells #[.int .i64 0] 3)) := heap_new _ _
        have hs7 : Hid ((w6.alloc (.cells #[.int .i64 0] 3)).heap.size = w6.heap.size + 1) := by show _ = _; simp
        generalize w6.alloc (.cells #[.int .i64 0] 3) = W7 at *
        refine ⟨trivial, (callsIn_wide.2 (unhide AL)).mono ?_⟩
        rintro e w8 ⟨⟨v8, rfl, x8, r8, b8⟩, d8⟩
        clear AL
        have B68 : Hid (Below w6.heap.size w6 w8) := (unhide W67).trans (b8.mono (unhide W67).size)
        have R8 := hide ((unhide R6).later (unhide B68))
        have P8 := hide (below_keep (unhide B68) (unhide P6))
        have Q8 := hide (below_keep (unhide B68) (unhide Q6))
        have A8 := hide (below_keep (unhide B68) (unhide A6))
        have N8 := hide (below_keep b8 (unhide N7))
        have B8 := hide ((unhide B6).trans ((unhide B68).mono (unhide B6).size))
        have LT1 : Hid (∀ k, v1.ownBlock = some k → k < w6.heap.size) := (unhide R6).r1.lt
        have LT2 : Hid (∀ k, v2.ownBlock = some k → k < w6.heap.size) := (unhide R6).r2.lt
        have hrl := (unhide R6).lt
        have hpl := lt_of_heap (unhide P6)
        have hql := lt_of_heap (unhide Q6)
        have hal := lt_of_heap (unhide A6)
        have hlo : w6.heap.size + 1 = W7.heap.size := (unhide hs7).symm
        have h89 := lt_of_heap x8
        clear d8 b8 R6 P6 Q6 A6 N7 B6 B68 W67 hs7
        obtain ⟨lo, hlo'⟩ : ∃ lo, lo = W7.heap.size := ⟨_, rfl⟩
        rw [← hlo'] at x8 r8 hlo h89 ⊢
        clear hlo'
        obtain ⟨nb, hnb'⟩ : ∃ nb, nb = w6.heap.size := ⟨_, rfl⟩
        rw [← hnb'] at LT1 LT2 hrl hpl hql hal hlo N8 ⊢
        clear hnb'
        have hnlo : nb < lo := by omega
        have hn8 : nb < w8.heap.size := by omega
        clear hlo
        gi_wp2_with fail
        refine wpIn_rangeFunc_ownG rfl (by omega) (gf := 22) (lb := #[.pointer (some ⟨lo, 0, none⟩)]) rfl trivial (enters_of Try.func22 (by kernel_rfl) rfl)
          (alls Fence.wide _ trivial rfl (by omega) lo v8 cl w8 x8 r8 cl8) Keep.trans (Keep.put (Nat.le_refl _)) (Below.refl _ _) (fun _ => rfl)
          (fun pre W => (W.cell? ⟨nb, 0, none⟩ = some (.int .i64 (pre.length : Int)) ∧ W.frozen? ⟨nb, 0, none⟩ = false ∧ pre.map Prod.snd <+: cl.map Prod.snd) ∧ Touch (· = nb) w8 W)
          (fun c pre W => (c = .ret ∧ ¬ pre.map Prod.snd <+: cl.map Prod.snd))
          (OwnFrom.and (Own.from (fun s A B row hs hg hr => ⟨cell_kept hs.1 hg hr, (frozen_kept hs.1 hg hr).trans hs.2.1, hs.2.2⟩) _) (Touch.own (Nat.le_refl _)))
          (fun c s A B row hs hg hr => hs)
          ⟨⟨by rw [cell_of (unhide N8)]; rfl, frozen_of (unhide N8) 0, List.nil_prefix⟩, Touch.refl _ _⟩
          ?a1 ?assign ?body ?done ?stop
        case assign =>
          intro l x W K hK
          gi_wp2
          exact hK
        case body =>
          rintro L pre x W ⟨⟨hc, hf, hp⟩, tW⟩ hlt
          have R9 := (unhide R8).keep tW (by omega) (fun k hk e => by have := unhide LT1 k hk; omega) (fun k hk e => by have := unhide LT2 k hk; omega)
          have k2 := R9.cell2
          obtain ⟨a1, c1, a2, c2, rfl, rfl, hmax, hcs⟩ := R9.cells
          have hil : pre.length < l.length := by omega
          obtain ⟨g1, g2, rfl, rfl, hg1, hg2, y1, y2⟩ := hcs pre.length hil
          have p1 : W.cell? ⟨pb, 0, none⟩ = some (.pointer (some ⟨rb, 0, none⟩)) := by rw [cell_of (tW.keep (unhide P8) (by omega))]; rfl
          have q1 : W.cell? ⟨qb, 0, none⟩ = some (.bool false) := by rw [cell_of (tW.keep (unhide Q8) (by omega))]; rfl
          have qf : W.frozen? ⟨qb, 0, none⟩ = false := frozen_of (tW.keep (unhide Q8) (by omega)) 0
          have t1 : W.cell? ⟨w.heap.size, 0, none⟩ = some (.int .i64 t) := by rw [cell_of (tW.keep (unhide A8) (by omega))]; rfl
          have hcq : (l[pre.length]'hil).2 = (cl[pre.length]'hlt).2 := by simp only [unhide CL1, List.getElem_take]
          have hct : (cl[pre.length]'hlt).2 < t := unhide CLT _ (List.getElem_mem hlt)
          have HP := hide hp
          have TW := hide tW
          have hb1 : ∀ a b : Int, ¬ a = b → (a != b) = true := fun a b h => by simpa using h
          have SN : Hid (∀ y : Pr, y.2 = (cl[pre.length]'hlt).2 → (pre ++ [y]).map Prod.snd <+: cl.map Prod.snd) := fun y hy => by
            obtain ⟨s, hs⟩ := hp
            have hl : (pre.map Prod.snd).length < (cl.map Prod.snd).length := by simpa using hlt
            cases s with
            | nil => rw [List.append_nil] at hs; rw [hs] at hl; omega
            | cons z s =>
              have hz : (cl.map Prod.snd)[pre.length]'(by simpa using hlt) = z := by simp [← hs]
              rw [List.getElem_map] at hz
              exact ⟨s, by rw [← hs, List.map_append, List.map_cons, List.map_nil, hy, hz]; simp⟩
          have SX : Hid (∀ y : Pr, ¬ y.2 = (cl[pre.length]'hlt).2 → ¬ (pre ++ [y]).map Prod.snd <+: cl.map Prod.snd) := fun y hy hpp => by
            obtain ⟨s, hs⟩ := hpp
            have hz : (cl.map Prod.snd)[pre.length]'(by simpa using hlt) = y.2 := by simp [← hs]
            rw [List.getElem_map] at hz
            exact hy hz.symm
          clear R9 hcs tW hp LT1 LT2 hmax y1
          rw [hcq] at y2
          have hlt2 : (pre.length : Int) < (l.length : Int) := by omega
          have hlt3 : (0 : Int) ≤ (pre.length : Int) := by omega
          clear hcq CLT CL1 CL3
          generalize (cl[pre.length]'hlt).2 = A at *
          obtain ⟨x1, x2⟩ := x
          by_cases h2 : x2 = A
          · subst h2
            have hw1 : IntKind.i64.wrap ((pre.length : Int) + 1) = (pre.length : Int) + 1 := wrap_low (by omega) (by omega)
            have hd1 : decide (t ≤ x2) = false := decide_eq_false (by omega)
            gi_wp2_with fail
            refine region_quiet (by kernel_rfl) (by kernel_rfl) (by kernel_rfl) ?_
            repeat (gi_big_quiet_step (fail))
            refine wpQuietIn_nil ?_
            intro _ hw'
            obtain ⟨nq, hw''⟩ := hw'
            subst hw''
            gi_wp2
            have ts : Touch (· = nb) W ((W.drewN nq).setCell ⟨nb, 0, none⟩ (.int .i64 ((pre.length : Int) + 1))) := ((Touch.refl (· = nb) W).drewN nq).setCell (p := ⟨nb, 0, none⟩) rfl _
            refine ⟨((keepsDrewN W nq).trans (KeepsOthers.setCell _ _ _)).from _, Keep.touch ts (unhide TW).size (fun k hk => by omega), ⟨?_, ?_, unhide SN _ rfl⟩, (unhide TW).trans ts⟩
            · rw [World.cell?_setCell_same' _ _ _ (by rw [show (W.drewN nq).cell? ⟨nb, 0, none⟩ = W.cell? ⟨nb, 0, none⟩ from rfl, hc]; rfl)]
              simp
            · rw [World.frozen?_setCell]; exact hf
          · have hb2 := hb1 _ _ h2
            have FX := hide (unhide SX (x1, x2) h2)
            clear SN SX
            by_cases h3 : t ≤ x2
            · have hd1 : decide (t ≤ x2) = true := decide_eq_true h3
              gi_wp2_with fail
              refine region_quiet (by kernel_rfl) (by kernel_rfl) (by kernel_rfl) ?_
              repeat (gi_big_quiet_step (fail))
              refine wpQuietIn_nil ?_
              intro _ hw'
              obtain ⟨nq, hw''⟩ := hw'
              subst hw''
              gi_wp2
              exact ⟨((keepsDrewN W nq).trans (KeepsOthers.setCell _ _ _)).from _, rfl, unhide FX⟩
            · have hd1 : decide (t ≤ x2) = false := decide_eq_false h3
              gi_wp2_with fail
              refine region_quiet (by kernel_rfl) (by kernel_rfl) (by kernel_rfl) ?_
              repeat (gi_big_quiet_step (fail))
              refine wpQuietIn_nil ?_
              intro _ hw'
              obtain ⟨nq, hw''⟩ := hw'
              subst hw''
              gi_wp2
              exact ⟨((keepsDrewN W nq).trans (KeepsOthers.setCell _ _ _)).from _, rfl, unhide FX⟩
        case done =>
          rintro D ys W hD' rfl ⟨⟨hc, hf, _⟩, tW⟩ hK
          have R9 := (unhide R8).keep tW (by omega) (fun k hk e => by have := unhide LT1 k hk; omega) (fun k hk e => by have := unhide LT2 k hk; omega)
          have k2 := R9.cell2
          obtain ⟨a1, c1, a2, c2, rfl, rfl, hmax, hcs⟩ := R9.cells
          have p1 : W.cell? ⟨pb, 0, none⟩ = some (.pointer (some ⟨rb, 0, none⟩)) := by rw [cell_of (tW.keep (unhide P8) (by omega))]; rfl
          have q1 : W.cell? ⟨qb, 0, none⟩ = some (.bool false) := by rw [cell_of (tW.keep (unhide Q8) (by omega))]; rfl
          have qf : W.frozen? ⟨qb, 0, none⟩ = false := frozen_of (tW.keep (unhide Q8) (by omega)) 0
          have t1 : W.cell? ⟨w.heap.size, 0, none⟩ = some (.int .i64 t) := by rw [cell_of (tW.keep (unhide A8) (by omega))]; rfl
          have BW : Hid (Below w.heap.size w W) := below_touch (unhide B8) tW (unhide B8).size (fun k hk => by omega)
          have HK := hide hK
          have hwq : w.heap.size ≤ qb := by omega
          have FIN : Hid (∀ (nq : Nat) (X : World), X = (W.drewN nq).setCell ⟨qb, 0, none⟩ (.bool true) → X.heap[D]? = some (.deferred (some [])) ∧ X.cell? ⟨qb, 0, none⟩ = some (.bool true) ∧ Below w.heap.size w X) := fun nq X hX => by
            subst hX
            exact ⟨(KeepsOthers.setCell (W.drewN nq) ⟨qb, 0, none⟩ (.bool true)).same D _ (unhide HK) rfl, World.cell?_setCell_same' (W.drewN nq) ⟨qb, 0, none⟩ (.bool true) (by rw [show (W.drewN nq).cell? ⟨qb, 0, none⟩ = W.cell? ⟨qb, 0, none⟩ from rfl, q1]; rfl), (below_drewN3 (unhide BW) nq).setCell (p := ⟨qb, 0, none⟩) hwq _⟩
          rw [CL2] at hc
          have hDw : w.heap.size ≤ D := by have := (unhide BW).size; have := tW.size; have := (unhide B8).size; omega
          by_cases hfull : kc = l.length
          · have hkk1 : ((kc : Int) == (l.length : Int)) = true := by simp [hfull]
            clear R9 hcs tW hK R8 LT1 LT2 hf CL3 CLT CL1 hfull
            gi_wp2_with fail
            refine region_store rfl (by kernel_rfl) rfl rfl (by kernel_rfl) (by kernel_rfl) (by kernel_rfl) (by kernel_rfl) ?_
            dsimp only [swL, hush]
            repeat (gi_big_quiet_step (fail))
            refine wpQuietIn_nil ?_
            intro _ hw'
            obtain ⟨nq, hw''⟩ := hw'
            subst hw''
            go_simp
            gi_wp2
            obtain ⟨hK9, hc9, hB9⟩ := unhide FIN nq _ rfl
            refine ⟨by simp, .inl ⟨_, _, rfl, run_takeDeferred hK9, ?_⟩⟩
            have hcA := cell_kept hc9 (grownBy_putObj' _ D (.deferred none)) (fun r e => by cases e; exact ⟨_, hK9, rfl⟩)
            refine ⟨.bool true, ?_, rfl, hB9.trans (belowK_b (w := w) (Nat.le_refl _) _ D _ _ hDw hK9 rfl rfl)⟩
            simp [results, Try.f6, go_sem, hcA]
          · have hkl3 : kc < l.length := by omega
            obtain ⟨g1, g2, rfl, rfl, hg1, hg2, y1, y2⟩ := hcs kc hkl3
            have hA := unhide CL3 hkl3
            clear R9 hcs tW hK R8 LT1 LT2 hf CL3 CLT CL1 y1
            generalize (l[kc]'hkl3).2 = A at *
            have hkk : (kc : Int) < (l.length : Int) := by omega
            have hkk0 : (0 : Int) ≤ (kc : Int) := by omega
            have hkk1 : ((kc : Int) == (l.length : Int)) = false := by simp; omega
            have hd1 : decide (t ≤ A) = true := decide_eq_true hA
            gi_wp2_with fail
            refine region_store rfl (by kernel_rfl) rfl rfl (by kernel_rfl) (by kernel_rfl) (by kernel_rfl) (by kernel_rfl) ?_
            dsimp only [swL, hush]
            repeat (gi_big_quiet_step (fail))
            refine wpQuietIn_nil ?_
            intro _ hw'
            obtain ⟨nq, hw''⟩ := hw'
            subst hw''
            go_simp
            gi_wp2
            obtain ⟨hK9, hc9, hB9⟩ := unhide FIN nq _ rfl
            refine ⟨by simp, .inl ⟨_, _, rfl, run_takeDeferred hK9, ?_⟩⟩
            have hcA := cell_kept hc9 (grownBy_putObj' _ D (.deferred none)) (fun r e => by cases e; exact ⟨_, hK9, rfl⟩)
            refine ⟨.bool true, ?_, rfl, hB9.trans (belowK_b (w := w) (Nat.le_refl _) _ D _ _ hDw hK9 rfl rfl)⟩
            simp [results, Try.f6, go_sem, hcA]
        case stop =>
          rintro D c pre W _ hs ⟨_, h⟩ _
          exact absurd (hs.map Prod.snd) h
      · clear hmx hris
        have SM := hide (hD.same hl8)
        have xp : wr.cell? ⟨pb, 0, none⟩ = some (.pointer (some ⟨rb, 0, none⟩)) := by rw [cell_of (hD.u.get (unhide MP))]; rfl
        clear hD
        gi_wp2_with fail
        refine ⟨trivial, (callsIn_wide.2 (unhide SM)).mono ?_⟩
        rintro e w5 ⟨rfl, d5⟩
        clear SM xp
        have xa : w5.cell? ⟨w.heap.size, 0, none⟩ = some (.int .i64 t) := by rw [cell_of (d5.u.get (unhide MA))]; rfl
        have CU := hide (d5.cutC (unhide HX) t)
        clear d5
        gi_wp2_with fail
        refine ⟨trivial, (callsIn_wide.2 (unhide CU)).mono ?_⟩
        rintro e w6 ⟨rfl, d6⟩
        clear CU xa
        obtain ⟨kc, hkc1, hkc2, hkc3⟩ := cut_first (unhide HX) t
        have cl8 : (cutE t l).length ≤ 8000000000000 := Nat.le_trans (len_cut t l) hl8
        have D7 := hide (d6.add #[.int .i64 0] 3 (by decide) (by decide) (by decide))
        have AL := hide ((unhide D7).all cl8)
        have CLT : Hid (∀ x ∈ cutE t l, x.2 < t) := fun x hx => by simpa using (List.mem_filter.1 hx).2
        have CL1 : Hid (cutE t l = l.take kc) := hkc2
        have CL2 : (cutE t l).length = kc := by rw [hkc2, List.length_take]; omega
        have CL3 := hide hkc3
        obtain ⟨v1, v2, hr6⟩ := d6.rc
        have R6 := hide hr6
        have P6 := hide (d6.u.get (unhide MP))
        have Q6 := hide (d6.u.get (unhide MQ))
        have A6 := hide (d6.u.get (unhide MA))
        have B6 := hide d6.u.bl
        clear d6 hkc2 hkc3 HX D7 hr6
        generalize cutE t l = cl at *
        gi_wp2_with fail
        have W67 : Hid (Below w6.heap.size w6 (w6.alloc (.cells #[.int .i64 0] 3))) := (Below.refl _ _).alloc (Nat.le_refl _) _
        have N7 : Hid ((w6.alloc (.cells #[.int .i64 0] 3)).heap[w6.heap.size]? = some (.cells #[.int .i64 0] 3)) := heap_new _ _
        have hs7 : Hid ((w6.alloc (.cells #[.int .i64 0] 3)).heap.size = w6.heap.size + 1) := by show _ = _; simp
        generalize w6.alloc (.cells #[.int .i64 0] 3) = W7 at *
        refine ⟨trivial, (callsIn_wide.2 (unhide AL)).mono ?_⟩
        rintro e w8 ⟨⟨v8, rfl, x8, r8, b8⟩, d8⟩
        clear AL
        have B68 : Hid (Below w6.heap.size w6 w8) := (unhide W67).trans (b8.mono (unhide W67).size)
        have R8 := hide ((unhide R6).later (unhide B68))
        have P8 := hide (below_keep (unhide B68) (unhide P6))
        have Q8 := hide (below_keep (unhide B68) (unhide Q6))
        have A8 := hide (below_keep (unhide B68) (unhide A6))
        have N8 := hide (below_keep b8 (unhide N7))
        have B8 := hide ((unhide B6).trans ((unhide B68).mono (unhide B6).size))
        have LT1 : Hid (∀ k, v1.ownBlock = some k → k < w6.heap.size) := (unhide R6).r1.lt
        have LT2 : Hid (∀ k, v2.ownBlock = some k → k < w6.heap.size) := (unhide R6).r2.lt
        have hrl := (unhide R6).lt
        have hpl := lt_of_heap (unhide P6)
        have hql := lt_of_heap (unhide Q6)
        have hal := lt_of_heap (unhide A6)
        have hlo : w6.heap.size + 1 = W7.heap.size := (unhide hs7).symm
        have h89 := lt_of_heap x8
        clear d8 b8 R6 P6 Q6 A6 N7 B6 B68 W67 hs7
        obtain ⟨lo, hlo'⟩ : ∃ lo, lo = W7.heap.size := ⟨_, rfl⟩
        rw [← hlo'] at x8 r8 hlo h89 ⊢
        clear hlo'
        obtain ⟨nb, hnb'⟩ : ∃ nb, nb = w6.heap.size := ⟨_, rfl⟩
        rw [← hnb'] at LT1 LT2 hrl hpl hql hal hlo N8 ⊢
        clear hnb'
        have hnlo : nb < lo := by omega
        have hn8 : nb < w8.heap.size := by omega
        clear hlo
        gi_wp2_with fail
        refine wpIn_rangeFunc_ownG rfl (by omega) (gf := 22) (lb := #[.pointer (some ⟨lo, 0, none⟩)]) rfl trivial (enters_of Try.func22 (by kernel_rfl) rfl)
          (alls Fence.wide _ trivial rfl (by omega) lo v8 cl w8 x8 r8 cl8) Keep.trans (Keep.put (Nat.le_refl _)) (Below.refl _ _) (fun _ => rfl)
          (fun pre W => (W.cell? ⟨nb, 0, none⟩ = some (.int .i64 (pre.length : Int)) ∧ W.frozen? ⟨nb, 0, none⟩ = false ∧ pre.map Prod.snd <+: cl.map Prod.snd) ∧ Touch (· = nb) w8 W)
          (fun c pre W => (c = .ret ∧ ¬ pre.map Prod.snd <+: cl.map Prod.snd))
          (OwnFrom.and (Own.from (fun s A B row hs hg hr => ⟨cell_kept hs.1 hg hr, (frozen_kept hs.1 hg hr).trans hs.2.1, hs.2.2⟩) _) (Touch.own (Nat.le_refl _)))
          (fun c s A B row hs hg hr => hs)
          ⟨⟨by rw [cell_of (unhide N8)]; rfl, frozen_of (unhide N8) 0, List.nil_prefix⟩, Touch.refl _ _⟩
          ?a1B ?assignB ?bodyB ?doneB ?stopB
        case assignB =>
          intro l x W K hK
          gi_wp2
          exact hK
        case bodyB =>
          rintro L pre x W ⟨⟨hc, hf, hp⟩, tW⟩ hlt
          have R9 := (unhide R8).keep tW (by omega) (fun k hk e => by have := unhide LT1 k hk; omega) (fun k hk e => by have := unhide LT2 k hk; omega)
          have k2 := R9.cell2
          obtain ⟨a1, c1, a2, c2, rfl, rfl, hmax, hcs⟩ := R9.cells
          have hil : pre.length < l.length := by omega
          obtain ⟨g1, g2, rfl, rfl, hg1, hg2, y1, y2⟩ := hcs pre.length hil
          have p1 : W.cell? ⟨pb, 0, none⟩ = some (.pointer (some ⟨rb, 0, none⟩)) := by rw [cell_of (tW.keep (unhide P8) (by omega))]; rfl
          have q1 : W.cell? ⟨qb, 0, none⟩ = some (.bool false) := by rw [cell_of (tW.keep (unhide Q8) (by omega))]; rfl
          have qf : W.frozen? ⟨qb, 0, none⟩ = false := frozen_of (tW.keep (unhide Q8) (by omega)) 0
          have t1 : W.cell? ⟨w.heap.size, 0, none⟩ = some (.int .i64 t) := by rw [cell_of (tW.keep (unhide A8) (by omega))]; rfl
          have hcq : (l[pre.length]'hil).2 = (cl[pre.length]'hlt).2 := by simp only [unhide CL1, List.getElem_take]
          have hct : (cl[pre.length]'hlt).2 < t := unhide CLT _ (List.getElem_mem hlt)
          have HP := hide hp
          have TW := hide tW
          have hb1 : ∀ a b : Int, ¬ a = b → (a != b) = true := fun a b h => by simpa using h
          have SN : Hid (∀ y : Pr, y.2 = (cl[pre.length]'hlt).2 → (pre ++ [y]).map Prod.snd <+: cl.map Prod.snd) := fun y hy => by
            obtain ⟨s, hs⟩ := hp
            have hl : (pre.map Prod.snd).length < (cl.map Prod.snd).length := by simpa using hlt
            cases s with
            | nil => rw [List.append_nil] at hs; rw [hs] at hl; omega
            | cons z s =>
              have hz : (cl.map Prod.snd)[pre.length]'(by simpa using hlt) = z := by simp [← hs]
              rw [List.getElem_map] at hz
              exact ⟨s, by rw [← hs, List.map_append, List.map_cons, List.map_nil, hy, hz]; simp⟩
          have SX : Hid (∀ y : Pr, ¬ y.2 = (cl[pre.length]'hlt).2 → ¬ (pre ++ [y]).map Prod.snd <+: cl.map Prod.snd) := fun y hy hpp => by
            obtain ⟨s, hs⟩ := hpp
            have hz : (cl.map Prod.snd)[pre.length]'(by simpa using hlt) = y.2 := by simp [← hs]
            rw [List.getElem_map] at hz
            exact hy hz.symm
          clear R9 hcs tW hp LT1 LT2 hmax y1
          rw [hcq] at y2
          have hlt2 : (pre.length : Int) < (l.length : Int) := by omega
          have hlt3 : (0 : Int) ≤ (pre.length : Int) := by omega
          clear hcq CLT CL1 CL3
          generalize (cl[pre.length]'hlt).2 = A at *
          obtain ⟨x1, x2⟩ := x
          by_cases h2 : x2 = A
          · subst h2
            have hw1 : IntKind.i64.wrap ((pre.length : Int) + 1) = (pre.length : Int) + 1 := wrap_low (by omega) (by omega)
            have hd1 : decide (t ≤ x2) = false := decide_eq_false (by omega)
            gi_wp2_with fail
            refine region_quiet (by kernel_rfl) (by kernel_rfl) (by kernel_rfl) ?_
            repeat (gi_big_quiet_step (fail))
            refine wpQuietIn_nil ?_
            intro _ hw'
            obtain ⟨nq, hw''⟩ := hw'
            subst hw''
            gi_wp2
            have ts : Touch (· = nb) W ((W.drewN nq).setCell ⟨nb, 0, none⟩ (.int .i64 ((pre.length : Int) + 1))) := ((Touch.refl (· = nb) W).drewN nq).setCell (p := ⟨nb, 0, none⟩) rfl _
            refine ⟨((keepsDrewN W nq).trans (KeepsOthers.setCell _ _ _)).from _, Keep.touch ts (unhide TW).size (fun k hk => by omega), ⟨?_, ?_, unhide SN _ rfl⟩, (unhide TW).trans ts⟩
            · rw [World.cell?_setCell_same' _ _ _ (by rw [show (W.drewN nq).cell? ⟨nb, 0, none⟩ = W.cell? ⟨nb, 0, none⟩ from rfl, hc]; rfl)]
              simp
            · rw [World.frozen?_setCell]; exact hf
          · have hb2 := hb1 _ _ h2
            have FX := hide (unhide SX (x1, x2) h2)
            clear SN SX
            by_cases h3 : t ≤ x2
            · have hd1 : decide (t ≤ x2) = true := decide_eq_true h3
              gi_wp2_with fail
              refine region_quiet (by kernel_rfl) (by kernel_rfl) (by kernel_rfl) ?_
              repeat (gi_big_quiet_step (fail))
              refine wpQuietIn_nil ?_
              intro _ hw'
              obtain ⟨nq, hw''⟩ := hw'
              subst hw''
              gi_wp2
              exact ⟨((keepsDrewN W nq).trans (KeepsOthers.setCell _ _ _)).from _, rfl, unhide FX⟩
            · have hd1 : decide (t ≤ x2) = false := decide_eq_false h3
              gi_wp2_with fail
              refine region_quiet (by kernel_rfl) (by kernel_rfl) (by kernel_rfl) ?_
              repeat (gi_big_quiet_step (fail))
              refine wpQuietIn_nil ?_
              intro _ hw'
              obtain ⟨nq, hw''⟩ := hw'
              subst hw''
              gi_wp2
              exact ⟨((keepsDrewN W nq).trans (KeepsOthers.setCell _ _ _)).from _, rfl, unhide FX⟩
        case doneB =>
          rintro D ys W hD' rfl ⟨⟨hc, hf, _⟩, tW⟩ hK
          have R9 := (unhide R8).keep tW (by omega) (fun k hk e => by have := unhide LT1 k hk; omega) (fun k hk e => by have := unhide LT2 k hk; omega)
          have k2 := R9.cell2
          obtain ⟨a1, c1, a2, c2, rfl, rfl, hmax, hcs⟩ := R9.cells
          have p1 : W.cell? ⟨pb, 0, none⟩ = some (.pointer (some ⟨rb, 0, none⟩)) := by rw [cell_of (tW.keep (unhide P8) (by omega))]; rfl
          have q1 : W.cell? ⟨qb, 0, none⟩ = some (.bool false) := by rw [cell_of (tW.keep (unhide Q8) (by omega))]; rfl
          have qf : W.frozen? ⟨qb, 0, none⟩ = false := frozen_of (tW.keep (unhide Q8) (by omega)) 0
          have t1 : W.cell? ⟨w.heap.size, 0, none⟩ = some (.int .i64 t) := by rw [cell_of (tW.keep (unhide A8) (by omega))]; rfl
          have BW : Hid (Below w.heap.size w W) := below_touch (unhide B8) tW (unhide B8).size (fun k hk => by omega)
          have HK := hide hK
          have hwq : w.heap.size ≤ qb := by omega
          have FIN : Hid (∀ (nq : Nat) (X : World), X = (W.drewN nq).setCell ⟨qb, 0, none⟩ (.bool true) → X.heap[D]? = some (.deferred (some [])) ∧ X.cell? ⟨qb, 0, none⟩ = some (.bool true) ∧ Below w.heap.size w X) := fun nq X hX => by
            subst hX
            exact ⟨(KeepsOthers.setCell (W.drewN nq) ⟨qb, 0, none⟩ (.bool true)).same D _ (unhide HK) rfl, World.cell?_setCell_same' (W.drewN nq) ⟨qb, 0, none⟩ (.bool true) (by rw [show (W.drewN nq).cell? ⟨qb, 0, none⟩ = W.cell? ⟨qb, 0, none⟩ from rfl, q1]; rfl), (below_drewN3 (unhide BW) nq).setCell (p := ⟨qb, 0, none⟩) hwq _⟩
          rw [CL2] at hc
          have hDw : w.heap.size ≤ D := by have := (unhide BW).size; have := tW.size; have := (unhide B8).size; omega
          by_cases hfull : kc = l.length
          · have hkk1 : ((kc : Int) == (l.length : Int)) = true := by simp [hfull]
            clear R9 hcs tW hK R8 LT1 LT2 hf CL3 CLT CL1 hfull
            gi_wp2_with fail
            refine region_store rfl (by kernel_rfl) rfl rfl (by kernel_rfl) (by kernel_rfl) (by kernel_rfl) (by kernel_rfl) ?_
            dsimp only [swL, hush]
            repeat (gi_big_quiet_step (fail))
            refine wpQuietIn_nil ?_
            intro _ hw'
            obtain ⟨nq, hw''⟩ := hw'
            subst hw''
            go_simp
            gi_wp2
            obtain ⟨hK9, hc9, hB9⟩ := unhide FIN nq _ rfl
            refine ⟨by simp, .inl ⟨_, _, rfl, run_takeDeferred hK9, ?_⟩⟩
            have hcA := cell_kept hc9 (grownBy_putObj' _ D (.deferred none)) (fun r e => by cases e; exact ⟨_, hK9, rfl⟩)
            refine ⟨.bool true, ?_, rfl, hB9.trans (belowK_b (w := w) (Nat.le_refl _) _ D _ _ hDw hK9 rfl rfl)⟩
            simp [results, Try.f6, go_sem, hcA]
          · have hkl3 : kc < l.length := by omega
            obtain ⟨g1, g2, rfl, rfl, hg1, hg2, y1, y2⟩ := hcs kc hkl3
            have hA := unhide CL3 hkl3
            clear R9 hcs tW hK R8 LT1 LT2 hf CL3 CLT CL1 y1
            generalize (l[kc]'hkl3).2 = A at *
            have hkk : (kc : Int) < (l.length : Int) := by omega
            have hkk0 : (0 : Int) ≤ (kc : Int) := by omega
            have hkk1 : ((kc : Int) == (l.length : Int)) = false := by simp; omega
            have hd1 : decide (t ≤ A) = true := decide_eq_true hA
            gi_wp2_with fail
            refine region_store rfl (by kernel_rfl) rfl rfl (by kernel_rfl) (by kernel_rfl) (by kernel_rfl) (by kernel_rfl) ?_
            dsimp only [swL, hush]
            repeat (gi_big_quiet_step (fail))
            refine wpQuietIn_nil ?_
            intro _ hw'
            obtain ⟨nq, hw''⟩ := hw'
            subst hw''
            go_simp
            gi_wp2
            obtain ⟨hK9, hc9, hB9⟩ := unhide FIN nq _ rfl
            refine ⟨by simp, .inl ⟨_, _, rfl, run_takeDeferred hK9, ?_⟩⟩
            have hcA := cell_kept hc9 (grownBy_putObj' _ D (.deferred none)) (fun r e => by cases e; exact ⟨_, hK9, rfl⟩)
            refine ⟨.bool true, ?_, rfl, hB9.trans (belowK_b (w := w) (Nat.le_refl _) _ D _ _ hDw hK9 rfl rfl)⟩
            simp [results, Try.f6, go_sem, hcA]
        case stopB =>
          rintro D c pre W _ hs ⟨_, h⟩ _
          exact absurd (hs.map Prod.snd) h
end Go.Proofs.Ytfpcocagifmpbaa
