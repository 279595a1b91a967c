/-
  hold of one record that says how far a group has come. Conditions: the record is one of group 1.
-/
import Derived.Test.YtfbnkeflgddcmaaGw3
namespace Go.Proofs.Ytfbnkeflgddcmaa
open Go.RowKit Go.Maps
set_option linter.unusedVariables false

theorem mdel_few {m1 : List (Int × Tm)} (h : m1 = [] ∨ ∃ t, m1 = [(1, t)]) : mdel m1 1 = [] := by rcases h with rfl | ⟨t, rfl⟩ <;> simp [mdel]
def tPut (k : Nat) (x : Int) (T : Tm) : Tm := ⟨T.gen, T.g, T.n, T.c, if k = 0 then max T.o0 x else T.o0, if k = 1 then max T.o1 x else T.o1, if k = 2 then max T.o2 x else T.o2, if k = 3 then max T.o3 x else T.o3⟩
def HdP (B : Nat) (w : World) (sb : Nat) (mv2 : Value) (m1 : List (Int × Tm)) (W : List (Int × Sl)) (k : Nat) (x : Int) (e : Ending) (w' : World) : Prop := e = .returned (.tuple #[]) ∧ ∃ b m1', GS B w' sb (.map (some b)) mv2 m1' W ∧ tOf m1' = tPut k x (tOf m1) ∧ Touch (fun k => B ≤ k) w w'
set_option maxRecDepth 100000 in
set_option maxHeartbeats 8000000 in
theorem hold_none0 {B : Nat} {w : World} {sb : Nat} {mv2 : Value} {m1 : List (Int × Tm)} {W : List (Int × Sl)} {gen off : Int} {v : Value} (h : GS B w sb (.map none) mv2 m1 W) (hv : OneR B w v ⟨2, 1, gen, [], 0, off⟩) (hB : B ≤ w.heap.size) :
    Calls Try.prog 18 #[.pointer (some ⟨sb, 0, none⟩), v] w fun e w' => HdP B w sb mv2 m1 W 0 off e w' := by
  obtain ⟨g, c, a, k, rfl, hw, _, hg⟩ := hv
  have y0 : w.cell? ⟨sb, 0, none⟩ = some (.map none) := cell_of h.obj 0
  have f0 : w.frozen? ⟨sb, 0, none⟩ = false := frozen_of h.obj 0
  have y2 : (w.alloc (.map #[] 0)).cell? ⟨sb, 0, none⟩ = some (.map none) := cell_of (heap_old _ h.obj) 0
  have f2 : (w.alloc (.map #[] 0)).frozen? ⟨sb, 0, none⟩ = false := frozen_of (heap_old _ h.obj) 0
  have hmm := @run_makeMap Try.prog
  have H := hide h
  have HW := hide hw
  have HG := hide hg
  have HB := hide hB
  have hq : ∀ (W : World) (b : Nat), (binOp .eql 49 (.map (some b)) (.map none)).run Try.prog W = .ok (.bool false) W := fun _ _ => by kernel_rfl
  have hq0 : ∀ (W : World), (binOp .eql 49 (.map none) (.map none)).run Try.prog W = .ok (.bool true) W := fun _ => by kernel_rfl
  clear h hw hg hB
  go_enter Try.func18, Try.ntmps18
  go_upto_region 2 with fail
  have b1 := (Below.refl w.heap.size w).alloc (Nat.le_refl _) (.map #[] 0)
  have tsb := touch_set (w.alloc (.map #[] 0)) sb 0 (.map (some w.heap.size))
  have hsb := lt_of_heap (unhide H).obj
  have hob := heap_set (heap_old (.map #[] 0) (unhide H).obj) 0 (.map (some w.heap.size))
  have hm2 : ∀ b, mv2 = .map (some b) → b < w.heap.size ∧ b ≠ sb := fun b e => ⟨((unhide H).map2 e).1.lt, fun e2 => by
    obtain ⟨es, ck, h1⟩ := ((unhide H).map2 e).1.block
    rw [e2, (unhide H).obj] at h1
    cases h1⟩
  have hm1 : m1 = [] := by
    rcases (unhide H).g with ⟨_, e⟩ | ⟨b, e, _⟩
    · exact e
    · cases e
  have H1 : Hid (GS B ((w.alloc (.map #[] 0)).setCell ⟨sb, 0, none⟩ (.map (some w.heap.size))) sb (.map (some w.heap.size)) mv2 m1 W) := hide ⟨hob, .inr ⟨w.heap.size, rfl, by rw [hm1]; exact (MM.made gK w).keep tsb (fun h => by omega), unhide HB⟩, by
      rcases (unhide H).wt with ⟨e, e2⟩ | ⟨b, e, m, hb⟩
      · exact .inl ⟨e, e2⟩
      · exact .inr ⟨b, e, (m.keep (Touch.of_below (S := fun _ => False) b1) (fun h => h)).keep tsb (fun h => (hm2 b e).2 h), hb⟩, fun b e e2 => by
      have := (hm2 b e2).1
      injection e with e3
      injection e3 with e4
      omega, (unhide H).few, (unhide H).hb⟩
  have T1 : Hid (Touch (fun k => B ≤ k) w ((w.alloc (.map #[] 0)).setCell ⟨sb, 0, none⟩ (.map (some w.heap.size)))) := hide ((Touch.of_below b1).trans (tsb.mono (fun k hk => by rw [hk]; exact (unhide H).hb)))
  have W1 : Hid (Wide ((w.alloc (.map #[] 0)).setCell ⟨sb, 0, none⟩ (.map (some w.heap.size))) 29 6 (.slice (some ⟨g, 0, none⟩) 1 c) 1 [.int .i64 2, .int .i64 1, .int .i64 gen, .slice a 0 k, .int .i64 0, .int .i64 off]) := hide (((unhide HW).later b1).keep tsb (fun q hq e => by
      obtain ⟨cs, h1⟩ := (unhide HW).heap hq
      rw [e, (unhide H).obj] at h1
      exact absurd (Obj.cells.inj (Option.some.inj h1)).2.1 (by decide)))
  clear y0 y2 f0 f2 hmm b1 tsb hsb hob hm2 hm1 H HW
  generalize (w.alloc (.map #[] 0)).setCell ⟨sb, 0, none⟩ (.map (some w.heap.size)) = w1 at *
  have HB1 : Hid (B ≤ w1.heap.size) := hide (Nat.le_trans (unhide HB) (unhide T1).size)
  generalize w.heap.size = mb at *
  go_wp2_with fail
  go_loopw [18] (fun iv wr => (iv = .int .i64 0 ∧ wr = w1) ∨ (iv = .int .i64 1 ∧ Hid (HdP B w sb mv2 m1 W 0 off (.returned (.tuple #[])) wr))) (fun iv _ => 1 - (intOf iv).toNat)
  case atStart => exact .inl ⟨rfl, rfl⟩
  case round =>
    rcases hrel with ⟨rfl, rfl⟩ | ⟨rfl, hh⟩
    · obtain ⟨a', cap, ev, _, _, _, _, hc⟩ := (unhide W1).parts
      obtain ⟨g', ea, _, hcell, _⟩ := hc (by omega)
      injection ev with e1 e2 e3
      rw [ea] at e1
      cases e1
      have z0 := hcell 0 (by omega)
      have z1 := hcell 1 (by omega)
      have z2 := hcell 2 (by omega)
      have z3 := hcell 3 (by omega)
      have z4 := hcell 4 (by omega)
      have z5 := hcell 5 (by omega)
      simp only [List.getElem?_cons_zero, List.getElem?_cons_succ] at z0 z1 z2 z3 z4 z5
      clear hcell hc ea e2 e3
      go_upto_region 5 with fail
      have b2 := (Below.refl wr.heap.size wr).alloc (Nat.le_refl _) (.cells #[.int .i64 2, .int .i64 1, .int .i64 gen, .slice a 0 k, .int .i64 0, .int .i64 off] 29)
      have HX := hide (heap_new wr (.cells #[.int .i64 2, .int .i64 1, .int .i64 gen, .slice a 0 k, .int .i64 0, .int .i64 off] 29))
      have H2 := hide ((unhide H1).later b2)
      have T2 := hide ((unhide T1).trans (Touch.of_below b2))
      have HXB : Hid (B ≤ wr.heap.size) := HB1
      clear b2 H1 W1 T1 z0 z1 z2 z3 z4 z5
      change Code.wp _ _ _ _ (wr.alloc (.cells #[.int .i64 2, .int .i64 1, .int .i64 gen, .slice a 0 k, .int .i64 0, .int .i64 off] 29))
      generalize wr.alloc (.cells #[.int .i64 2, .int .i64 1, .int .i64 gen, .slice a 0 k, .int .i64 0, .int .i64 off] 29) = w2 at *
      generalize wr.heap.size = xb at *
      obtain ⟨T, hT⟩ : ∃ T, T = tOf m1 := ⟨_, rfl⟩
      have HT := hide hT
      clear hT
      have LK : Hid (∀ W, Below w2.heap.size w2 W → (Instr.lookup 49 (.map (some mb)) (.int .i64 1) false).run Try.prog W = .ok (tmV T) W) := hide (fun W hb => by
        have := (((unhide H2).later hb).map1 rfl).1.look1 (M := gK) (s := 1) wf_one
        rw [unhide HT]
        exact this)
      obtain ⟨tg, tgb, tn, tc, o0, o1, o2, o3⟩ := T
      unfold tmV tmC at LK
      simp only at LK
      generalize hsa : Option.map (fun g => (⟨g, 0, none⟩ : Addr)) tgb = sa at *
      have HSA := hide hsa
      clear hsa
      have SK : Hid (∀ W, Below w2.heap.size w2 W → W.cell? ⟨sb, 0, none⟩ = some (.map (some mb)) ∧ W.cell? ⟨xb, 1, none⟩ = some (.int .i64 1) ∧ (Instr.lookup 49 (.map (some mb)) (.int .i64 1) false).run Try.prog W = .ok (.agg #[.int .i64 tg, .slice sa tn tc, .int .i64 o0, .int .i64 o1, .int .i64 o2, .int .i64 o3]) W) := hide (fun W hb => ⟨cell_of (below_keep hb (unhide H2).obj) 0, cell_of (below_keep hb (unhide HX)) 1, unhide LK W hb⟩)
      clear LK
      refine wp_region_held_drew (S := fun w' => Below w2.heap.size w2 w') (by kernel_rfl) ((Below.refl _ _).drew) (fun hHeld => ?_)
      refine take17 (i := 0) (d := 22) (v := .pointer (some ⟨sb, 0, none⟩)) rfl rfl (by kernel_rfl) (by kernel_rfl) (by kernel_rfl) (fun _ _ _ h => h) (Or.inl ⟨by rfl, by intro w' hSw; (try dsimp only at hSw); go_simp⟩) (by assumption) ?_; (try simp only [List.setIfInBounds_toArray, List.set_cons_zero, List.set_cons_succ])
      refine take17 (i := 1) (d := 23) (v := .pointer (some ⟨sb, 0, none⟩)) rfl rfl (by kernel_rfl) (by kernel_rfl) (by kernel_rfl) (fun _ _ _ h => h) (Or.inl ⟨by rfl, by intro w' hSw; (try dsimp only at hSw); go_simp⟩) (by assumption) ?_; (try simp only [List.setIfInBounds_toArray, List.set_cons_zero, List.set_cons_succ])
      refine take17 (i := 2) (d := 24) (v := .pointer (some ⟨sb, 0, none⟩)) rfl rfl (by kernel_rfl) (by kernel_rfl) (by kernel_rfl) (fun _ _ _ h => h) (Or.inl ⟨by rfl, by intro w' hSw; (try dsimp only at hSw); go_simp⟩) (by assumption) ?_; (try simp only [List.setIfInBounds_toArray, List.set_cons_zero, List.set_cons_succ])
      refine take17 (i := 3) (d := 25) (v := .map (some mb)) rfl rfl (by kernel_rfl) (by kernel_rfl) (by kernel_rfl) (fun _ _ _ h => h) (Or.inl ⟨by rfl, by intro w' hSw; (try dsimp only at hSw); obtain ⟨s0, s1, sl⟩ := unhide SK w' hSw; go_simp⟩) (by assumption) ?_; (try simp only [List.setIfInBounds_toArray, List.set_cons_zero, List.set_cons_succ])
      refine take17 (i := 4) (d := 26) (v := .pointer (some ⟨xb, 1, none⟩)) rfl rfl (by kernel_rfl) (by kernel_rfl) (by kernel_rfl) (fun _ _ _ h => h) (Or.inl ⟨by rfl, by intro w' hSw; (try dsimp only at hSw); go_simp⟩) (by assumption) ?_; (try simp only [List.setIfInBounds_toArray, List.set_cons_zero, List.set_cons_succ])
      refine take17 (i := 5) (d := 27) (v := .int .i64 1) rfl rfl (by kernel_rfl) (by kernel_rfl) (by kernel_rfl) (fun _ _ _ h => h) (Or.inl ⟨by rfl, by intro w' hSw; (try dsimp only at hSw); obtain ⟨s0, s1, sl⟩ := unhide SK w' hSw; go_simp⟩) (by assumption) ?_; (try simp only [List.setIfInBounds_toArray, List.set_cons_zero, List.set_cons_succ])
      refine take17 (i := 6) (d := 28) (v := .agg #[.int .i64 tg, .slice sa tn tc, .int .i64 o0, .int .i64 o1, .int .i64 o2, .int .i64 o3]) rfl rfl (by kernel_rfl) (by kernel_rfl) (by kernel_rfl) (fun _ _ _ h => h) (Or.inl ⟨by rfl, by intro w' hSw; (try dsimp only at hSw); obtain ⟨s0, s1, sl⟩ := unhide SK w' hSw; go_simp⟩) (by assumption) ?_; (try simp only [List.setIfInBounds_toArray, List.set_cons_zero, List.set_cons_succ])
      refine wpAnyH_ready (rs := [7]) (by kernel_rfl) (by simp) ?_
      refine AllReadyH.cons rfl (fun K hK => ?_) AllReadyH.nil
      go_simp
      have b3 : Below w2.heap.size w2 (w2.drew.alloc (.cells #[.int .i64 0, .slice none 0 0, .int .i64 0, .int .i64 0, .int .i64 0, .int .i64 0] 61)) := ((Below.refl _ _).drew).alloc (Nat.le_refl _) _
      have HTB := hide (heap_new w2.drew (.cells #[.int .i64 0, .slice none 0 0, .int .i64 0, .int .i64 0, .int .i64 0, .int .i64 0] 61))
      have HB3 := hide b3
      refine hK.out _ _ b3 (fun hHeld => ?_)
      clear hK K b3
      (try simp only [Act.put, List.setIfInBounds_toArray, List.set_cons_zero, List.set_cons_succ])
      change wpAnyH _ _ _ _ _ _ _ _ (w2.drew.alloc (.cells #[.int .i64 0, .slice none 0 0, .int .i64 0, .int .i64 0, .int .i64 0, .int .i64 0] 61))
      have hdz : w2.drew.heap.size = w2.heap.size := rfl
      rw [hdz] at HTB
      clear hdz
      generalize w2.drew.alloc (.cells #[.int .i64 0, .slice none 0 0, .int .i64 0, .int .i64 0, .int .i64 0, .int .i64 0] 61) = w3 at *
      refine wpAnyH_ready (rs := [8]) (by kernel_rfl) (by simp) ?_
      refine AllReadyH.cons rfl (fun K hK => ?_) AllReadyH.nil
      rw [if_pos (by rfl)]
      obtain ⟨q1, q2⟩ := heap_setCells [.int .i64 tg, .slice sa tn tc, .int .i64 o0, .int .i64 o1, .int .i64 o2, .int .i64 o3] 0 w3 _ (unhide HTB)
      have HTB4 : Hid ((w3.setCells w2.heap.size 0 [.int .i64 tg, .slice sa tn tc, .int .i64 o0, .int .i64 o1, .int .i64 o2, .int .i64 o3]).heap[w2.heap.size]? = some (.cells #[.int .i64 tg, .slice sa tn tc, .int .i64 o0, .int .i64 o1, .int .i64 o2, .int .i64 o3] 61)) := hide q1
      have HB4 := hide (below_touch (unhide HB3) q2 (unhide HB3).size (fun k hk => by omega))
      refine wp_store_mid 61 (.tmp 6) (.tmp 28) rfl w2.heap.size 0 #[.int .i64 tg, .slice sa tn tc, .int .i64 o0, .int .i64 o1, .int .i64 o2, .int .i64 o3] rfl rfl (there_of (unhide HTB) (by show 0 + 6 ≤ 6; decide)) (by kernel_rfl) (by simp [Value.oneCell']) ?_
      refine hK.out _ _ (unhide HB4) (fun hHeld => ?_)
      clear hK K q1 q2 HTB HB3
      (try simp only [Act.put, List.setIfInBounds_toArray])
      change wpAnyH _ _ _ _ _ _ _ _ (w3.setCells w2.heap.size 0 [.int .i64 tg, .slice sa tn tc, .int .i64 o0, .int .i64 o1, .int .i64 o2, .int .i64 o3])
      generalize w3.setCells w2.heap.size 0 [.int .i64 tg, .slice sa tn tc, .int .i64 o0, .int .i64 o1, .int .i64 o2, .int .i64 o3] = w4 at *
      refine wpAnyH_done (by kernel_rfl) ?_ _
      have H4 := hide ((unhide H2).later (unhide HB4))
      have HX4 := hide (below_keep (unhide HB4) (unhide HX))
      have T4 := hide ((unhide T2).trans (Touch.of_below (unhide HB4)))
      have HW2 : Hid (B ≤ w2.heap.size) := hide (Nat.le_trans (unhide HXB) (Nat.le_of_lt (lt_of_heap (unhide HX))))
      have HXT : Hid (xb ≠ w2.heap.size) := hide (by have := lt_of_heap (unhide HX); omega)
      have HST : Hid (∀ q, Own3 sb (.map (some mb)) mv2 q → q ≠ w2.heap.size) := hide (fun q hq e => (unhide H4).apart (e ▸ unhide HTB4) (by decide) hq)
      clear hHeld SK H2 HX T2 HB4
      generalize w2.heap.size = tb at *
      have x0 := cell_of (unhide HX4) 0
      simp at x0
      go_upto_region 7 with fail
      clear x0
      have hd5 : Below w4.heap.size w4 w4.drew := (Below.refl _ _).drew
      have H5 := hide ((unhide H4).later hd5)
      have HX5 := hide (below_keep hd5 (unhide HX4))
      have HTB5 := hide (below_keep hd5 (unhide HTB4))
      have T5 := hide ((unhide T4).drew)
      clear H4 HX4 HTB4 T4
      refine wp_region_held_drew (S := fun w' => w'.heap[xb]? = some (.cells #[.int .i64 2, .int .i64 1, .int .i64 gen, .slice a 0 k, .int .i64 0, .int .i64 off] 29)) (by kernel_rfl) (unhide HX5) (fun hHeld => ?_)
      generalize w4.drew = w5 at *
      clear hd5
      refine take17 (i := 0) (d := 33) (v := .pointer (some ⟨xb, 4, none⟩)) rfl rfl (by kernel_rfl) (by kernel_rfl) (by kernel_rfl) (fun _ _ _ h => h) (Or.inl ⟨by rfl, by intro w' hSw; (try dsimp only at hSw); go_simp⟩) (by assumption) ?_; (try simp only [List.setIfInBounds_toArray, List.set_cons_zero, List.set_cons_succ])
      refine take17 (i := 1) (d := 34) (v := .int .i64 0) rfl rfl (by kernel_rfl) (by kernel_rfl) (by kernel_rfl) (fun _ _ _ h => h) (Or.inl ⟨by rfl, by intro w' hSw; (try dsimp only at hSw); have y4 := cell_of hSw 4; simp at y4; go_simp⟩) (by assumption) ?_; (try simp only [List.setIfInBounds_toArray, List.set_cons_zero, List.set_cons_succ])
      refine take17 (i := 2) (d := 35) (v := .pointer (some ⟨xb, 4, none⟩)) rfl rfl (by kernel_rfl) (by kernel_rfl) (by kernel_rfl) (fun _ _ _ h => h) (Or.inl ⟨by rfl, by intro w' hSw; (try dsimp only at hSw); go_simp⟩) (by assumption) ?_; (try simp only [List.setIfInBounds_toArray, List.set_cons_zero, List.set_cons_succ])
      refine take17 (i := 3) (d := 36) (v := .int .i64 0) rfl rfl (by kernel_rfl) (by kernel_rfl) (by kernel_rfl) (fun _ _ _ h => h) (Or.inl ⟨by rfl, by intro w' hSw; (try dsimp only at hSw); have y4 := cell_of hSw 4; simp at y4; go_simp⟩) (by assumption) ?_; (try simp only [List.setIfInBounds_toArray, List.set_cons_zero, List.set_cons_succ])
      refine take17 (i := 4) (d := 37) (v := .pointer (some ⟨tb, 2, none⟩)) rfl rfl (by kernel_rfl) (by kernel_rfl) (by kernel_rfl) (fun _ _ _ h => h) (Or.inl ⟨by rfl, by intro w' hSw; (try dsimp only at hSw); go_simp⟩) (by assumption) ?_; (try simp only [List.setIfInBounds_toArray, List.set_cons_zero, List.set_cons_succ])
      refine take17 (i := 5) (d := 38) (v := .pointer (some ⟨tb, 2, none⟩)) rfl rfl (by kernel_rfl) (by kernel_rfl) (by kernel_rfl) (fun _ _ _ h => h) (Or.inl ⟨by rfl, by intro w' hSw; (try dsimp only at hSw); go_simp⟩) (by assumption) ?_; (try simp only [List.setIfInBounds_toArray, List.set_cons_zero, List.set_cons_succ])
      refine take17 (i := 7) (d := 40) (v := .pointer (some ⟨xb, 5, none⟩)) rfl rfl (by kernel_rfl) (by kernel_rfl) (by kernel_rfl) (fun _ _ _ h => h) (Or.inl ⟨by rfl, by intro w' hSw; (try dsimp only at hSw); go_simp⟩) (by assumption) ?_; (try simp only [List.setIfInBounds_toArray, List.set_cons_zero, List.set_cons_succ])
      refine take17 (i := 8) (d := 41) (v := .int .i64 off) rfl rfl (by kernel_rfl) (by kernel_rfl) (by kernel_rfl) (fun _ _ _ h => h) (Or.inl ⟨by rfl, by intro w' hSw; (try dsimp only at hSw); have y5 := cell_of hSw 5; simp at y5; go_simp⟩) (by assumption) ?_; (try simp only [List.setIfInBounds_toArray, List.set_cons_zero, List.set_cons_succ])
      refine take17 (i := 10) (d := 43) (v := .pointer (some ⟨tb, 2, none⟩)) rfl rfl (by kernel_rfl) (by kernel_rfl) (by kernel_rfl) (fun _ _ _ h => h) (Or.inl ⟨by rfl, by intro w' hSw; (try dsimp only at hSw); go_simp⟩) (by assumption) ?_; (try simp only [List.setIfInBounds_toArray, List.set_cons_zero, List.set_cons_succ])
      have zt : w5.cell? ⟨tb, 2, none⟩ = some (.int .i64 o0) := cell_of (unhide HTB5) 2
      refine wpAnyH_ready (rs := [6]) (by kernel_rfl) (by simp) ?_
      refine AllReadyH.cons rfl (fun K hK => ?_) AllReadyH.nil
      go_simp
      refine hK.out _ _ (by assumption) (fun hHeld => ?_)
      clear hK K
      (try simp only [Act.put, List.setIfInBounds_toArray, List.set_cons_zero, List.set_cons_succ])
      refine take17 (i := 9) (d := 42) (v := .int .i64 (max o0 off)) rfl rfl (by kernel_rfl) (by kernel_rfl) (by kernel_rfl) (fun _ _ _ h => h) (Or.inl ⟨by rfl, by intro w' hSw; (try dsimp only at hSw); go_simp⟩) (by assumption) ?_; (try simp only [List.setIfInBounds_toArray, List.set_cons_zero, List.set_cons_succ])
      refine take17 (i := 11) (d := 44) (v := .pointer (some ⟨tb, 2, none⟩)) rfl rfl (by kernel_rfl) (by kernel_rfl) (by kernel_rfl) (fun _ _ _ h => h) (Or.inl ⟨by rfl, by intro w' hSw; (try dsimp only at hSw); go_simp⟩) (by assumption) ?_; (try simp only [List.setIfInBounds_toArray, List.set_cons_zero, List.set_cons_succ])
      have ft : w5.frozen? ⟨tb, 2, none⟩ = false := frozen_of (unhide HTB5) 2
      have tt := touch_set w5 tb 2 (.int .i64 (max o0 off))
      have HTB6 := hide (heap_set (unhide HTB5) 2 (.int .i64 (max o0 off)))
      have HX6 := hide (tt.keep (unhide HX5) (unhide HXT))
      have H6 := hide ((unhide H5).keep tt (unhide HST))
      have T6 := hide ((unhide T5).trans (tt.mono (fun q hq => by rw [hq]; exact unhide HW2)))
      clear tt HTB5 HX5 H5 T5
      refine wpAnyH_ready (rs := [12]) (by kernel_rfl) (by simp) ?_
      refine AllReadyH.cons rfl (fun K hK => ?_) AllReadyH.nil
      go_simp
      refine hK.out _ _ (unhide HX6) (fun hHeld => ?_)
      clear hK K zt ft
      (try simp only [Act.put, List.setIfInBounds_toArray])
      generalize w5.setCell ⟨tb, 2, none⟩ (.int .i64 (max o0 off)) = w6 at *
      refine wpAnyH_done (by kernel_rfl) ?_ _
      clear hHeld
      go_upto_region 10 with fail
      have hd7 : Below w6.heap.size w6 w6.drew := (Below.refl _ _).drew
      have H7 := hide ((unhide H6).later hd7)
      have HX7 := hide (below_keep hd7 (unhide HX6))
      have HTB7 := hide (below_keep hd7 (unhide HTB6))
      have T7 := hide ((unhide T6).drew)
      clear H6 HX6 HTB6 T6
      obtain ⟨w8, hst, hm8, ht8⟩ := ((unhide H7).map1 rfl).1.store (M := gK) (s := 1) (by rcases (unhide H7).few with e | ⟨t, e⟩ <;> rw [e] <;> (show _ < maxLen; unfold maxLen; simp)) wf_one ⟨tg, tgb, tn, tc, (max o0 off), o1, o2, o3⟩
      have hst' : (Instr.mapUpdate 49 (.map (some mb)) (.int .i64 1) (.agg #[.int .i64 tg, .slice sa tn tc, .int .i64 (max o0 off), .int .i64 o1, .int .i64 o2, .int .i64 o3])).run Try.prog w6.drew = .ok () w8 := by
        rw [← unhide HSA]
        exact hst
      have nsb : sb ≠ mb := fun e => by
        obtain ⟨es, ck, h1⟩ := ((unhide H7).map1 rfl).1.block
        rw [← e, (unhide H7).obj] at h1
        cases h1
      have nxb : xb ≠ mb := fun e => by
        obtain ⟨es, ck, h1⟩ := ((unhide H7).map1 rfl).1.block
        rw [← e, unhide HX7] at h1
        cases h1
      have ntb : tb ≠ mb := fun e => by
        obtain ⟨es, ck, h1⟩ := ((unhide H7).map1 rfl).1.block
        rw [← e, unhide HTB7] at h1
        cases h1
      have F8 : Hid (HdP B w sb mv2 m1 W 0 off (.returned (.tuple #[])) w8) := hide ⟨rfl, mb, (1, ⟨tg, tgb, tn, tc, (max o0 off), o1, o2, o3⟩) :: mdel m1 1, ⟨ht8.keep (unhide H7).obj nsb, .inr ⟨mb, rfl, hm8, ((unhide H7).map1 rfl).2⟩, by
        rcases (unhide H7).wt with ⟨e, e2⟩ | ⟨b, e, m, hb⟩
        · exact .inl ⟨e, e2⟩
        · exact .inr ⟨b, e, m.keep ht8 (fun e2 => (unhide H7).ne mb rfl (by rw [e, e2])), hb⟩, (unhide H7).ne, .inr ⟨_, by rw [mdel_few (unhide H7).few]⟩, (unhide H7).hb⟩, by
        rw [← unhide HT]
        simp [tOf, matx, mgot, tPut], (unhide T7).trans (ht8.mono (fun q hq => by rw [hq]; exact ((unhide H7).map1 rfl).2))⟩
      have S8 : Hid (w8.cell? ⟨sb, 0, none⟩ = some (.map (some mb)) ∧ w8.heap[xb]? = some (.cells #[.int .i64 2, .int .i64 1, .int .i64 gen, .slice a 0 k, .int .i64 0, .int .i64 off] 29) ∧ w8.heap[tb]? = some (.cells #[.int .i64 tg, .slice sa tn tc, .int .i64 (max o0 off), .int .i64 o1, .int .i64 o2, .int .i64 o3] 61)) := hide ⟨cell_of (ht8.keep (unhide H7).obj nsb) 0, ht8.keep (unhide HX7) nxb, ht8.keep (unhide HTB7) ntb⟩
      have S7 : Hid (w6.drew.cell? ⟨sb, 0, none⟩ = some (.map (some mb)) ∧ w6.drew.heap[xb]? = some (.cells #[.int .i64 2, .int .i64 1, .int .i64 gen, .slice a 0 k, .int .i64 0, .int .i64 off] 29) ∧ w6.drew.heap[tb]? = some (.cells #[.int .i64 tg, .slice sa tn tc, .int .i64 (max o0 off), .int .i64 o1, .int .i64 o2, .int .i64 o3] 61)) := hide ⟨cell_of (unhide H7).obj 0, unhide HX7, unhide HTB7⟩
      clear hst hm8 ht8 nsb nxb ntb H7 HX7 HTB7 T7 hd7
      refine wp_region_held_drew (S := fun w' => w'.cell? ⟨sb, 0, none⟩ = some (.map (some mb)) ∧ w'.heap[xb]? = some (.cells #[.int .i64 2, .int .i64 1, .int .i64 gen, .slice a 0 k, .int .i64 0, .int .i64 off] 29) ∧ w'.heap[tb]? = some (.cells #[.int .i64 tg, .slice sa tn tc, .int .i64 (max o0 off), .int .i64 o1, .int .i64 o2, .int .i64 o3] 61)) (by kernel_rfl) (unhide S7) (fun hHeld => ?_)
      clear S7
      generalize w6.drew = w7 at *
      refine take17 (i := 0) (d := 57) (v := .pointer (some ⟨sb, 0, none⟩)) rfl rfl (by kernel_rfl) (by kernel_rfl) (by kernel_rfl) (fun _ _ _ h => h) (Or.inl ⟨by rfl, by intro w' hSw; (try dsimp only at hSw); go_simp⟩) (by assumption) ?_; (try simp only [List.setIfInBounds_toArray, List.set_cons_zero, List.set_cons_succ])
      refine take17 (i := 1) (d := 58) (v := .pointer (some ⟨sb, 0, none⟩)) rfl rfl (by kernel_rfl) (by kernel_rfl) (by kernel_rfl) (fun _ _ _ h => h) (Or.inl ⟨by rfl, by intro w' hSw; (try dsimp only at hSw); go_simp⟩) (by assumption) ?_; (try simp only [List.setIfInBounds_toArray, List.set_cons_zero, List.set_cons_succ])
      refine take17 (i := 2) (d := 59) (v := .pointer (some ⟨sb, 0, none⟩)) rfl rfl (by kernel_rfl) (by kernel_rfl) (by kernel_rfl) (fun _ _ _ h => h) (Or.inl ⟨by rfl, by intro w' hSw; (try dsimp only at hSw); go_simp⟩) (by assumption) ?_; (try simp only [List.setIfInBounds_toArray, List.set_cons_zero, List.set_cons_succ])
      refine take17 (i := 3) (d := 60) (v := .map (some mb)) rfl rfl (by kernel_rfl) (by kernel_rfl) (by kernel_rfl) (fun _ _ _ h => h) (Or.inl ⟨by rfl, by intro w' hSw; (try dsimp only at hSw); obtain ⟨s0, s1, s2⟩ := hSw; go_simp⟩) (by assumption) ?_; (try simp only [List.setIfInBounds_toArray, List.set_cons_zero, List.set_cons_succ])
      refine take17 (i := 4) (d := 61) (v := .pointer (some ⟨xb, 1, none⟩)) rfl rfl (by kernel_rfl) (by kernel_rfl) (by kernel_rfl) (fun _ _ _ h => h) (Or.inl ⟨by rfl, by intro w' hSw; (try dsimp only at hSw); go_simp⟩) (by assumption) ?_; (try simp only [List.setIfInBounds_toArray, List.set_cons_zero, List.set_cons_succ])
      refine take17 (i := 5) (d := 62) (v := .int .i64 1) rfl rfl (by kernel_rfl) (by kernel_rfl) (by kernel_rfl) (fun _ _ _ h => h) (Or.inl ⟨by rfl, by intro w' hSw; (try dsimp only at hSw); obtain ⟨s0, s1, s2⟩ := hSw; have y1 := cell_of s1 1; simp at y1; go_simp⟩) (by assumption) ?_; (try simp only [List.setIfInBounds_toArray, List.set_cons_zero, List.set_cons_succ])
      refine take17 (i := 6) (d := 63) (v := .agg #[.int .i64 tg, .slice sa tn tc, .int .i64 (max o0 off), .int .i64 o1, .int .i64 o2, .int .i64 o3]) rfl rfl (by kernel_rfl) (by kernel_rfl) (by kernel_rfl) (fun _ _ _ h => h) (Or.inl ⟨by rfl, by intro w' hSw; (try dsimp only at hSw); obtain ⟨s0, s1, s2⟩ := hSw; have q0 := cell_of s2 0; have q1 := cell_of s2 1; have q2 := cell_of s2 2; have q3 := cell_of s2 3; have q4 := cell_of s2 4; have q5 := cell_of s2 5; simp at q0 q1 q2 q3 q4 q5; go_simp⟩) (by assumption) ?_; (try simp only [List.setIfInBounds_toArray, List.set_cons_zero, List.set_cons_succ])
      refine wpAnyH_ready (rs := [7]) (by kernel_rfl) (by simp) ?_
      refine AllReadyH.cons rfl (fun K hK => ?_) AllReadyH.nil
      go_simp
      refine hK.out _ _ (unhide S8) (fun hHeld => ?_)
      clear hK K
      (try simp only [Act.put, List.setIfInBounds_toArray])
      refine wpAnyH_done (by kernel_rfl) ?_ _
      clear hHeld hst'
      go_wp2
      go_roundw
      case rel => exact .inr ⟨by go_num, F8⟩
      case measure => simp [intOf]
    · go_wp2
      go_returns
      exact unhide hh
set_option maxRecDepth 100000 in
set_option maxHeartbeats 8000000 in
theorem hold_none1 {B : Nat} {w : World} {sb : Nat} {mv2 : Value} {m1 : List (Int × Tm)} {W : List (Int × Sl)} {gen off : Int} {v : Value} (h : GS B w sb (.map none) mv2 m1 W) (hv : OneR B w v ⟨2, 1, gen, [], 1, off⟩) (hB : B ≤ w.heap.size) :
    Calls Try.prog 18 #[.pointer (some ⟨sb, 0, none⟩), v] w fun e w' => HdP B w sb mv2 m1 W 1 off e w' := by
  obtain ⟨g, c, a, k, rfl, hw, _, hg⟩ := hv
  have y0 : w.cell? ⟨sb, 0, none⟩ = some (.map none) := cell_of h.obj 0
  have f0 : w.frozen? ⟨sb, 0, none⟩ = false := frozen_of h.obj 0
  have y2 : (w.alloc (.map #[] 0)).cell? ⟨sb, 0, none⟩ = some (.map none) := cell_of (heap_old _ h.obj) 0
  have f2 : (w.alloc (.map #[] 0)).frozen? ⟨sb, 0, none⟩ = false := frozen_of (heap_old _ h.obj) 0
  have hmm := @run_makeMap Try.prog
  have H := hide h
  have HW := hide hw
  have HG := hide hg
  have HB := hide hB
  have hq : ∀ (W : World) (b : Nat), (binOp .eql 49 (.map (some b)) (.map none)).run Try.prog W = .ok (.bool false) W := fun _ _ => by kernel_rfl
  have hq0 : ∀ (W : World), (binOp .eql 49 (.map none) (.map none)).run Try.prog W = .ok (.bool true) W := fun _ => by kernel_rfl
  clear h hw hg hB
  go_enter Try.func18, Try.ntmps18
  go_upto_region 2 with fail
  have b1 := (Below.refl w.heap.size w).alloc (Nat.le_refl _) (.map #[] 0)
  have tsb := touch_set (w.alloc (.map #[] 0)) sb 0 (.map (some w.heap.size))
  have hsb := lt_of_heap (unhide H).obj
  have hob := heap_set (heap_old (.map #[] 0) (unhide H).obj) 0 (.map (some w.heap.size))
  have hm2 : ∀ b, mv2 = .map (some b) → b < w.heap.size ∧ b ≠ sb := fun b e => ⟨((unhide H).map2 e).1.lt, fun e2 => by
    obtain ⟨es, ck, h1⟩ := ((unhide H).map2 e).1.block
    rw [e2, (unhide H).obj] at h1
    cases h1⟩
  have hm1 : m1 = [] := by
    rcases (unhide H).g with ⟨_, e⟩ | ⟨b, e, _⟩
    · exact e
    · cases e
  have H1 : Hid (GS B ((w.alloc (.map #[] 0)).setCell ⟨sb, 0, none⟩ (.map (some w.heap.size))) sb (.map (some w.heap.size)) mv2 m1 W) := hide ⟨hob, .inr ⟨w.heap.size, rfl, by rw [hm1]; exact (MM.made gK w).keep tsb (fun h => by omega), unhide HB⟩, by
      rcases (unhide H).wt with ⟨e, e2⟩ | ⟨b, e, m, hb⟩
      · exact .inl ⟨e, e2⟩
      · exact .inr ⟨b, e, (m.keep (Touch.of_below (S := fun _ => False) b1) (fun h => h)).keep tsb (fun h => (hm2 b e).2 h), hb⟩, fun b e e2 => by
      have := (hm2 b e2).1
      injection e with e3
      injection e3 with e4
      omega, (unhide H).few, (unhide H).hb⟩
  have T1 : Hid (Touch (fun k => B ≤ k) w ((w.alloc (.map #[] 0)).setCell ⟨sb, 0, none⟩ (.map (some w.heap.size)))) := hide ((Touch.of_below b1).trans (tsb.mono (fun k hk => by rw [hk]; exact (unhide H).hb)))
  have W1 : Hid (Wide ((w.alloc (.map #[] 0)).setCell ⟨sb, 0, none⟩ (.map (some w.heap.size))) 29 6 (.slice (some ⟨g, 0, none⟩) 1 c) 1 [.int .i64 2, .int .i64 1, .int .i64 gen, .slice a 0 k, .int .i64 1, .int .i64 off]) := hide (((unhide HW).later b1).keep tsb (fun q hq e => by
      obtain ⟨cs, h1⟩ := (unhide HW).heap hq
      rw [e, (unhide H).obj] at h1
      exact absurd (Obj.cells.inj (Option.some.inj h1)).2.1 (by decide)))
  clear y0 y2 f0 f2 hmm b1 tsb hsb hob hm2 hm1 H HW
  generalize (w.alloc (.map #[] 0)).setCell ⟨sb, 0, none⟩ (.map (some w.heap.size)) = w1 at *
  have HB1 : Hid (B ≤ w1.heap.size) := hide (Nat.le_trans (unhide HB) (unhide T1).size)
  generalize w.heap.size = mb at *
  go_wp2_with fail
  go_loopw [18] (fun iv wr => (iv = .int .i64 0 ∧ wr = w1) ∨ (iv = .int .i64 1 ∧ Hid (HdP B w sb mv2 m1 W 1 off (.returned (.tuple #[])) wr))) (fun iv _ => 1 - (intOf iv).toNat)
  case atStart => exact .inl ⟨rfl, rfl⟩
  case round =>
    rcases hrel with ⟨rfl, rfl⟩ | ⟨rfl, hh⟩
    · obtain ⟨a', cap, ev, _, _, _, _, hc⟩ := (unhide W1).parts
      obtain ⟨g', ea, _, hcell, _⟩ := hc (by omega)
      injection ev with e1 e2 e3
      rw [ea] at e1
      cases e1
      have z0 := hcell 0 (by omega)
      have z1 := hcell 1 (by omega)
      have z2 := hcell 2 (by omega)
      have z3 := hcell 3 (by omega)
      have z4 := hcell 4 (by omega)
      have z5 := hcell 5 (by omega)
      simp only [List.getElem?_cons_zero, List.getElem?_cons_succ] at z0 z1 z2 z3 z4 z5
      clear hcell hc ea e2 e3
      go_upto_region 5 with fail
      have b2 := (Below.refl wr.heap.size wr).alloc (Nat.le_refl _) (.cells #[.int .i64 2, .int .i64 1, .int .i64 gen, .slice a 0 k, .int .i64 1, .int .i64 off] 29)
      have HX := hide (heap_new wr (.cells #[.int .i64 2, .int .i64 1, .int .i64 gen, .slice a 0 k, .int .i64 1, .int .i64 off] 29))
      have H2 := hide ((unhide H1).later b2)
      have T2 := hide ((unhide T1).trans (Touch.of_below b2))
      have HXB : Hid (B ≤ wr.heap.size) := HB1
      clear b2 H1 W1 T1 z0 z1 z2 z3 z4 z5
      change Code.wp _ _ _ _ (wr.alloc (.cells #[.int .i64 2, .int .i64 1, .int .i64 gen, .slice a 0 k, .int .i64 1, .int .i64 off] 29))
      generalize wr.alloc (.cells #[.int .i64 2, .int .i64 1, .int .i64 gen, .slice a 0 k, .int .i64 1, .int .i64 off] 29) = w2 at *
      generalize wr.heap.size = xb at *
      obtain ⟨T, hT⟩ : ∃ T, T = tOf m1 := ⟨_, rfl⟩
      have HT := hide hT
      clear hT
      have LK : Hid (∀ W, Below w2.heap.size w2 W → (Instr.lookup 49 (.map (some mb)) (.int .i64 1) false).run Try.prog W = .ok (tmV T) W) := hide (fun W hb => by
        have := (((unhide H2).later hb).map1 rfl).1.look1 (M := gK) (s := 1) wf_one
        rw [unhide HT]
        exact this)
      obtain ⟨tg, tgb, tn, tc, o0, o1, o2, o3⟩ := T
      unfold tmV tmC at LK
      simp only at LK
      generalize hsa : Option.map (fun g => (⟨g, 0, none⟩ : Addr)) tgb = sa at *
      have HSA := hide hsa
      clear hsa
      have SK : Hid (∀ W, Below w2.heap.size w2 W → W.cell? ⟨sb, 0, none⟩ = some (.map (some mb)) ∧ W.cell? ⟨xb, 1, none⟩ = some (.int .i64 1) ∧ (Instr.lookup 49 (.map (some mb)) (.int .i64 1) false).run Try.prog W = .ok (.agg #[.int .i64 tg, .slice sa tn tc, .int .i64 o0, .int .i64 o1, .int .i64 o2, .int .i64 o3]) W) := hide (fun W hb => ⟨cell_of (below_keep hb (unhide H2).obj) 0, cell_of (below_keep hb (unhide HX)) 1, unhide LK W hb⟩)
      clear LK
      refine wp_region_held_drew (S := fun w' => Below w2.heap.size w2 w') (by kernel_rfl) ((Below.refl _ _).drew) (fun hHeld => ?_)
      refine take17 (i := 0) (d := 22) (v := .pointer (some ⟨sb, 0, none⟩)) rfl rfl (by kernel_rfl) (by kernel_rfl) (by kernel_rfl) (fun _ _ _ h => h) (Or.inl ⟨by rfl, by intro w' hSw; (try dsimp only at hSw); go_simp⟩) (by assumption) ?_; (try simp only [List.setIfInBounds_toArray, List.set_cons_zero, List.set_cons_succ])
      refine take17 (i := 1) (d := 23) (v := .pointer (some ⟨sb, 0, none⟩)) rfl rfl (by kernel_rfl) (by kernel_rfl) (by kernel_rfl) (fun _ _ _ h => h) (Or.inl ⟨by rfl, by intro w' hSw; (try dsimp only at hSw); go_simp⟩) (by assumption) ?_; (try simp only [List.setIfInBounds_toArray, List.set_cons_zero, List.set_cons_succ])
      refine take17 (i := 2) (d := 24) (v := .pointer (some ⟨sb, 0, none⟩)) rfl rfl (by kernel_rfl) (by kernel_rfl) (by kernel_rfl) (fun _ _ _ h => h) (Or.inl ⟨by rfl, by intro w' hSw; (try dsimp only at hSw); go_simp⟩) (by assumption) ?_; (try simp only [List.setIfInBounds_toArray, List.set_cons_zero, List.set_cons_succ])
      refine take17 (i := 3) (d := 25) (v := .map (some mb)) rfl rfl (by kernel_rfl) (by kernel_rfl) (by kernel_rfl) (fun _ _ _ h => h) (Or.inl ⟨by rfl, by intro w' hSw; (try dsimp only at hSw); obtain ⟨s0, s1, sl⟩ := unhide SK w' hSw; go_simp⟩) (by assumption) ?_; (try simp only [List.setIfInBounds_toArray, List.set_cons_zero, List.set_cons_succ])
      refine take17 (i := 4) (d := 26) (v := .pointer (some ⟨xb, 1, none⟩)) rfl rfl (by kernel_rfl) (by kernel_rfl) (by kernel_rfl) (fun _ _ _ h => h) (Or.inl ⟨by rfl, by intro w' hSw; (try dsimp only at hSw); go_simp⟩) (by assumption) ?_; (try simp only [List.setIfInBounds_toArray, List.set_cons_zero, List.set_cons_succ])
      refine take17 (i := 5) (d := 27) (v := .int .i64 1) rfl rfl (by kernel_rfl) (by kernel_rfl) (by kernel_rfl) (fun _ _ _ h => h) (Or.inl ⟨by rfl, by intro w' hSw; (try dsimp only at hSw); obtain ⟨s0, s1, sl⟩ := unhide SK w' hSw; go_simp⟩) (by assumption) ?_; (try simp only [List.setIfInBounds_toArray, List.set_cons_zero, List.set_cons_succ])
      refine take17 (i := 6) (d := 28) (v := .agg #[.int .i64 tg, .slice sa tn tc, .int .i64 o0, .int .i64 o1, .int .i64 o2, .int .i64 o3]) rfl rfl (by kernel_rfl) (by kernel_rfl) (by kernel_rfl) (fun _ _ _ h => h) (Or.inl ⟨by rfl, by intro w' hSw; (try dsimp only at hSw); obtain ⟨s0, s1, sl⟩ := unhide SK w' hSw; go_simp⟩) (by assumption) ?_; (try simp only [List.setIfInBounds_toArray, List.set_cons_zero, List.set_cons_succ])
      refine wpAnyH_ready (rs := [7]) (by kernel_rfl) (by simp) ?_
      refine AllReadyH.cons rfl (fun K hK => ?_) AllReadyH.nil
      go_simp
      have b3 : Below w2.heap.size w2 (w2.drew.alloc (.cells #[.int .i64 0, .slice none 0 0, .int .i64 0, .int .i64 0, .int .i64 0, .int .i64 0] 61)) := ((Below.refl _ _).drew).alloc (Nat.le_refl _) _
      have HTB := hide (heap_new w2.drew (.cells #[.int .i64 0, .slice none 0 0, .int .i64 0, .int .i64 0, .int .i64 0, .int .i64 0] 61))
      have HB3 := hide b3
      refine hK.out _ _ b3 (fun hHeld => ?_)
      clear hK K b3
      (try simp only [Act.put, List.setIfInBounds_toArray, List.set_cons_zero, List.set_cons_succ])
      change wpAnyH _ _ _ _ _ _ _ _ (w2.drew.alloc (.cells #[.int .i64 0, .slice none 0 0, .int .i64 0, .int .i64 0, .int .i64 0, .int .i64 0] 61))
      have hdz : w2.drew.heap.size = w2.heap.size := rfl
      rw [hdz] at HTB
      clear hdz
      generalize w2.drew.alloc (.cells #[.int .i64 0, .slice none 0 0, .int .i64 0, .int .i64 0, .int .i64 0, .int .i64 0] 61) = w3 at *
      refine wpAnyH_ready (rs := [8]) (by kernel_rfl) (by simp) ?_
      refine AllReadyH.cons rfl (fun K hK => ?_) AllReadyH.nil
      rw [if_pos (by rfl)]
      obtain ⟨q1, q2⟩ := heap_setCells [.int .i64 tg, .slice sa tn tc, .int .i64 o0, .int .i64 o1, .int .i64 o2, .int .i64 o3] 0 w3 _ (unhide HTB)
      have HTB4 : Hid ((w3.setCells w2.heap.size 0 [.int .i64 tg, .slice sa tn tc, .int .i64 o0, .int .i64 o1, .int .i64 o2, .int .i64 o3]).heap[w2.heap.size]? = some (.cells #[.int .i64 tg, .slice sa tn tc, .int .i64 o0, .int .i64 o1, .int .i64 o2, .int .i64 o3] 61)) := hide q1
      have HB4 := hide (below_touch (unhide HB3) q2 (unhide HB3).size (fun k hk => by omega))
      refine wp_store_mid 61 (.tmp 6) (.tmp 28) rfl w2.heap.size 0 #[.int .i64 tg, .slice sa tn tc, .int .i64 o0, .int .i64 o1, .int .i64 o2, .int .i64 o3] rfl rfl (there_of (unhide HTB) (by show 0 + 6 ≤ 6; decide)) (by kernel_rfl) (by simp [Value.oneCell']) ?_
      refine hK.out _ _ (unhide HB4) (fun hHeld => ?_)
      clear hK K q1 q2 HTB HB3
      (try simp only [Act.put, List.setIfInBounds_toArray])
      change wpAnyH _ _ _ _ _ _ _ _ (w3.setCells w2.heap.size 0 [.int .i64 tg, .slice sa tn tc, .int .i64 o0, .int .i64 o1, .int .i64 o2, .int .i64 o3])
      generalize w3.setCells w2.heap.size 0 [.int .i64 tg, .slice sa tn tc, .int .i64 o0, .int .i64 o1, .int .i64 o2, .int .i64 o3] = w4 at *
      refine wpAnyH_done (by kernel_rfl) ?_ _
      have H4 := hide ((unhide H2).later (unhide HB4))
      have HX4 := hide (below_keep (unhide HB4) (unhide HX))
      have T4 := hide ((unhide T2).trans (Touch.of_below (unhide HB4)))
      have HW2 : Hid (B ≤ w2.heap.size) := hide (Nat.le_trans (unhide HXB) (Nat.le_of_lt (lt_of_heap (unhide HX))))
      have HXT : Hid (xb ≠ w2.heap.size) := hide (by have := lt_of_heap (unhide HX); omega)
      have HST : Hid (∀ q, Own3 sb (.map (some mb)) mv2 q → q ≠ w2.heap.size) := hide (fun q hq e => (unhide H4).apart (e ▸ unhide HTB4) (by decide) hq)
      clear hHeld SK H2 HX T2 HB4
      generalize w2.heap.size = tb at *
      have x0 := cell_of (unhide HX4) 0
      simp at x0
      go_upto_region 7 with fail
      clear x0
      have hd5 : Below w4.heap.size w4 w4.drew := (Below.refl _ _).drew
      have H5 := hide ((unhide H4).later hd5)
      have HX5 := hide (below_keep hd5 (unhide HX4))
      have HTB5 := hide (below_keep hd5 (unhide HTB4))
      have T5 := hide ((unhide T4).drew)
      clear H4 HX4 HTB4 T4
      refine wp_region_held_drew (S := fun w' => w'.heap[xb]? = some (.cells #[.int .i64 2, .int .i64 1, .int .i64 gen, .slice a 0 k, .int .i64 1, .int .i64 off] 29)) (by kernel_rfl) (unhide HX5) (fun hHeld => ?_)
      generalize w4.drew = w5 at *
      clear hd5
      refine take17 (i := 0) (d := 33) (v := .pointer (some ⟨xb, 4, none⟩)) rfl rfl (by kernel_rfl) (by kernel_rfl) (by kernel_rfl) (fun _ _ _ h => h) (Or.inl ⟨by rfl, by intro w' hSw; (try dsimp only at hSw); go_simp⟩) (by assumption) ?_; (try simp only [List.setIfInBounds_toArray, List.set_cons_zero, List.set_cons_succ])
      refine take17 (i := 1) (d := 34) (v := .int .i64 1) rfl rfl (by kernel_rfl) (by kernel_rfl) (by kernel_rfl) (fun _ _ _ h => h) (Or.inl ⟨by rfl, by intro w' hSw; (try dsimp only at hSw); have y4 := cell_of hSw 4; simp at y4; go_simp⟩) (by assumption) ?_; (try simp only [List.setIfInBounds_toArray, List.set_cons_zero, List.set_cons_succ])
      refine take17 (i := 2) (d := 35) (v := .pointer (some ⟨xb, 4, none⟩)) rfl rfl (by kernel_rfl) (by kernel_rfl) (by kernel_rfl) (fun _ _ _ h => h) (Or.inl ⟨by rfl, by intro w' hSw; (try dsimp only at hSw); go_simp⟩) (by assumption) ?_; (try simp only [List.setIfInBounds_toArray, List.set_cons_zero, List.set_cons_succ])
      refine take17 (i := 3) (d := 36) (v := .int .i64 1) rfl rfl (by kernel_rfl) (by kernel_rfl) (by kernel_rfl) (fun _ _ _ h => h) (Or.inl ⟨by rfl, by intro w' hSw; (try dsimp only at hSw); have y4 := cell_of hSw 4; simp at y4; go_simp⟩) (by assumption) ?_; (try simp only [List.setIfInBounds_toArray, List.set_cons_zero, List.set_cons_succ])
      refine take17 (i := 4) (d := 37) (v := .pointer (some ⟨tb, 2, none⟩)) rfl rfl (by kernel_rfl) (by kernel_rfl) (by kernel_rfl) (fun _ _ _ h => h) (Or.inl ⟨by rfl, by intro w' hSw; (try dsimp only at hSw); go_simp⟩) (by assumption) ?_; (try simp only [List.setIfInBounds_toArray, List.set_cons_zero, List.set_cons_succ])
      refine take17 (i := 5) (d := 38) (v := .pointer (some ⟨tb, 3, none⟩)) rfl rfl (by kernel_rfl) (by kernel_rfl) (by kernel_rfl) (fun _ _ _ h => h) (Or.inl ⟨by rfl, by intro w' hSw; (try dsimp only at hSw); go_simp⟩) (by assumption) ?_; (try simp only [List.setIfInBounds_toArray, List.set_cons_zero, List.set_cons_succ])
      refine take17 (i := 7) (d := 40) (v := .pointer (some ⟨xb, 5, none⟩)) rfl rfl (by kernel_rfl) (by kernel_rfl) (by kernel_rfl) (fun _ _ _ h => h) (Or.inl ⟨by rfl, by intro w' hSw; (try dsimp only at hSw); go_simp⟩) (by assumption) ?_; (try simp only [List.setIfInBounds_toArray, List.set_cons_zero, List.set_cons_succ])
      refine take17 (i := 8) (d := 41) (v := .int .i64 off) rfl rfl (by kernel_rfl) (by kernel_rfl) (by kernel_rfl) (fun _ _ _ h => h) (Or.inl ⟨by rfl, by intro w' hSw; (try dsimp only at hSw); have y5 := cell_of hSw 5; simp at y5; go_simp⟩) (by assumption) ?_; (try simp only [List.setIfInBounds_toArray, List.set_cons_zero, List.set_cons_succ])
      refine take17 (i := 10) (d := 43) (v := .pointer (some ⟨tb, 2, none⟩)) rfl rfl (by kernel_rfl) (by kernel_rfl) (by kernel_rfl) (fun _ _ _ h => h) (Or.inl ⟨by rfl, by intro w' hSw; (try dsimp only at hSw); go_simp⟩) (by assumption) ?_; (try simp only [List.setIfInBounds_toArray, List.set_cons_zero, List.set_cons_succ])
      have zt : w5.cell? ⟨tb, 3, none⟩ = some (.int .i64 o1) := cell_of (unhide HTB5) 3
      refine wpAnyH_ready (rs := [6]) (by kernel_rfl) (by simp) ?_
      refine AllReadyH.cons rfl (fun K hK => ?_) AllReadyH.nil
      go_simp
      refine hK.out _ _ (by assumption) (fun hHeld => ?_)
      clear hK K
      (try simp only [Act.put, List.setIfInBounds_toArray, List.set_cons_zero, List.set_cons_succ])
      refine take17 (i := 9) (d := 42) (v := .int .i64 (max o1 off)) rfl rfl (by kernel_rfl) (by kernel_rfl) (by kernel_rfl) (fun _ _ _ h => h) (Or.inl ⟨by rfl, by intro w' hSw; (try dsimp only at hSw); go_simp⟩) (by assumption) ?_; (try simp only [List.setIfInBounds_toArray, List.set_cons_zero, List.set_cons_succ])
      refine take17 (i := 11) (d := 44) (v := .pointer (some ⟨tb, 3, none⟩)) rfl rfl (by kernel_rfl) (by kernel_rfl) (by kernel_rfl) (fun _ _ _ h => h) (Or.inl ⟨by rfl, by intro w' hSw; (try dsimp only at hSw); go_simp⟩) (by assumption) ?_; (try simp only [List.setIfInBounds_toArray, List.set_cons_zero, List.set_cons_succ])
      have ft : w5.frozen? ⟨tb, 3, none⟩ = false := frozen_of (unhide HTB5) 3
      have tt := touch_set w5 tb 3 (.int .i64 (max o1 off))
      have HTB6 := hide (heap_set (unhide HTB5) 3 (.int .i64 (max o1 off)))
      have HX6 := hide (tt.keep (unhide HX5) (unhide HXT))
      have H6 := hide ((unhide H5).keep tt (unhide HST))
      have T6 := hide ((unhide T5).trans (tt.mono (fun q hq => by rw [hq]; exact unhide HW2)))
      clear tt HTB5 HX5 H5 T5
      refine wpAnyH_ready (rs := [12]) (by kernel_rfl) (by simp) ?_
      refine AllReadyH.cons rfl (fun K hK => ?_) AllReadyH.nil
      go_simp
      refine hK.out _ _ (unhide HX6) (fun hHeld => ?_)
      clear hK K zt ft
      (try simp only [Act.put, List.setIfInBounds_toArray])
      generalize w5.setCell ⟨tb, 3, none⟩ (.int .i64 (max o1 off)) = w6 at *
      refine wpAnyH_done (by kernel_rfl) ?_ _
      clear hHeld
      go_upto_region 10 with fail
      have hd7 : Below w6.heap.size w6 w6.drew := (Below.refl _ _).drew
      have H7 := hide ((unhide H6).later hd7)
      have HX7 := hide (below_keep hd7 (unhide HX6))
      have HTB7 := hide (below_keep hd7 (unhide HTB6))
      have T7 := hide ((unhide T6).drew)
      clear H6 HX6 HTB6 T6
      obtain ⟨w8, hst, hm8, ht8⟩ := ((unhide H7).map1 rfl).1.store (M := gK) (s := 1) (by rcases (unhide H7).few with e | ⟨t, e⟩ <;> rw [e] <;> (show _ < maxLen; unfold maxLen; simp)) wf_one ⟨tg, tgb, tn, tc, o0, (max o1 off), o2, o3⟩
      have hst' : (Instr.mapUpdate 49 (.map (some mb)) (.int .i64 1) (.agg #[.int .i64 tg, .slice sa tn tc, .int .i64 o0, .int .i64 (max o1 off), .int .i64 o2, .int .i64 o3])).run Try.prog w6.drew = .ok () w8 := by
        rw [← unhide HSA]
        exact hst
      have nsb : sb ≠ mb := fun e => by
        obtain ⟨es, ck, h1⟩ := ((unhide H7).map1 rfl).1.block
        rw [← e, (unhide H7).obj] at h1
        cases h1
      have nxb : xb ≠ mb := fun e => by
        obtain ⟨es, ck, h1⟩ := ((unhide H7).map1 rfl).1.block
        rw [← e, unhide HX7] at h1
        cases h1
      have ntb : tb ≠ mb := fun e => by
        obtain ⟨es, ck, h1⟩ := ((unhide H7).map1 rfl).1.block
        rw [← e, unhide HTB7] at h1
        cases h1
      have F8 : Hid (HdP B w sb mv2 m1 W 1 off (.returned (.tuple #[])) w8) := hide ⟨rfl, mb, (1, ⟨tg, tgb, tn, tc, o0, (max o1 off), o2, o3⟩) :: mdel m1 1, ⟨ht8.keep (unhide H7).obj nsb, .inr ⟨mb, rfl, hm8, ((unhide H7).map1 rfl).2⟩, by
        rcases (unhide H7).wt with ⟨e, e2⟩ | ⟨b, e, m, hb⟩
        · exact .inl ⟨e, e2⟩
        · exact .inr ⟨b, e, m.keep ht8 (fun e2 => (unhide H7).ne mb rfl (by rw [e, e2])), hb⟩, (unhide H7).ne, .inr ⟨_, by rw [mdel_few (unhide H7).few]⟩, (unhide H7).hb⟩, by
        rw [← unhide HT]
        simp [tOf, matx, mgot, tPut], (unhide T7).trans (ht8.mono (fun q hq => by rw [hq]; exact ((unhide H7).map1 rfl).2))⟩
      have S8 : Hid (w8.cell? ⟨sb, 0, none⟩ = some (.map (some mb)) ∧ w8.heap[xb]? = some (.cells #[.int .i64 2, .int .i64 1, .int .i64 gen, .slice a 0 k, .int .i64 1, .int .i64 off] 29) ∧ w8.heap[tb]? = some (.cells #[.int .i64 tg, .slice sa tn tc, .int .i64 o0, .int .i64 (max o1 off), .int .i64 o2, .int .i64 o3] 61)) := hide ⟨cell_of (ht8.keep (unhide H7).obj nsb) 0, ht8.keep (unhide HX7) nxb, ht8.keep (unhide HTB7) ntb⟩
      have S7 : Hid (w6.drew.cell? ⟨sb, 0, none⟩ = some (.map (some mb)) ∧ w6.drew.heap[xb]? = some (.cells #[.int .i64 2, .int .i64 1, .int .i64 gen, .slice a 0 k, .int .i64 1, .int .i64 off] 29) ∧ w6.drew.heap[tb]? = some (.cells #[.int .i64 tg, .slice sa tn tc, .int .i64 o0, .int .i64 (max o1 off), .int .i64 o2, .int .i64 o3] 61)) := hide ⟨cell_of (unhide H7).obj 0, unhide HX7, unhide HTB7⟩
      clear hst hm8 ht8 nsb nxb ntb H7 HX7 HTB7 T7 hd7
      refine wp_region_held_drew (S := fun w' => w'.cell? ⟨sb, 0, none⟩ = some (.map (some mb)) ∧ w'.heap[xb]? = some (.cells #[.int .i64 2, .int .i64 1, .int .i64 gen, .slice a 0 k, .int .i64 1, .int .i64 off] 29) ∧ w'.heap[tb]? = some (.cells #[.int .i64 tg, .slice sa tn tc, .int .i64 o0, .int .i64 (max o1 off), .int .i64 o2, .int .i64 o3] 61)) (by kernel_rfl) (unhide S7) (fun hHeld => ?_)
      clear S7
      generalize w6.drew = w7 at *
      refine take17 (i := 0) (d := 57) (v := .pointer (some ⟨sb, 0, none⟩)) rfl rfl (by kernel_rfl) (by kernel_rfl) (by kernel_rfl) (fun _ _ _ h => h) (Or.inl ⟨by rfl, by intro w' hSw; (try dsimp only at hSw); go_simp⟩) (by assumption) ?_; (try simp only [List.setIfInBounds_toArray, List.set_cons_zero, List.set_cons_succ])
      refine take17 (i := 1) (d := 58) (v := .pointer (some ⟨sb, 0, none⟩)) rfl rfl (by kernel_rfl) (by kernel_rfl) (by kernel_rfl) (fun _ _ _ h => h) (Or.inl ⟨by rfl, by intro w' hSw; (try dsimp only at hSw); go_simp⟩) (by assumption) ?_; (try simp only [List.setIfInBounds_toArray, List.set_cons_zero, List.set_cons_succ])
      refine take17 (i := 2) (d := 59) (v := .pointer (some ⟨sb, 0, none⟩)) rfl rfl (by kernel_rfl) (by kernel_rfl) (by kernel_rfl) (fun _ _ _ h => h) (Or.inl ⟨by rfl, by intro w' hSw; (try dsimp only at hSw); go_simp⟩) (by assumption) ?_; (try simp only [List.setIfInBounds_toArray, List.set_cons_zero, List.set_cons_succ])
      refine take17 (i := 3) (d := 60) (v := .map (some mb)) rfl rfl (by kernel_rfl) (by kernel_rfl) (by kernel_rfl) (fun _ _ _ h => h) (Or.inl ⟨by rfl, by intro w' hSw; (try dsimp only at hSw); obtain ⟨s0, s1, s2⟩ := hSw; go_simp⟩) (by assumption) ?_; (try simp only [List.setIfInBounds_toArray, List.set_cons_zero, List.set_cons_succ])
      refine take17 (i := 4) (d := 61) (v := .pointer (some ⟨xb, 1, none⟩)) rfl rfl (by kernel_rfl) (by kernel_rfl) (by kernel_rfl) (fun _ _ _ h => h) (Or.inl ⟨by rfl, by intro w' hSw; (try dsimp only at hSw); go_simp⟩) (by assumption) ?_; (try simp only [List.setIfInBounds_toArray, List.set_cons_zero, List.set_cons_succ])
      refine take17 (i := 5) (d := 62) (v := .int .i64 1) rfl rfl (by kernel_rfl) (by kernel_rfl) (by kernel_rfl) (fun _ _ _ h => h) (Or.inl ⟨by rfl, by intro w' hSw; (try dsimp only at hSw); obtain ⟨s0, s1, s2⟩ := hSw; have y1 := cell_of s1 1; simp at y1; go_simp⟩) (by assumption) ?_; (try simp only [List.setIfInBounds_toArray, List.set_cons_zero, List.set_cons_succ])
      refine take17 (i := 6) (d := 63) (v := .agg #[.int .i64 tg, .slice sa tn tc, .int .i64 o0, .int .i64 (max o1 off), .int .i64 o2, .int .i64 o3]) rfl rfl (by kernel_rfl) (by kernel_rfl) (by kernel_rfl) (fun _ _ _ h => h) (Or.inl ⟨by rfl, by intro w' hSw; (try dsimp only at hSw); obtain ⟨s0, s1, s2⟩ := hSw; have q0 := cell_of s2 0; have q1 := cell_of s2 1; have q2 := cell_of s2 2; have q3 := cell_of s2 3; have q4 := cell_of s2 4; have q5 := cell_of s2 5; simp at q0 q1 q2 q3 q4 q5; go_simp⟩) (by assumption) ?_; (try simp only [List.setIfInBounds_toArray, List.set_cons_zero, List.set_cons_succ])
      refine wpAnyH_ready (rs := [7]) (by kernel_rfl) (by simp) ?_
      refine AllReadyH.cons rfl (fun K hK => ?_) AllReadyH.nil
      go_simp
      refine hK.out _ _ (unhide S8) (fun hHeld => ?_)
      clear hK K
      (try simp only [Act.put, List.setIfInBounds_toArray])
      refine wpAnyH_done (by kernel_rfl) ?_ _
      clear hHeld hst'
      go_wp2
      go_roundw
      case rel => exact .inr ⟨by go_num, F8⟩
      case measure => simp [intOf]
    · go_wp2
      go_returns
      exact unhide hh
set_option maxRecDepth 100000 in
set_option maxHeartbeats 8000000 in
theorem hold_none2 {B : Nat} {w : World} {sb : Nat} {mv2 : Value} {m1 : List (Int × Tm)} {W : List (Int × Sl)} {gen off : Int} {v : Value} (h : GS B w sb (.map none) mv2 m1 W) (hv : OneR B w v ⟨2, 1, gen, [], 2, off⟩) (hB : B ≤ w.heap.size) :
    Calls Try.prog 18 #[.pointer (some ⟨sb, 0, none⟩), v] w fun e w' => HdP B w sb mv2 m1 W 2 off e w' := by
  obtain ⟨g, c, a, k, rfl, hw, _, hg⟩ := hv
  have y0 : w.cell? ⟨sb, 0, none⟩ = some (.map none) := cell_of h.obj 0
  have f0 : w.frozen? ⟨sb, 0, none⟩ = false := frozen_of h.obj 0
  have y2 : (w.alloc (.map #[] 0)).cell? ⟨sb, 0, none⟩ = some (.map none) := cell_of (heap_old _ h.obj) 0
  have f2 : (w.alloc (.map #[] 0)).frozen? ⟨sb, 0, none⟩ = false := frozen_of (heap_old _ h.obj) 0
  have hmm := @run_makeMap Try.prog
  have H := hide h
  have HW := hide hw
  have HG := hide hg
  have HB := hide hB
  have hq : ∀ (W : World) (b : Nat), (binOp .eql 49 (.map (some b)) (.map none)).run Try.prog W = .ok (.bool false) W := fun _ _ => by kernel_rfl
  have hq0 : ∀ (W : World), (binOp .eql 49 (.map none) (.map none)).run Try.prog W = .ok (.bool true) W := fun _ => by kernel_rfl
  clear h hw hg hB
  go_enter Try.func18, Try.ntmps18
  go_upto_region 2 with fail
  have b1 := (Below.refl w.heap.size w).alloc (Nat.le_refl _) (.map #[] 0)
  have tsb := touch_set (w.alloc (.map #[] 0)) sb 0 (.map (some w.heap.size))
  have hsb := lt_of_heap (unhide H).obj
  have hob := heap_set (heap_old (.map #[] 0) (unhide H).obj) 0 (.map (some w.heap.size))
  have hm2 : ∀ b, mv2 = .map (some b) → b < w.heap.size ∧ b ≠ sb := fun b e => ⟨((unhide H).map2 e).1.lt, fun e2 => by
    obtain ⟨es, ck, h1⟩ := ((unhide H).map2 e).1.block
    rw [e2, (unhide H).obj] at h1
    cases h1⟩
  have hm1 : m1 = [] := by
    rcases (unhide H).g with ⟨_, e⟩ | ⟨b, e, _⟩
    · exact e
    · cases e
  have H1 : Hid (GS B ((w.alloc (.map #[] 0)).setCell ⟨sb, 0, none⟩ (.map (some w.heap.size))) sb (.map (some w.heap.size)) mv2 m1 W) := hide ⟨hob, .inr ⟨w.heap.size, rfl, by rw [hm1]; exact (MM.made gK w).keep tsb (fun h => by omega), unhide HB⟩, by
      rcases (unhide H).wt with ⟨e, e2⟩ | ⟨b, e, m, hb⟩
      · exact .inl ⟨e, e2⟩
      · exact .inr ⟨b, e, (m.keep (Touch.of_below (S := fun _ => False) b1) (fun h => h)).keep tsb (fun h => (hm2 b e).2 h), hb⟩, fun b e e2 => by
      have := (hm2 b e2).1
      injection e with e3
      injection e3 with e4
      omega, (unhide H).few, (unhide H).hb⟩
  have T1 : Hid (Touch (fun k => B ≤ k) w ((w.alloc (.map #[] 0)).setCell ⟨sb, 0, none⟩ (.map (some w.heap.size)))) := hide ((Touch.of_below b1).trans (tsb.mono (fun k hk => by rw [hk]; exact (unhide H).hb)))
  have W1 : Hid (Wide ((w.alloc (.map #[] 0)).setCell ⟨sb, 0, none⟩ (.map (some w.heap.size))) 29 6 (.slice (some ⟨g, 0, none⟩) 1 c) 1 [.int .i64 2, .int .i64 1, .int .i64 gen, .slice a 0 k, .int .i64 2, .int .i64 off]) := hide (((unhide HW).later b1).keep tsb (fun q hq e => by
      obtain ⟨cs, h1⟩ := (unhide HW).heap hq
      rw [e, (unhide H).obj] at h1
      exact absurd (Obj.cells.inj (Option.some.inj h1)).2.1 (by decide)))
  clear y0 y2 f0 f2 hmm b1 tsb hsb hob hm2 hm1 H HW
  generalize (w.alloc (.map #[] 0)).setCell ⟨sb, 0, none⟩ (.map (some w.heap.size)) = w1 at *
  have HB1 : Hid (B ≤ w1.heap.size) := hide (Nat.le_trans (unhide HB) (unhide T1).size)
  generalize w.heap.size = mb at *
  go_wp2_with fail
  go_loopw [18] (fun iv wr => (iv = .int .i64 0 ∧ wr = w1) ∨ (iv = .int .i64 1 ∧ Hid (HdP B w sb mv2 m1 W 2 off (.returned (.tuple #[])) wr))) (fun iv _ => 1 - (intOf iv).toNat)
  case atStart => exact .inl ⟨rfl, rfl⟩
  case round =>
    rcases hrel with ⟨rfl, rfl⟩ | ⟨rfl, hh⟩
    · obtain ⟨a', cap, ev, _, _, _, _, hc⟩ := (unhide W1).parts
      obtain ⟨g', ea, _, hcell, _⟩ := hc (by omega)
      injection ev with e1 e2 e3
      rw [ea] at e1
      cases e1
      have z0 := hcell 0 (by omega)
      have z1 := hcell 1 (by omega)
      have z2 := hcell 2 (by omega)
      have z3 := hcell 3 (by omega)
      have z4 := hcell 4 (by omega)
      have z5 := hcell 5 (by omega)
      simp only [List.getElem?_cons_zero, List.getElem?_cons_succ] at z0 z1 z2 z3 z4 z5
      clear hcell hc ea e2 e3
      go_upto_region 5 with fail
      have b2 := (Below.refl wr.heap.size wr).alloc (Nat.le_refl _) (.cells #[.int .i64 2, .int .i64 1, .int .i64 gen, .slice a 0 k, .int .i64 2, .int .i64 off] 29)
      have HX := hide (heap_new wr (.cells #[.int .i64 2, .int .i64 1, .int .i64 gen, .slice a 0 k, .int .i64 2, .int .i64 off] 29))
      have H2 := hide ((unhide H1).later b2)
      have T2 := hide ((unhide T1).trans (Touch.of_below b2))
      have HXB : Hid (B ≤ wr.heap.size) := HB1
      clear b2 H1 W1 T1 z0 z1 z2 z3 z4 z5
      change Code.wp _ _ _ _ (wr.alloc (.cells #[.int .i64 2, .int .i64 1, .int .i64 gen, .slice a 0 k, .int .i64 2, .int .i64 off] 29))
      generalize wr.alloc (.cells #[.int .i64 2, .int .i64 1, .int .i64 gen, .slice a 0 k, .int .i64 2, .int .i64 off] 29) = w2 at *
      generalize wr.heap.size = xb at *
      obtain ⟨T, hT⟩ : ∃ T, T = tOf m1 := ⟨_, rfl⟩
      have HT := hide hT
      clear hT
      have LK : Hid (∀ W, Below w2.heap.size w2 W → (Instr.lookup 49 (.map (some mb)) (.int .i64 1) false).run Try.prog W = .ok (tmV T) W) := hide (fun W hb => by
        have := (((unhide H2).later hb).map1 rfl).1.look1 (M := gK) (s := 1) wf_one
        rw [unhide HT]
        exact this)
      obtain ⟨tg, tgb, tn, tc, o0, o1, o2, o3⟩ := T
      unfold tmV tmC at LK
      simp only at LK
      generalize hsa : Option.map (fun g => (⟨g, 0, none⟩ : Addr)) tgb = sa at *
      have HSA := hide hsa
      clear hsa
      have SK : Hid (∀ W, Below w2.heap.size w2 W → W.cell? ⟨sb, 0, none⟩ = some (.map (some mb)) ∧ W.cell? ⟨xb, 1, none⟩ = some (.int .i64 1) ∧ (Instr.lookup 49 (.map (some mb)) (.int .i64 1) false).run Try.prog W = .ok (.agg #[.int .i64 tg, .slice sa tn tc, .int .i64 o0, .int .i64 o1, .int .i64 o2, .int .i64 o3]) W) := hide (fun W hb => ⟨cell_of (below_keep hb (unhide H2).obj) 0, cell_of (below_keep hb (unhide HX)) 1, unhide LK W hb⟩)
      clear LK
      refine wp_region_held_drew (S := fun w' => Below w2.heap.size w2 w') (by kernel_rfl) ((Below.refl _ _).drew) (fun hHeld => ?_)
      refine take17 (i := 0) (d := 22) (v := .pointer (some ⟨sb, 0, none⟩)) rfl rfl (by kernel_rfl) (by kernel_rfl) (by kernel_rfl) (fun _ _ _ h => h) (Or.inl ⟨by rfl, by intro w' hSw; (try dsimp only at hSw); go_simp⟩) (by assumption) ?_; (try simp only [List.setIfInBounds_toArray, List.set_cons_zero, List.set_cons_succ])
      refine take17 (i := 1) (d := 23) (v := .pointer (some ⟨sb, 0, none⟩)) rfl rfl (by kernel_rfl) (by kernel_rfl) (by kernel_rfl) (fun _ _ _ h => h) (Or.inl ⟨by rfl, by intro w' hSw; (try dsimp only at hSw); go_simp⟩) (by assumption) ?_; (try simp only [List.setIfInBounds_toArray, List.set_cons_zero, List.set_cons_succ])
      refine take17 (i := 2) (d := 24) (v := .pointer (some ⟨sb, 0, none⟩)) rfl rfl (by kernel_rfl) (by kernel_rfl) (by kernel_rfl) (fun _ _ _ h => h) (Or.inl ⟨by rfl, by intro w' hSw; (try dsimp only at hSw); go_simp⟩) (by assumption) ?_; (try simp only [List.setIfInBounds_toArray, List.set_cons_zero, List.set_cons_succ])
      refine take17 (i := 3) (d := 25) (v := .map (some mb)) rfl rfl (by kernel_rfl) (by kernel_rfl) (by kernel_rfl) (fun _ _ _ h => h) (Or.inl ⟨by rfl, by intro w' hSw; (try dsimp only at hSw); obtain ⟨s0, s1, sl⟩ := unhide SK w' hSw; go_simp⟩) (by assumption) ?_; (try simp only [List.setIfInBounds_toArray, List.set_cons_zero, List.set_cons_succ])
      refine take17 (i := 4) (d := 26) (v := .pointer (some ⟨xb, 1, none⟩)) rfl rfl (by kernel_rfl) (by kernel_rfl) (by kernel_rfl) (fun _ _ _ h => h) (Or.inl ⟨by rfl, by intro w' hSw; (try dsimp only at hSw); go_simp⟩) (by assumption) ?_; (try simp only [List.setIfInBounds_toArray, List.set_cons_zero, List.set_cons_succ])
      refine take17 (i := 5) (d := 27) (v := .int .i64 1) rfl rfl (by kernel_rfl) (by kernel_rfl) (by kernel_rfl) (fun _ _ _ h => h) (Or.inl ⟨by rfl, by intro w' hSw; (try dsimp only at hSw); obtain ⟨s0, s1, sl⟩ := unhide SK w' hSw; go_simp⟩) (by assumption) ?_; (try simp only [List.setIfInBounds_toArray, List.set_cons_zero, List.set_cons_succ])
      refine take17 (i := 6) (d := 28) (v := .agg #[.int .i64 tg, .slice sa tn tc, .int .i64 o0, .int .i64 o1, .int .i64 o2, .int .i64 o3]) rfl rfl (by kernel_rfl) (by kernel_rfl) (by kernel_rfl) (fun _ _ _ h => h) (Or.inl ⟨by rfl, by intro w' hSw; (try dsimp only at hSw); obtain ⟨s0, s1, sl⟩ := unhide SK w' hSw; go_simp⟩) (by assumption) ?_; (try simp only [List.setIfInBounds_toArray, List.set_cons_zero, List.set_cons_succ])
      refine wpAnyH_ready (rs := [7]) (by kernel_rfl) (by simp) ?_
      refine AllReadyH.cons rfl (fun K hK => ?_) AllReadyH.nil
      go_simp
      have b3 : Below w2.heap.size w2 (w2.drew.alloc (.cells #[.int .i64 0, .slice none 0 0, .int .i64 0, .int .i64 0, .int .i64 0, .int .i64 0] 61)) := ((Below.refl _ _).drew).alloc (Nat.le_refl _) _
      have HTB := hide (heap_new w2.drew (.cells #[.int .i64 0, .slice none 0 0, .int .i64 0, .int .i64 0, .int .i64 0, .int .i64 0] 61))
      have HB3 := hide b3
      refine hK.out _ _ b3 (fun hHeld => ?_)
      clear hK K b3
      (try simp only [Act.put, List.setIfInBounds_toArray, List.set_cons_zero, List.set_cons_succ])
      change wpAnyH _ _ _ _ _ _ _ _ (w2.drew.alloc (.cells #[.int .i64 0, .slice none 0 0, .int .i64 0, .int .i64 0, .int .i64 0, .int .i64 0] 61))
      have hdz : w2.drew.heap.size = w2.heap.size := rfl
      rw [hdz] at HTB
      clear hdz
      generalize w2.drew.alloc (.cells #[.int .i64 0, .slice none 0 0, .int .i64 0, .int .i64 0, .int .i64 0, .int .i64 0] 61) = w3 at *
      refine wpAnyH_ready (rs := [8]) (by kernel_rfl) (by simp) ?_
      refine AllReadyH.cons rfl (fun K hK => ?_) AllReadyH.nil
      rw [if_pos (by rfl)]
      obtain ⟨q1, q2⟩ := heap_setCells [.int .i64 tg, .slice sa tn tc, .int .i64 o0, .int .i64 o1, .int .i64 o2, .int .i64 o3] 0 w3 _ (unhide HTB)
      have HTB4 : Hid ((w3.setCells w2.heap.size 0 [.int .i64 tg, .slice sa tn tc, .int .i64 o0, .int .i64 o1, .int .i64 o2, .int .i64 o3]).heap[w2.heap.size]? = some (.cells #[.int .i64 tg, .slice sa tn tc, .int .i64 o0, .int .i64 o1, .int .i64 o2, .int .i64 o3] 61)) := hide q1
      have HB4 := hide (below_touch (unhide HB3) q2 (unhide HB3).size (fun k hk => by omega))
      refine wp_store_mid 61 (.tmp 6) (.tmp 28) rfl w2.heap.size 0 #[.int .i64 tg, .slice sa tn tc, .int .i64 o0, .int .i64 o1, .int .i64 o2, .int .i64 o3] rfl rfl (there_of (unhide HTB) (by show 0 + 6 ≤ 6; decide)) (by kernel_rfl) (by simp [Value.oneCell']) ?_
      refine hK.out _ _ (unhide HB4) (fun hHeld => ?_)
      clear hK K q1 q2 HTB HB3
      (try simp only [Act.put, List.setIfInBounds_toArray])
      change wpAnyH _ _ _ _ _ _ _ _ (w3.setCells w2.heap.size 0 [.int .i64 tg, .slice sa tn tc, .int .i64 o0, .int .i64 o1, .int .i64 o2, .int .i64 o3])
      generalize w3.setCells w2.heap.size 0 [.int .i64 tg, .slice sa tn tc, .int .i64 o0, .int .i64 o1, .int .i64 o2, .int .i64 o3] = w4 at *
      refine wpAnyH_done (by kernel_rfl) ?_ _
      have H4 := hide ((unhide H2).later (unhide HB4))
      have HX4 := hide (below_keep (unhide HB4) (unhide HX))
      have T4 := hide ((unhide T2).trans (Touch.of_below (unhide HB4)))
      have HW2 : Hid (B ≤ w2.heap.size) := hide (Nat.le_trans (unhide HXB) (Nat.le_of_lt (lt_of_heap (unhide HX))))
      have HXT : Hid (xb ≠ w2.heap.size) := hide (by have := lt_of_heap (unhide HX); omega)
      have HST : Hid (∀ q, Own3 sb (.map (some mb)) mv2 q → q ≠ w2.heap.size) := hide (fun q hq e => (unhide H4).apart (e ▸ unhide HTB4) (by decide) hq)
      clear hHeld SK H2 HX T2 HB4
      generalize w2.heap.size = tb at *
      have x0 := cell_of (unhide HX4) 0
      simp at x0
      go_upto_region 7 with fail
      clear x0
      have hd5 : Below w4.heap.size w4 w4.drew := (Below.refl _ _).drew
      have H5 := hide ((unhide H4).later hd5)
      have HX5 := hide (below_keep hd5 (unhide HX4))
      have HTB5 := hide (below_keep hd5 (unhide HTB4))
      have T5 := hide ((unhide T4).drew)
      clear H4 HX4 HTB4 T4
      refine wp_region_held_drew (S := fun w' => w'.heap[xb]? = some (.cells #[.int .i64 2, .int .i64 1, .int .i64 gen, .slice a 0 k, .int .i64 2, .int .i64 off] 29)) (by kernel_rfl) (unhide HX5) (fun hHeld => ?_)
      generalize w4.drew = w5 at *
      clear hd5
      refine take17 (i := 0) (d := 33) (v := .pointer (some ⟨xb, 4, none⟩)) rfl rfl (by kernel_rfl) (by kernel_rfl) (by kernel_rfl) (fun _ _ _ h => h) (Or.inl ⟨by rfl, by intro w' hSw; (try dsimp only at hSw); go_simp⟩) (by assumption) ?_; (try simp only [List.setIfInBounds_toArray, List.set_cons_zero, List.set_cons_succ])
      refine take17 (i := 1) (d := 34) (v := .int .i64 2) rfl rfl (by kernel_rfl) (by kernel_rfl) (by kernel_rfl) (fun _ _ _ h => h) (Or.inl ⟨by rfl, by intro w' hSw; (try dsimp only at hSw); have y4 := cell_of hSw 4; simp at y4; go_simp⟩) (by assumption) ?_; (try simp only [List.setIfInBounds_toArray, List.set_cons_zero, List.set_cons_succ])
      refine take17 (i := 2) (d := 35) (v := .pointer (some ⟨xb, 4, none⟩)) rfl rfl (by kernel_rfl) (by kernel_rfl) (by kernel_rfl) (fun _ _ _ h => h) (Or.inl ⟨by rfl, by intro w' hSw; (try dsimp only at hSw); go_simp⟩) (by assumption) ?_; (try simp only [List.setIfInBounds_toArray, List.set_cons_zero, List.set_cons_succ])
      refine take17 (i := 3) (d := 36) (v := .int .i64 2) rfl rfl (by kernel_rfl) (by kernel_rfl) (by kernel_rfl) (fun _ _ _ h => h) (Or.inl ⟨by rfl, by intro w' hSw; (try dsimp only at hSw); have y4 := cell_of hSw 4; simp at y4; go_simp⟩) (by assumption) ?_; (try simp only [List.setIfInBounds_toArray, List.set_cons_zero, List.set_cons_succ])
      refine take17 (i := 4) (d := 37) (v := .pointer (some ⟨tb, 2, none⟩)) rfl rfl (by kernel_rfl) (by kernel_rfl) (by kernel_rfl) (fun _ _ _ h => h) (Or.inl ⟨by rfl, by intro w' hSw; (try dsimp only at hSw); go_simp⟩) (by assumption) ?_; (try simp only [List.setIfInBounds_toArray, List.set_cons_zero, List.set_cons_succ])
      refine take17 (i := 5) (d := 38) (v := .pointer (some ⟨tb, 4, none⟩)) rfl rfl (by kernel_rfl) (by kernel_rfl) (by kernel_rfl) (fun _ _ _ h => h) (Or.inl ⟨by rfl, by intro w' hSw; (try dsimp only at hSw); go_simp⟩) (by assumption) ?_; (try simp only [List.setIfInBounds_toArray, List.set_cons_zero, List.set_cons_succ])
      refine take17 (i := 7) (d := 40) (v := .pointer (some ⟨xb, 5, none⟩)) rfl rfl (by kernel_rfl) (by kernel_rfl) (by kernel_rfl) (fun _ _ _ h => h) (Or.inl ⟨by rfl, by intro w' hSw; (try dsimp only at hSw); go_simp⟩) (by assumption) ?_; (try simp only [List.setIfInBounds_toArray, List.set_cons_zero, List.set_cons_succ])
      refine take17 (i := 8) (d := 41) (v := .int .i64 off) rfl rfl (by kernel_rfl) (by kernel_rfl) (by kernel_rfl) (fun _ _ _ h => h) (Or.inl ⟨by rfl, by intro w' hSw; (try dsimp only at hSw); have y5 := cell_of hSw 5; simp at y5; go_simp⟩) (by assumption) ?_; (try simp only [List.setIfInBounds_toArray, List.set_cons_zero, List.set_cons_succ])
      refine take17 (i := 10) (d := 43) (v := .pointer (some ⟨tb, 2, none⟩)) rfl rfl (by kernel_rfl) (by kernel_rfl) (by kernel_rfl) (fun _ _ _ h => h) (Or.inl ⟨by rfl, by intro w' hSw; (try dsimp only at hSw); go_simp⟩) (by assumption) ?_; (try simp only [List.setIfInBounds_toArray, List.set_cons_zero, List.set_cons_succ])
      have zt : w5.cell? ⟨tb, 4, none⟩ = some (.int .i64 o2) := cell_of (unhide HTB5) 4
      refine wpAnyH_ready (rs := [6]) (by kernel_rfl) (by simp) ?_
      refine AllReadyH.cons rfl (fun K hK => ?_) AllReadyH.nil
      go_simp
      refine hK.out _ _ (by assumption) (fun hHeld => ?_)
      clear hK K
      (try simp only [Act.put, List.setIfInBounds_toArray, List.set_cons_zero, List.set_cons_succ])
      refine take17 (i := 9) (d := 42) (v := .int .i64 (max o2 off)) rfl rfl (by kernel_rfl) (by kernel_rfl) (by kernel_rfl) (fun _ _ _ h => h) (Or.inl ⟨by rfl, by intro w' hSw; (try dsimp only at hSw); go_simp⟩) (by assumption) ?_; (try simp only [List.setIfInBounds_toArray, List.set_cons_zero, List.set_cons_succ])
      refine take17 (i := 11) (d := 44) (v := .pointer (some ⟨tb, 4, none⟩)) rfl rfl (by kernel_rfl) (by kernel_rfl) (by kernel_rfl) (fun _ _ _ h => h) (Or.inl ⟨by rfl, by intro w' hSw; (try dsimp only at hSw); go_simp⟩) (by assumption) ?_; (try simp only [List.setIfInBounds_toArray, List.set_cons_zero, List.set_cons_succ])
      have ft : w5.frozen? ⟨tb, 4, none⟩ = false := frozen_of (unhide HTB5) 4
      have tt := touch_set w5 tb 4 (.int .i64 (max o2 off))
      have HTB6 := hide (heap_set (unhide HTB5) 4 (.int .i64 (max o2 off)))
      have HX6 := hide (tt.keep (unhide HX5) (unhide HXT))
      have H6 := hide ((unhide H5).keep tt (unhide HST))
      have T6 := hide ((unhide T5).trans (tt.mono (fun q hq => by rw [hq]; exact unhide HW2)))
      clear tt HTB5 HX5 H5 T5
      refine wpAnyH_ready (rs := [12]) (by kernel_rfl) (by simp) ?_
      refine AllReadyH.cons rfl (fun K hK => ?_) AllReadyH.nil
      go_simp
      refine hK.out _ _ (unhide HX6) (fun hHeld => ?_)
      clear hK K zt ft
      (try simp only [Act.put, List.setIfInBounds_toArray])
      generalize w5.setCell ⟨tb, 4, none⟩ (.int .i64 (max o2 off)) = w6 at *
      refine wpAnyH_done (by kernel_rfl) ?_ _
      clear hHeld
      go_upto_region 10 with fail
      have hd7 : Below w6.heap.size w6 w6.drew := (Below.refl _ _).drew
      have H7 := hide ((unhide H6).later hd7)
      have HX7 := hide (below_keep hd7 (unhide HX6))
      have HTB7 := hide (below_keep hd7 (unhide HTB6))
      have T7 := hide ((unhide T6).drew)
      clear H6 HX6 HTB6 T6
      obtain ⟨w8, hst, hm8, ht8⟩ := ((unhide H7).map1 rfl).1.store (M := gK) (s := 1) (by rcases (unhide H7).few with e | ⟨t, e⟩ <;> rw [e] <;> (show _ < maxLen; unfold maxLen; simp)) wf_one ⟨tg, tgb, tn, tc, o0, o1, (max o2 off), o3⟩
      have hst' : (Instr.mapUpdate 49 (.map (some mb)) (.int .i64 1) (.agg #[.int .i64 tg, .slice sa tn tc, .int .i64 o0, .int .i64 o1, .int .i64 (max o2 off), .int .i64 o3])).run Try.prog w6.drew = .ok () w8 := by
        rw [← unhide HSA]
        exact hst
      have nsb : sb ≠ mb := fun e => by
        obtain ⟨es, ck, h1⟩ := ((unhide H7).map1 rfl).1.block
        rw [← e, (unhide H7).obj] at h1
        cases h1
      have nxb : xb ≠ mb := fun e => by
        obtain ⟨es, ck, h1⟩ := ((unhide H7).map1 rfl).1.block
        rw [← e, unhide HX7] at h1
        cases h1
      have ntb : tb ≠ mb := fun e => by
        obtain ⟨es, ck, h1⟩ := ((unhide H7).map1 rfl).1.block
        rw [← e, unhide HTB7] at h1
        cases h1
      have F8 : Hid (HdP B w sb mv2 m1 W 2 off (.returned (.tuple #[])) w8) := hide ⟨rfl, mb, (1, ⟨tg, tgb, tn, tc, o0, o1, (max o2 off), o3⟩) :: mdel m1 1, ⟨ht8.keep (unhide H7).obj nsb, .inr ⟨mb, rfl, hm8, ((unhide H7).map1 rfl).2⟩, by
        rcases (unhide H7).wt with ⟨e, e2⟩ | ⟨b, e, m, hb⟩
        · exact .inl ⟨e, e2⟩
        · exact .inr ⟨b, e, m.keep ht8 (fun e2 => (unhide H7).ne mb rfl (by rw [e, e2])), hb⟩, (unhide H7).ne, .inr ⟨_, by rw [mdel_few (unhide H7).few]⟩, (unhide H7).hb⟩, by
        rw [← unhide HT]
        simp [tOf, matx, mgot, tPut], (unhide T7).trans (ht8.mono (fun q hq => by rw [hq]; exact ((unhide H7).map1 rfl).2))⟩
      have S8 : Hid (w8.cell? ⟨sb, 0, none⟩ = some (.map (some mb)) ∧ w8.heap[xb]? = some (.cells #[.int .i64 2, .int .i64 1, .int .i64 gen, .slice a 0 k, .int .i64 2, .int .i64 off] 29) ∧ w8.heap[tb]? = some (.cells #[.int .i64 tg, .slice sa tn tc, .int .i64 o0, .int .i64 o1, .int .i64 (max o2 off), .int .i64 o3] 61)) := hide ⟨cell_of (ht8.keep (unhide H7).obj nsb) 0, ht8.keep (unhide HX7) nxb, ht8.keep (unhide HTB7) ntb⟩
      have S7 : Hid (w6.drew.cell? ⟨sb, 0, none⟩ = some (.map (some mb)) ∧ w6.drew.heap[xb]? = some (.cells #[.int .i64 2, .int .i64 1, .int .i64 gen, .slice a 0 k, .int .i64 2, .int .i64 off] 29) ∧ w6.drew.heap[tb]? = some (.cells #[.int .i64 tg, .slice sa tn tc, .int .i64 o0, .int .i64 o1, .int .i64 (max o2 off), .int .i64 o3] 61)) := hide ⟨cell_of (unhide H7).obj 0, unhide HX7, unhide HTB7⟩
      clear hst hm8 ht8 nsb nxb ntb H7 HX7 HTB7 T7 hd7
      refine wp_region_held_drew (S := fun w' => w'.cell? ⟨sb, 0, none⟩ = some (.map (some mb)) ∧ w'.heap[xb]? = some (.cells #[.int .i64 2, .int .i64 1, .int .i64 gen, .slice a 0 k, .int .i64 2, .int .i64 off] 29) ∧ w'.heap[tb]? = some (.cells #[.int .i64 tg, .slice sa tn tc, .int .i64 o0, .int .i64 o1, .int .i64 (max o2 off), .int .i64 o3] 61)) (by kernel_rfl) (unhide S7) (fun hHeld => ?_)
      clear S7
      generalize w6.drew = w7 at *
      refine take17 (i := 0) (d := 57) (v := .pointer (some ⟨sb, 0, none⟩)) rfl rfl (by kernel_rfl) (by kernel_rfl) (by kernel_rfl) (fun _ _ _ h => h) (Or.inl ⟨by rfl, by intro w' hSw; (try dsimp only at hSw); go_simp⟩) (by assumption) ?_; (try simp only [List.setIfInBounds_toArray, List.set_cons_zero, List.set_cons_succ])
      refine take17 (i := 1) (d := 58) (v := .pointer (some ⟨sb, 0, none⟩)) rfl rfl (by kernel_rfl) (by kernel_rfl) (by kernel_rfl) (fun _ _ _ h => h) (Or.inl ⟨by rfl, by intro w' hSw; (try dsimp only at hSw); go_simp⟩) (by assumption) ?_; (try simp only [List.setIfInBounds_toArray, List.set_cons_zero, List.set_cons_succ])
      refine take17 (i := 2) (d := 59) (v := .pointer (some ⟨sb, 0, none⟩)) rfl rfl (by kernel_rfl) (by kernel_rfl) (by kernel_rfl) (fun _ _ _ h => h) (Or.inl ⟨by rfl, by intro w' hSw; (try dsimp only at hSw); go_simp⟩) (by assumption) ?_; (try simp only [List.setIfInBounds_toArray, List.set_cons_zero, List.set_cons_succ])
      refine take17 (i := 3) (d := 60) (v := .map (some mb)) rfl rfl (by kernel_rfl) (by kernel_rfl) (by kernel_rfl) (fun _ _ _ h => h) (Or.inl ⟨by rfl, by intro w' hSw; (try dsimp only at hSw); obtain ⟨s0, s1, s2⟩ := hSw; go_simp⟩) (by assumption) ?_; (try simp only [List.setIfInBounds_toArray, List.set_cons_zero, List.set_cons_succ])
      refine take17 (i := 4) (d := 61) (v := .pointer (some ⟨xb, 1, none⟩)) rfl rfl (by kernel_rfl) (by kernel_rfl) (by kernel_rfl) (fun _ _ _ h => h) (Or.inl ⟨by rfl, by intro w' hSw; (try dsimp only at hSw); go_simp⟩) (by assumption) ?_; (try simp only [List.setIfInBounds_toArray, List.set_cons_zero, List.set_cons_succ])
      refine take17 (i := 5) (d := 62) (v := .int .i64 1) rfl rfl (by kernel_rfl) (by kernel_rfl) (by kernel_rfl) (fun _ _ _ h => h) (Or.inl ⟨by rfl, by intro w' hSw; (try dsimp only at hSw); obtain ⟨s0, s1, s2⟩ := hSw; have y1 := cell_of s1 1; simp at y1; go_simp⟩) (by assumption) ?_; (try simp only [List.setIfInBounds_toArray, List.set_cons_zero, List.set_cons_succ])
      refine take17 (i := 6) (d := 63) (v := .agg #[.int .i64 tg, .slice sa tn tc, .int .i64 o0, .int .i64 o1, .int .i64 (max o2 off), .int .i64 o3]) rfl rfl (by kernel_rfl) (by kernel_rfl) (by kernel_rfl) (fun _ _ _ h => h) (Or.inl ⟨by rfl, by intro w' hSw; (try dsimp only at hSw); obtain ⟨s0, s1, s2⟩ := hSw; have q0 := cell_of s2 0; have q1 := cell_of s2 1; have q2 := cell_of s2 2; have q3 := cell_of s2 3; have q4 := cell_of s2 4; have q5 := cell_of s2 5; simp at q0 q1 q2 q3 q4 q5; go_simp⟩) (by assumption) ?_; (try simp only [List.setIfInBounds_toArray, List.set_cons_zero, List.set_cons_succ])
      refine wpAnyH_ready (rs := [7]) (by kernel_rfl) (by simp) ?_
      refine AllReadyH.cons rfl (fun K hK => ?_) AllReadyH.nil
      go_simp
      refine hK.out _ _ (unhide S8) (fun hHeld => ?_)
      clear hK K
      (try simp only [Act.put, List.setIfInBounds_toArray])
      refine wpAnyH_done (by kernel_rfl) ?_ _
      clear hHeld hst'
      go_wp2
      go_roundw
      case rel => exact .inr ⟨by go_num, F8⟩
      case measure => simp [intOf]
    · go_wp2
      go_returns
      exact unhide hh
set_option maxRecDepth 100000 in
set_option maxHeartbeats 8000000 in
theorem hold_none3 {B : Nat} {w : World} {sb : Nat} {mv2 : Value} {m1 : List (Int × Tm)} {W : List (Int × Sl)} {gen off : Int} {v : Value} (h : GS B w sb (.map none) mv2 m1 W) (hv : OneR B w v ⟨2, 1, gen, [], 3, off⟩) (hB : B ≤ w.heap.size) :
    Calls Try.prog 18 #[.pointer (some ⟨sb, 0, none⟩), v] w fun e w' => HdP B w sb mv2 m1 W 3 off e w' := by
  obtain ⟨g, c, a, k, rfl, hw, _, hg⟩ := hv
  have y0 : w.cell? ⟨sb, 0, none⟩ = some (.map none) := cell_of h.obj 0
  have f0 : w.frozen? ⟨sb, 0, none⟩ = false := frozen_of h.obj 0
  have y2 : (w.alloc (.map #[] 0)).cell? ⟨sb, 0, none⟩ = some (.map none) := cell_of (heap_old _ h.obj) 0
  have f2 : (w.alloc (.map #[] 0)).frozen? ⟨sb, 0, none⟩ = false := frozen_of (heap_old _ h.obj) 0
  have hmm := @run_makeMap Try.prog
  have H := hide h
  have HW := hide hw
  have HG := hide hg
  have HB := hide hB
  have hq : ∀ (W : World) (b : Nat), (binOp .eql 49 (.map (some b)) (.map none)).run Try.prog W = .ok (.bool false) W := fun _ _ => by kernel_rfl
  have hq0 : ∀ (W : World), (binOp .eql 49 (.map none) (.map none)).run Try.prog W = .ok (.bool true) W := fun _ => by kernel_rfl
  clear h hw hg hB
  go_enter Try.func18, Try.ntmps18
  go_upto_region 2 with fail
  have b1 := (Below.refl w.heap.size w).alloc (Nat.le_refl _) (.map #[] 0)
  have tsb := touch_set (w.alloc (.map #[] 0)) sb 0 (.map (some w.heap.size))
  have hsb := lt_of_heap (unhide H).obj
  have hob := heap_set (heap_old (.map #[] 0) (unhide H).obj) 0 (.map (some w.heap.size))
  have hm2 : ∀ b, mv2 = .map (some b) → b < w.heap.size ∧ b ≠ sb := fun b e => ⟨((unhide H).map2 e).1.lt, fun e2 => by
    obtain ⟨es, ck, h1⟩ := ((unhide H).map2 e).1.block
    rw [e2, (unhide H).obj] at h1
    cases h1⟩
  have hm1 : m1 = [] := by
    rcases (unhide H).g with ⟨_, e⟩ | ⟨b, e, _⟩
    · exact e
    · cases e
  have H1 : Hid (GS B ((w.alloc (.map #[] 0)).setCell ⟨sb, 0, none⟩ (.map (some w.heap.size))) sb (.map (some w.heap.size)) mv2 m1 W) := hide ⟨hob, .inr ⟨w.heap.size, rfl, by rw [hm1]; exact (MM.made gK w).keep tsb (fun h => by omega), unhide HB⟩, by
      rcases (unhide H).wt with ⟨e, e2⟩ | ⟨b, e, m, hb⟩
      · exact .inl ⟨e, e2⟩
      · exact .inr ⟨b, e, (m.keep (Touch.of_below (S := fun _ => False) b1) (fun h => h)).keep tsb (fun h => (hm2 b e).2 h), hb⟩, fun b e e2 => by
      have := (hm2 b e2).1
      injection e with e3
      injection e3 with e4
      omega, (unhide H).few, (unhide H).hb⟩
  have T1 : Hid (Touch (fun k => B ≤ k) w ((w.alloc (.map #[] 0)).setCell ⟨sb, 0, none⟩ (.map (some w.heap.size)))) := hide ((Touch.of_below b1).trans (tsb.mono (fun k hk => by rw [hk]; exact (unhide H).hb)))
  have W1 : Hid (Wide ((w.alloc (.map #[] 0)).setCell ⟨sb, 0, none⟩ (.map (some w.heap.size))) 29 6 (.slice (some ⟨g, 0, none⟩) 1 c) 1 [.int .i64 2, .int .i64 1, .int .i64 gen, .slice a 0 k, .int .i64 3, .int .i64 off]) := hide (((unhide HW).later b1).keep tsb (fun q hq e => by
      obtain ⟨cs, h1⟩ := (unhide HW).heap hq
      rw [e, (unhide H).obj] at h1
      exact absurd (Obj.cells.inj (Option.some.inj h1)).2.1 (by decide)))
  clear y0 y2 f0 f2 hmm b1 tsb hsb hob hm2 hm1 H HW
  generalize (w.alloc (.map #[] 0)).setCell ⟨sb, 0, none⟩ (.map (some w.heap.size)) = w1 at *
  have HB1 : Hid (B ≤ w1.heap.size) := hide (Nat.le_trans (unhide HB) (unhide T1).size)
  generalize w.heap.size = mb at *
  go_wp2_with fail
  go_loopw [18] (fun iv wr => (iv = .int .i64 0 ∧ wr = w1) ∨ (iv = .int .i64 1 ∧ Hid (HdP B w sb mv2 m1 W 3 off (.returned (.tuple #[])) wr))) (fun iv _ => 1 - (intOf iv).toNat)
  case atStart => exact .inl ⟨rfl, rfl⟩
  case round =>
    rcases hrel with ⟨rfl, rfl⟩ | ⟨rfl, hh⟩
    · obtain ⟨a', cap, ev, _, _, _, _, hc⟩ := (unhide W1).parts
      obtain ⟨g', ea, _, hcell, _⟩ := hc (by omega)
      injection ev with e1 e2 e3
      rw [ea] at e1
      cases e1
      have z0 := hcell 0 (by omega)
      have z1 := hcell 1 (by omega)
      have z2 := hcell 2 (by omega)
      have z3 := hcell 3 (by omega)
      have z4 := hcell 4 (by omega)
      have z5 := hcell 5 (by omega)
      simp only [List.getElem?_cons_zero, List.getElem?_cons_succ] at z0 z1 z2 z3 z4 z5
      clear hcell hc ea e2 e3
      go_upto_region 5 with fail
      have b2 := (Below.refl wr.heap.size wr).alloc (Nat.le_refl _) (.cells #[.int .i64 2, .int .i64 1, .int .i64 gen, .slice a 0 k, .int .i64 3, .int .i64 off] 29)
      have HX := hide (heap_new wr (.cells #[.int .i64 2, .int .i64 1, .int .i64 gen, .slice a 0 k, .int .i64 3, .int .i64 off] 29))
      have H2 := hide ((unhide H1).later b2)
      have T2 := hide ((unhide T1).trans (Touch.of_below b2))
      have HXB : Hid (B ≤ wr.heap.size) := HB1
      clear b2 H1 W1 T1 z0 z1 z2 z3 z4 z5
      change Code.wp _ _ _ _ (wr.alloc (.cells #[.int .i64 2, .int .i64 1, .int .i64 gen, .slice a 0 k, .int .i64 3, .int .i64 off] 29))
      generalize wr.alloc (.cells #[.int .i64 2, .int .i64 1, .int .i64 gen, .slice a 0 k, .int .i64 3, .int .i64 off] 29) = w2 at *
      generalize wr.heap.size = xb at *
      obtain ⟨T, hT⟩ : ∃ T, T = tOf m1 := ⟨_, rfl⟩
      have HT := hide hT
      clear hT
      have LK : Hid (∀ W, Below w2.heap.size w2 W → (Instr.lookup 49 (.map (some mb)) (.int .i64 1) false).run Try.prog W = .ok (tmV T) W) := hide (fun W hb => by
        have := (((unhide H2).later hb).map1 rfl).1.look1 (M := gK) (s := 1) wf_one
        rw [unhide HT]
        exact this)
      obtain ⟨tg, tgb, tn, tc, o0, o1, o2, o3⟩ := T
      unfold tmV tmC at LK
      simp only at LK
      generalize hsa : Option.map (fun g => (⟨g, 0, none⟩ : Addr)) tgb = sa at *
      have HSA := hide hsa
      clear hsa
      have SK : Hid (∀ W, Below w2.heap.size w2 W → W.cell? ⟨sb, 0, none⟩ = some (.map (some mb)) ∧ W.cell? ⟨xb, 1, none⟩ = some (.int .i64 1) ∧ (Instr.lookup 49 (.map (some mb)) (.int .i64 1) false).run Try.prog W = .ok (.agg #[.int .i64 tg, .slice sa tn tc, .int .i64 o0, .int .i64 o1, .int .i64 o2, .int .i64 o3]) W) := hide (fun W hb => ⟨cell_of (below_keep hb (unhide H2).obj) 0, cell_of (below_keep hb (unhide HX)) 1, unhide LK W hb⟩)
      clear LK
      refine wp_region_held_drew (S := fun w' => Below w2.heap.size w2 w') (by kernel_rfl) ((Below.refl _ _).drew) (fun hHeld => ?_)
      refine take17 (i := 0) (d := 22) (v := .pointer (some ⟨sb, 0, none⟩)) rfl rfl (by kernel_rfl) (by kernel_rfl) (by kernel_rfl) (fun _ _ _ h => h) (Or.inl ⟨by rfl, by intro w' hSw; (try dsimp only at hSw); go_simp⟩) (by assumption) ?_; (try simp only [List.setIfInBounds_toArray, List.set_cons_zero, List.set_cons_succ])
      refine take17 (i := 1) (d := 23) (v := .pointer (some ⟨sb, 0, none⟩)) rfl rfl (by kernel_rfl) (by kernel_rfl) (by kernel_rfl) (fun _ _ _ h => h) (Or.inl ⟨by rfl, by intro w' hSw; (try dsimp only at hSw); go_simp⟩) (by assumption) ?_; (try simp only [List.setIfInBounds_toArray, List.set_cons_zero, List.set_cons_succ])
      refine take17 (i := 2) (d := 24) (v := .pointer (some ⟨sb, 0, none⟩)) rfl rfl (by kernel_rfl) (by kernel_rfl) (by kernel_rfl) (fun _ _ _ h => h) (Or.inl ⟨by rfl, by intro w' hSw; (try dsimp only at hSw); go_simp⟩) (by assumption) ?_; (try simp only [List.setIfInBounds_toArray, List.set_cons_zero, List.set_cons_succ])
      refine take17 (i := 3) (d := 25) (v := .map (some mb)) rfl rfl (by kernel_rfl) (by kernel_rfl) (by kernel_rfl) (fun _ _ _ h => h) (Or.inl ⟨by rfl, by intro w' hSw; (try dsimp only at hSw); obtain ⟨s0, s1, sl⟩ := unhide SK w' hSw; go_simp⟩) (by assumption) ?_; (try simp only [List.setIfInBounds_toArray, List.set_cons_zero, List.set_cons_succ])
      refine take17 (i := 4) (d := 26) (v := .pointer (some ⟨xb, 1, none⟩)) rfl rfl (by kernel_rfl) (by kernel_rfl) (by kernel_rfl) (fun _ _ _ h => h) (Or.inl ⟨by rfl, by intro w' hSw; (try dsimp only at hSw); go_simp⟩) (by assumption) ?_; (try simp only [List.setIfInBounds_toArray, List.set_cons_zero, List.set_cons_succ])
      refine take17 (i := 5) (d := 27) (v := .int .i64 1) rfl rfl (by kernel_rfl) (by kernel_rfl) (by kernel_rfl) (fun _ _ _ h => h) (Or.inl ⟨by rfl, by intro w' hSw; (try dsimp only at hSw); obtain ⟨s0, s1, sl⟩ := unhide SK w' hSw; go_simp⟩) (by assumption) ?_; (try simp only [List.setIfInBounds_toArray, List.set_cons_zero, List.set_cons_succ])
      refine take17 (i := 6) (d := 28) (v := .agg #[.int .i64 tg, .slice sa tn tc, .int .i64 o0, .int .i64 o1, .int .i64 o2, .int .i64 o3]) rfl rfl (by kernel_rfl) (by kernel_rfl) (by kernel_rfl) (fun _ _ _ h => h) (Or.inl ⟨by rfl, by intro w' hSw; (try dsimp only at hSw); obtain ⟨s0, s1, sl⟩ := unhide SK w' hSw; go_simp⟩) (by assumption) ?_; (try simp only [List.setIfInBounds_toArray, List.set_cons_zero, List.set_cons_succ])
      refine wpAnyH_ready (rs := [7]) (by kernel_rfl) (by simp) ?_
      refine AllReadyH.cons rfl (fun K hK => ?_) AllReadyH.nil
      go_simp
      have b3 : Below w2.heap.size w2 (w2.drew.alloc (.cells #[.int .i64 0, .slice none 0 0, .int .i64 0, .int .i64 0, .int .i64 0, .int .i64 0] 61)) := ((Below.refl _ _).drew).alloc (Nat.le_refl _) _
      have HTB := hide (heap_new w2.drew (.cells #[.int .i64 0, .slice none 0 0, .int .i64 0, .int .i64 0, .int .i64 0, .int .i64 0] 61))
      have HB3 := hide b3
      refine hK.out _ _ b3 (fun hHeld => ?_)
      clear hK K b3
      (try simp only [Act.put, List.setIfInBounds_toArray, List.set_cons_zero, List.set_cons_succ])
      change wpAnyH _ _ _ _ _ _ _ _ (w2.drew.alloc (.cells #[.int .i64 0, .slice none 0 0, .int .i64 0, .int .i64 0, .int .i64 0, .int .i64 0] 61))
      have hdz : w2.drew.heap.size = w2.heap.size := rfl
      rw [hdz] at HTB
      clear hdz
      generalize w2.drew.alloc (.cells #[.int .i64 0, .slice none 0 0, .int .i64 0, .int .i64 0, .int .i64 0, .int .i64 0] 61) = w3 at *
      refine wpAnyH_ready (rs := [8]) (by kernel_rfl) (by simp) ?_
      refine AllReadyH.cons rfl (fun K hK => ?_) AllReadyH.nil
      rw [if_pos (by rfl)]
      obtain ⟨q1, q2⟩ := heap_setCells [.int .i64 tg, .slice sa tn tc, .int .i64 o0, .int .i64 o1, .int .i64 o2, .int .i64 o3] 0 w3 _ (unhide HTB)
      have HTB4 : Hid ((w3.setCells w2.heap.size 0 [.int .i64 tg, .slice sa tn tc, .int .i64 o0, .int .i64 o1, .int .i64 o2, .int .i64 o3]).heap[w2.heap.size]? = some (.cells #[.int .i64 tg, .slice sa tn tc, .int .i64 o0, .int .i64 o1, .int .i64 o2, .int .i64 o3] 61)) := hide q1
      have HB4 := hide (below_touch (unhide HB3) q2 (unhide HB3).size (fun k hk => by omega))
      refine wp_store_mid 61 (.tmp 6) (.tmp 28) rfl w2.heap.size 0 #[.int .i64 tg, .slice sa tn tc, .int .i64 o0, .int .i64 o1, .int .i64 o2, .int .i64 o3] rfl rfl (there_of (unhide HTB) (by show 0 + 6 ≤ 6; decide)) (by kernel_rfl) (by simp [Value.oneCell']) ?_
      refine hK.out _ _ (unhide HB4) (fun hHeld => ?_)
      clear hK K q1 q2 HTB HB3
      (try simp only [Act.put, List.setIfInBounds_toArray])
      change wpAnyH _ _ _ _ _ _ _ _ (w3.setCells w2.heap.size 0 [.int .i64 tg, .slice sa tn tc, .int .i64 o0, .int .i64 o1, .int .i64 o2, .int .i64 o3])
      generalize w3.setCells w2.heap.size 0 [.int .i64 tg, .slice sa tn tc, .int .i64 o0, .int .i64 o1, .int .i64 o2, .int .i64 o3] = w4 at *
      refine wpAnyH_done (by kernel_rfl) ?_ _
      have H4 := hide ((unhide H2).later (unhide HB4))
      have HX4 := hide (below_keep (unhide HB4) (unhide HX))
      have T4 := hide ((unhide T2).trans (Touch.of_below (unhide HB4)))
      have HW2 : Hid (B ≤ w2.heap.size) := hide (Nat.le_trans (unhide HXB) (Nat.le_of_lt (lt_of_heap (unhide HX))))
      have HXT : Hid (xb ≠ w2.heap.size) := hide (by have := lt_of_heap (unhide HX); omega)
      have HST : Hid (∀ q, Own3 sb (.map (some mb)) mv2 q → q ≠ w2.heap.size) := hide (fun q hq e => (unhide H4).apart (e ▸ unhide HTB4) (by decide) hq)
      clear hHeld SK H2 HX T2 HB4
      generalize w2.heap.size = tb at *
      have x0 := cell_of (unhide HX4) 0
      simp at x0
      go_upto_region 7 with fail
      clear x0
      have hd5 : Below w4.heap.size w4 w4.drew := (Below.refl _ _).drew
      have H5 := hide ((unhide H4).later hd5)
      have HX5 := hide (below_keep hd5 (unhide HX4))
      have HTB5 := hide (below_keep hd5 (unhide HTB4))
      have T5 := hide ((unhide T4).drew)
      clear H4 HX4 HTB4 T4
      refine wp_region_held_drew (S := fun w' => w'.heap[xb]? = some (.cells #[.int .i64 2, .int .i64 1, .int .i64 gen, .slice a 0 k, .int .i64 3, .int .i64 off] 29)) (by kernel_rfl) (unhide HX5) (fun hHeld => ?_)
      generalize w4.drew = w5 at *
      clear hd5
      refine take17 (i := 0) (d := 33) (v := .pointer (some ⟨xb, 4, none⟩)) rfl rfl (by kernel_rfl) (by kernel_rfl) (by kernel_rfl) (fun _ _ _ h => h) (Or.inl ⟨by rfl, by intro w' hSw; (try dsimp only at hSw); go_simp⟩) (by assumption) ?_; (try simp only [List.setIfInBounds_toArray, List.set_cons_zero, List.set_cons_succ])
      refine take17 (i := 1) (d := 34) (v := .int .i64 3) rfl rfl (by kernel_rfl) (by kernel_rfl) (by kernel_rfl) (fun _ _ _ h => h) (Or.inl ⟨by rfl, by intro w' hSw; (try dsimp only at hSw); have y4 := cell_of hSw 4; simp at y4; go_simp⟩) (by assumption) ?_; (try simp only [List.setIfInBounds_toArray, List.set_cons_zero, List.set_cons_succ])
      refine take17 (i := 2) (d := 35) (v := .pointer (some ⟨xb, 4, none⟩)) rfl rfl (by kernel_rfl) (by kernel_rfl) (by kernel_rfl) (fun _ _ _ h => h) (Or.inl ⟨by rfl, by intro w' hSw; (try dsimp only at hSw); go_simp⟩) (by assumption) ?_; (try simp only [List.setIfInBounds_toArray, List.set_cons_zero, List.set_cons_succ])
      refine take17 (i := 3) (d := 36) (v := .int .i64 3) rfl rfl (by kernel_rfl) (by kernel_rfl) (by kernel_rfl) (fun _ _ _ h => h) (Or.inl ⟨by rfl, by intro w' hSw; (try dsimp only at hSw); have y4 := cell_of hSw 4; simp at y4; go_simp⟩) (by assumption) ?_; (try simp only [List.setIfInBounds_toArray, List.set_cons_zero, List.set_cons_succ])
      refine take17 (i := 4) (d := 37) (v := .pointer (some ⟨tb, 2, none⟩)) rfl rfl (by kernel_rfl) (by kernel_rfl) (by kernel_rfl) (fun _ _ _ h => h) (Or.inl ⟨by rfl, by intro w' hSw; (try dsimp only at hSw); go_simp⟩) (by assumption) ?_; (try simp only [List.setIfInBounds_toArray, List.set_cons_zero, List.set_cons_succ])
      refine take17 (i := 5) (d := 38) (v := .pointer (some ⟨tb, 5, none⟩)) rfl rfl (by kernel_rfl) (by kernel_rfl) (by kernel_rfl) (fun _ _ _ h => h) (Or.inl ⟨by rfl, by intro w' hSw; (try dsimp only at hSw); go_simp⟩) (by assumption) ?_; (try simp only [List.setIfInBounds_toArray, List.set_cons_zero, List.set_cons_succ])
      refine take17 (i := 7) (d := 40) (v := .pointer (some ⟨xb, 5, none⟩)) rfl rfl (by kernel_rfl) (by kernel_rfl) (by kernel_rfl) (fun _ _ _ h => h) (Or.inl ⟨by rfl, by intro w' hSw; (try dsimp only at hSw); go_simp⟩) (by assumption) ?_; (try simp only [List.setIfInBounds_toArray, List.set_cons_zero, List.set_cons_succ])
      refine take17 (i := 8) (d := 41) (v := .int .i64 off) rfl rfl (by kernel_rfl) (by kernel_rfl) (by kernel_rfl) (fun _ _ _ h => h) (Or.inl ⟨by rfl, by intro w' hSw; (try dsimp only at hSw); have y5 := cell_of hSw 5; simp at y5; go_simp⟩) (by assumption) ?_; (try simp only [List.setIfInBounds_toArray, List.set_cons_zero, List.set_cons_succ])
      refine take17 (i := 10) (d := 43) (v := .pointer (some ⟨tb, 2, none⟩)) rfl rfl (by kernel_rfl) (by kernel_rfl) (by kernel_rfl) (fun _ _ _ h => h) (Or.inl ⟨by rfl, by intro w' hSw; (try dsimp only at hSw); go_simp⟩) (by assumption) ?_; (try simp only [List.setIfInBounds_toArray, List.set_cons_zero, List.set_cons_succ])
      have zt : w5.cell? ⟨tb, 5, none⟩ = some (.int .i64 o3) := cell_of (unhide HTB5) 5
      refine wpAnyH_ready (rs := [6]) (by kernel_rfl) (by simp) ?_
      refine AllReadyH.cons rfl (fun K hK => ?_) AllReadyH.nil
      go_simp
      refine hK.out _ _ (by assumption) (fun hHeld => ?_)
      clear hK K
      (try simp only [Act.put, List.setIfInBounds_toArray, List.set_cons_zero, List.set_cons_succ])
      refine take17 (i := 9) (d := 42) (v := .int .i64 (max o3 off)) rfl rfl (by kernel_rfl) (by kernel_rfl) (by kernel_rfl) (fun _ _ _ h => h) (Or.inl ⟨by rfl, by intro w' hSw; (try dsimp only at hSw); go_simp⟩) (by assumption) ?_; (try simp only [List.setIfInBounds_toArray, List.set_cons_zero, List.set_cons_succ])
      refine take17 (i := 11) (d := 44) (v := .pointer (some ⟨tb, 5, none⟩)) rfl rfl (by kernel_rfl) (by kernel_rfl) (by kernel_rfl) (fun _ _ _ h => h) (Or.inl ⟨by rfl, by intro w' hSw; (try dsimp only at hSw); go_simp⟩) (by assumption) ?_; (try simp only [List.setIfInBounds_toArray, List.set_cons_zero, List.set_cons_succ])
      have ft : w5.frozen? ⟨tb, 5, none⟩ = false := frozen_of (unhide HTB5) 5
      have tt := touch_set w5 tb 5 (.int .i64 (max o3 off))
      have HTB6 := hide (heap_set (unhide HTB5) 5 (.int .i64 (max o3 off)))
      have HX6 := hide (tt.keep (unhide HX5) (unhide HXT))
      have H6 := hide ((unhide H5).keep tt (unhide HST))
      have T6 := hide ((unhide T5).trans (tt.mono (fun q hq => by rw [hq]; exact unhide HW2)))
      clear tt HTB5 HX5 H5 T5
      refine wpAnyH_ready (rs := [12]) (by kernel_rfl) (by simp) ?_
      refine AllReadyH.cons rfl (fun K hK => ?_) AllReadyH.nil
      go_simp
      refine hK.out _ _ (unhide HX6) (fun hHeld => ?_)
      clear hK K zt ft
      (try simp only [Act.put, List.setIfInBounds_toArray])
      generalize w5.setCell ⟨tb, 5, none⟩ (.int .i64 (max o3 off)) = w6 at *
      refine wpAnyH_done (by kernel_rfl) ?_ _
      clear hHeld
      go_upto_region 10 with fail
      have hd7 : Below w6.heap.size w6 w6.drew := (Below.refl _ _).drew
      have H7 := hide ((unhide H6).later hd7)
      have HX7 := hide (below_keep hd7 (unhide HX6))
      have HTB7 := hide (below_keep hd7 (unhide HTB6))
      have T7 := hide ((unhide T6).drew)
      clear H6 HX6 HTB6 T6
      obtain ⟨w8, hst, hm8, ht8⟩ := ((unhide H7).map1 rfl).1.store (M := gK) (s := 1) (by rcases (unhide H7).few with e | ⟨t, e⟩ <;> rw [e] <;> (show _ < maxLen; unfold maxLen; simp)) wf_one ⟨tg, tgb, tn, tc, o0, o1, o2, (max o3 off)⟩
      have hst' : (Instr.mapUpdate 49 (.map (some mb)) (.int .i64 1) (.agg #[.int .i64 tg, .slice sa tn tc, .int .i64 o0, .int .i64 o1, .int .i64 o2, .int .i64 (max o3 off)])).run Try.prog w6.drew = .ok () w8 := by
        rw [← unhide HSA]
        exact hst
      have nsb : sb ≠ mb := fun e => by
        obtain ⟨es, ck, h1⟩ := ((unhide H7).map1 rfl).1.block
        rw [← e, (unhide H7).obj] at h1
        cases h1
      have nxb : xb ≠ mb := fun e => by
        obtain ⟨es, ck, h1⟩ := ((unhide H7).map1 rfl).1.block
        rw [← e, unhide HX7] at h1
        cases h1
      have ntb : tb ≠ mb := fun e => by
        obtain ⟨es, ck, h1⟩ := ((unhide H7).map1 rfl).1.block
        rw [← e, unhide HTB7] at h1
        cases h1
      have F8 : Hid (HdP B w sb mv2 m1 W 3 off (.returned (.tuple #[])) w8) := hide ⟨rfl, mb, (1, ⟨tg, tgb, tn, tc, o0, o1, o2, (max o3 off)⟩) :: mdel m1 1, ⟨ht8.keep (unhide H7).obj nsb, .inr ⟨mb, rfl, hm8, ((unhide H7).map1 rfl).2⟩, by
        rcases (unhide H7).wt with ⟨e, e2⟩ | ⟨b, e, m, hb⟩
        · exact .inl ⟨e, e2⟩
        · exact .inr ⟨b, e, m.keep ht8 (fun e2 => (unhide H7).ne mb rfl (by rw [e, e2])), hb⟩, (unhide H7).ne, .inr ⟨_, by rw [mdel_few (unhide H7).few]⟩, (unhide H7).hb⟩, by
        rw [← unhide HT]
        simp [tOf, matx, mgot, tPut], (unhide T7).trans (ht8.mono (fun q hq => by rw [hq]; exact ((unhide H7).map1 rfl).2))⟩
      have S8 : Hid (w8.cell? ⟨sb, 0, none⟩ = some (.map (some mb)) ∧ w8.heap[xb]? = some (.cells #[.int .i64 2, .int .i64 1, .int .i64 gen, .slice a 0 k, .int .i64 3, .int .i64 off] 29) ∧ w8.heap[tb]? = some (.cells #[.int .i64 tg, .slice sa tn tc, .int .i64 o0, .int .i64 o1, .int .i64 o2, .int .i64 (max o3 off)] 61)) := hide ⟨cell_of (ht8.keep (unhide H7).obj nsb) 0, ht8.keep (unhide HX7) nxb, ht8.keep (unhide HTB7) ntb⟩
      have S7 : Hid (w6.drew.cell? ⟨sb, 0, none⟩ = some (.map (some mb)) ∧ w6.drew.heap[xb]? = some (.cells #[.int .i64 2, .int .i64 1, .int .i64 gen, .slice a 0 k, .int .i64 3, .int .i64 off] 29) ∧ w6.drew.heap[tb]? = some (.cells #[.int .i64 tg, .slice sa tn tc, .int .i64 o0, .int .i64 o1, .int .i64 o2, .int .i64 (max o3 off)] 61)) := hide ⟨cell_of (unhide H7).obj 0, unhide HX7, unhide HTB7⟩
      clear hst hm8 ht8 nsb nxb ntb H7 HX7 HTB7 T7 hd7
      refine wp_region_held_drew (S := fun w' => w'.cell? ⟨sb, 0, none⟩ = some (.map (some mb)) ∧ w'.heap[xb]? = some (.cells #[.int .i64 2, .int .i64 1, .int .i64 gen, .slice a 0 k, .int .i64 3, .int .i64 off] 29) ∧ w'.heap[tb]? = some (.cells #[.int .i64 tg, .slice sa tn tc, .int .i64 o0, .int .i64 o1, .int .i64 o2, .int .i64 (max o3 off)] 61)) (by kernel_rfl) (unhide S7) (fun hHeld => ?_)
      clear S7
      generalize w6.drew = w7 at *
      refine take17 (i := 0) (d := 57) (v := .pointer (some ⟨sb, 0, none⟩)) rfl rfl (by kernel_rfl) (by kernel_rfl) (by kernel_rfl) (fun _ _ _ h => h) (Or.inl ⟨by rfl, by intro w' hSw; (try dsimp only at hSw); go_simp⟩) (by assumption) ?_; (try simp only [List.setIfInBounds_toArray, List.set_cons_zero, List.set_cons_succ])
      refine take17 (i := 1) (d := 58) (v := .pointer (some ⟨sb, 0, none⟩)) rfl rfl (by kernel_rfl) (by kernel_rfl) (by kernel_rfl) (fun _ _ _ h => h) (Or.inl ⟨by rfl, by intro w' hSw; (try dsimp only at hSw); go_simp⟩) (by assumption) ?_; (try simp only [List.setIfInBounds_toArray, List.set_cons_zero, List.set_cons_succ])
      refine take17 (i := 2) (d := 59) (v := .pointer (some ⟨sb, 0, none⟩)) rfl rfl (by kernel_rfl) (by kernel_rfl) (by kernel_rfl) (fun _ _ _ h => h) (Or.inl ⟨by rfl, by intro w' hSw; (try dsimp only at hSw); go_simp⟩) (by assumption) ?_; (try simp only [List.setIfInBounds_toArray, List.set_cons_zero, List.set_cons_succ])
      refine take17 (i := 3) (d := 60) (v := .map (some mb)) rfl rfl (by kernel_rfl) (by kernel_rfl) (by kernel_rfl) (fun _ _ _ h => h) (Or.inl ⟨by rfl, by intro w' hSw; (try dsimp only at hSw); obtain ⟨s0, s1, s2⟩ := hSw; go_simp⟩) (by assumption) ?_; (try simp only [List.setIfInBounds_toArray, List.set_cons_zero, List.set_cons_succ])
      refine take17 (i := 4) (d := 61) (v := .pointer (some ⟨xb, 1, none⟩)) rfl rfl (by kernel_rfl) (by kernel_rfl) (by kernel_rfl) (fun _ _ _ h => h) (Or.inl ⟨by rfl, by intro w' hSw; (try dsimp only at hSw); go_simp⟩) (by assumption) ?_; (try simp only [List.setIfInBounds_toArray, List.set_cons_zero, List.set_cons_succ])
      refine take17 (i := 5) (d := 62) (v := .int .i64 1) rfl rfl (by kernel_rfl) (by kernel_rfl) (by kernel_rfl) (fun _ _ _ h => h) (Or.inl ⟨by rfl, by intro w' hSw; (try dsimp only at hSw); obtain ⟨s0, s1, s2⟩ := hSw; have y1 := cell_of s1 1; simp at y1; go_simp⟩) (by assumption) ?_; (try simp only [List.setIfInBounds_toArray, List.set_cons_zero, List.set_cons_succ])
      refine take17 (i := 6) (d := 63) (v := .agg #[.int .i64 tg, .slice sa tn tc, .int .i64 o0, .int .i64 o1, .int .i64 o2, .int .i64 (max o3 off)]) rfl rfl (by kernel_rfl) (by kernel_rfl) (by kernel_rfl) (fun _ _ _ h => h) (Or.inl ⟨by rfl, by intro w' hSw; (try dsimp only at hSw); obtain ⟨s0, s1, s2⟩ := hSw; have q0 := cell_of s2 0; have q1 := cell_of s2 1; have q2 := cell_of s2 2; have q3 := cell_of s2 3; have q4 := cell_of s2 4; have q5 := cell_of s2 5; simp at q0 q1 q2 q3 q4 q5; go_simp⟩) (by assumption) ?_; (try simp only [List.setIfInBounds_toArray, List.set_cons_zero, List.set_cons_succ])
      refine wpAnyH_ready (rs := [7]) (by kernel_rfl) (by simp) ?_
      refine AllReadyH.cons rfl (fun K hK => ?_) AllReadyH.nil
      go_simp
      refine hK.out _ _ (unhide S8) (fun hHeld => ?_)
      clear hK K
      (try simp only [Act.put, List.setIfInBounds_toArray])
      refine wpAnyH_done (by kernel_rfl) ?_ _
      clear hHeld hst'
      go_wp2
      go_roundw
      case rel => exact .inr ⟨by go_num, F8⟩
      case measure => simp [intOf]
    · go_wp2
      go_returns
      exact unhide hh
set_option maxRecDepth 100000 in
set_option maxHeartbeats 8000000 in
theorem hold_some0 {B : Nat} {w : World} {sb : Nat} {mv2 : Value} {m1 : List (Int × Tm)} {W : List (Int × Sl)} {gen off : Int} {v : Value} {mb : Nat} (h : GS B w sb (.map (some mb)) mv2 m1 W) (hv : OneR B w v ⟨2, 1, gen, [], 0, off⟩) (hB : B ≤ w.heap.size) :
    Calls Try.prog 18 #[.pointer (some ⟨sb, 0, none⟩), v] w fun e w' => HdP B w sb mv2 m1 W 0 off e w' := by
  obtain ⟨g, c, a, k, rfl, hw, _, hg⟩ := hv
  have y0 : w.cell? ⟨sb, 0, none⟩ = some (.map (some mb)) := cell_of h.obj 0
  have H := hide h
  have HW := hide hw
  have HG := hide hg
  have HB := hide hB
  have hq : ∀ (W : World) (b : Nat), (binOp .eql 49 (.map (some b)) (.map none)).run Try.prog W = .ok (.bool false) W := fun _ _ => by kernel_rfl
  have hq0 : ∀ (W : World), (binOp .eql 49 (.map none) (.map none)).run Try.prog W = .ok (.bool true) W := fun _ => by kernel_rfl
  clear h hw hg hB
  go_enter Try.func18, Try.ntmps18
  go_upto_region 2 with fail
  have H1 := H
  have W1 : Hid (Wide w 29 6 (.slice (some ⟨g, 0, none⟩) 1 c) 1 [.int .i64 2, .int .i64 1, .int .i64 gen, .slice a 0 k, .int .i64 0, .int .i64 off]) := HW
  have T1 : Hid (Touch (fun k => B ≤ k) w w) := hide (Touch.refl _ _)
  have HB1 := HB
  clear y0 H HW
  obtain ⟨w1, hw1⟩ : ∃ w1, w1 = w := ⟨_, rfl⟩
  rw [← hw1] at H1 W1 HB1
  have T1' : Hid (Touch (fun k => B ≤ k) w w1) := by rw [hw1]; exact T1
  clear T1
  have T1 := T1'
  clear T1'
  rw [← hw1]
  clear hw1
  go_wp2_with fail
  go_loopw [18] (fun iv wr => (iv = .int .i64 0 ∧ wr = w1) ∨ (iv = .int .i64 1 ∧ Hid (HdP B w sb mv2 m1 W 0 off (.returned (.tuple #[])) wr))) (fun iv _ => 1 - (intOf iv).toNat)
  case atStart => exact .inl ⟨rfl, rfl⟩
  case round =>
    rcases hrel with ⟨rfl, rfl⟩ | ⟨rfl, hh⟩
    · obtain ⟨a', cap, ev, _, _, _, _, hc⟩ := (unhide W1).parts
      obtain ⟨g', ea, _, hcell, _⟩ := hc (by omega)
      injection ev with e1 e2 e3
      rw [ea] at e1
      cases e1
      have z0 := hcell 0 (by omega)
      have z1 := hcell 1 (by omega)
      have z2 := hcell 2 (by omega)
      have z3 := hcell 3 (by omega)
      have z4 := hcell 4 (by omega)
      have z5 := hcell 5 (by omega)
      simp only [List.getElem?_cons_zero, List.getElem?_cons_succ] at z0 z1 z2 z3 z4 z5
      clear hcell hc ea e2 e3
      go_upto_region 5 with fail
      have b2 := (Below.refl wr.heap.size wr).alloc (Nat.le_refl _) (.cells #[.int .i64 2, .int .i64 1, .int .i64 gen, .slice a 0 k, .int .i64 0, .int .i64 off] 29)
      have HX := hide (heap_new wr (.cells #[.int .i64 2, .int .i64 1, .int .i64 gen, .slice a 0 k, .int .i64 0, .int .i64 off] 29))
      have H2 := hide ((unhide H1).later b2)
      have T2 := hide ((unhide T1).trans (Touch.of_below b2))
      have HXB : Hid (B ≤ wr.heap.size) := HB1
      clear b2 H1 W1 T1 z0 z1 z2 z3 z4 z5
      change Code.wp _ _ _ _ (wr.alloc (.cells #[.int .i64 2, .int .i64 1, .int .i64 gen, .slice a 0 k, .int .i64 0, .int .i64 off] 29))
      generalize wr.alloc (.cells #[.int .i64 2, .int .i64 1, .int .i64 gen, .slice a 0 k, .int .i64 0, .int .i64 off] 29) = w2 at *
      generalize wr.heap.size = xb at *
      obtain ⟨T, hT⟩ : ∃ T, T = tOf m1 := ⟨_, rfl⟩
      have HT := hide hT
      clear hT
      have LK : Hid (∀ W, Below w2.heap.size w2 W → (Instr.lookup 49 (.map (some mb)) (.int .i64 1) false).run Try.prog W = .ok (tmV T) W) := hide (fun W hb => by
        have := (((unhide H2).later hb).map1 rfl).1.look1 (M := gK) (s := 1) wf_one
        rw [unhide HT]
        exact this)
      obtain ⟨tg, tgb, tn, tc, o0, o1, o2, o3⟩ := T
      unfold tmV tmC at LK
      simp only at LK
      generalize hsa : Option.map (fun g => (⟨g, 0, none⟩ : Addr)) tgb = sa at *
      have HSA := hide hsa
      clear hsa
      have SK : Hid (∀ W, Below w2.heap.size w2 W → W.cell? ⟨sb, 0, none⟩ = some (.map (some mb)) ∧ W.cell? ⟨xb, 1, none⟩ = some (.int .i64 1) ∧ (Instr.lookup 49 (.map (some mb)) (.int .i64 1) false).run Try.prog W = .ok (.agg #[.int .i64 tg, .slice sa tn tc, .int .i64 o0, .int .i64 o1, .int .i64 o2, .int .i64 o3]) W) := hide (fun W hb => ⟨cell_of (below_keep hb (unhide H2).obj) 0, cell_of (below_keep hb (unhide HX)) 1, unhide LK W hb⟩)
      clear LK
      refine wp_region_held_drew (S := fun w' => Below w2.heap.size w2 w') (by kernel_rfl) ((Below.refl _ _).drew) (fun hHeld => ?_)
      refine take17 (i := 0) (d := 22) (v := .pointer (some ⟨sb, 0, none⟩)) rfl rfl (by kernel_rfl) (by kernel_rfl) (by kernel_rfl) (fun _ _ _ h => h) (Or.inl ⟨by rfl, by intro w' hSw; (try dsimp only at hSw); go_simp⟩) (by assumption) ?_; (try simp only [List.setIfInBounds_toArray, List.set_cons_zero, List.set_cons_succ])
      refine take17 (i := 1) (d := 23) (v := .pointer (some ⟨sb, 0, none⟩)) rfl rfl (by kernel_rfl) (by kernel_rfl) (by kernel_rfl) (fun _ _ _ h => h) (Or.inl ⟨by rfl, by intro w' hSw; (try dsimp only at hSw); go_simp⟩) (by assumption) ?_; (try simp only [List.setIfInBounds_toArray, List.set_cons_zero, List.set_cons_succ])
      refine take17 (i := 2) (d := 24) (v := .pointer (some ⟨sb, 0, none⟩)) rfl rfl (by kernel_rfl) (by kernel_rfl) (by kernel_rfl) (fun _ _ _ h => h) (Or.inl ⟨by rfl, by intro w' hSw; (try dsimp only at hSw); go_simp⟩) (by assumption) ?_; (try simp only [List.setIfInBounds_toArray, List.set_cons_zero, List.set_cons_succ])
      refine take17 (i := 3) (d := 25) (v := .map (some mb)) rfl rfl (by kernel_rfl) (by kernel_rfl) (by kernel_rfl) (fun _ _ _ h => h) (Or.inl ⟨by rfl, by intro w' hSw; (try dsimp only at hSw); obtain ⟨s0, s1, sl⟩ := unhide SK w' hSw; go_simp⟩) (by assumption) ?_; (try simp only [List.setIfInBounds_toArray, List.set_cons_zero, List.set_cons_succ])
      refine take17 (i := 4) (d := 26) (v := .pointer (some ⟨xb, 1, none⟩)) rfl rfl (by kernel_rfl) (by kernel_rfl) (by kernel_rfl) (fun _ _ _ h => h) (Or.inl ⟨by rfl, by intro w' hSw; (try dsimp only at hSw); go_simp⟩) (by assumption) ?_; (try simp only [List.setIfInBounds_toArray, List.set_cons_zero, List.set_cons_succ])
      refine take17 (i := 5) (d := 27) (v := .int .i64 1) rfl rfl (by kernel_rfl) (by kernel_rfl) (by kernel_rfl) (fun _ _ _ h => h) (Or.inl ⟨by rfl, by intro w' hSw; (try dsimp only at hSw); obtain ⟨s0, s1, sl⟩ := unhide SK w' hSw; go_simp⟩) (by assumption) ?_; (try simp only [List.setIfInBounds_toArray, List.set_cons_zero, List.set_cons_succ])
      refine take17 (i := 6) (d := 28) (v := .agg #[.int .i64 tg, .slice sa tn tc, .int .i64 o0, .int .i64 o1, .int .i64 o2, .int .i64 o3]) rfl rfl (by kernel_rfl) (by kernel_rfl) (by kernel_rfl) (fun _ _ _ h => h) (Or.inl ⟨by rfl, by intro w' hSw; (try dsimp only at hSw); obtain ⟨s0, s1, sl⟩ := unhide SK w' hSw; go_simp⟩) (by assumption) ?_; (try simp only [List.setIfInBounds_toArray, List.set_cons_zero, List.set_cons_succ])
      refine wpAnyH_ready (rs := [7]) (by kernel_rfl) (by simp) ?_
      refine AllReadyH.cons rfl (fun K hK => ?_) AllReadyH.nil
      go_simp
      have b3 : Below w2.heap.size w2 (w2.drew.alloc (.cells #[.int .i64 0, .slice none 0 0, .int .i64 0, .int .i64 0, .int .i64 0, .int .i64 0] 61)) := ((Below.refl _ _).drew).alloc (Nat.le_refl _) _
      have HTB := hide (heap_new w2.drew (.cells #[.int .i64 0, .slice none 0 0, .int .i64 0, .int .i64 0, .int .i64 0, .int .i64 0] 61))
      have HB3 := hide b3
      refine hK.out _ _ b3 (fun hHeld => ?_)
      clear hK K b3
      (try simp only [Act.put, List.setIfInBounds_toArray, List.set_cons_zero, List.set_cons_succ])
      change wpAnyH _ _ _ _ _ _ _ _ (w2.drew.alloc (.cells #[.int .i64 0, .slice none 0 0, .int .i64 0, .int .i64 0, .int .i64 0, .int .i64 0] 61))
      have hdz : w2.drew.heap.size = w2.heap.size := rfl
      rw [hdz] at HTB
      clear hdz
      generalize w2.drew.alloc (.cells #[.int .i64 0, .slice none 0 0, .int .i64 0, .int .i64 0, .int .i64 0, .int .i64 0] 61) = w3 at *
      refine wpAnyH_ready (rs := [8]) (by kernel_rfl) (by simp) ?_
      refine AllReadyH.cons rfl (fun K hK => ?_) AllReadyH.nil
      rw [if_pos (by rfl)]
      obtain ⟨q1, q2⟩ := heap_setCells [.int .i64 tg, .slice sa tn tc, .int .i64 o0, .int .i64 o1, .int .i64 o2, .int .i64 o3] 0 w3 _ (unhide HTB)
      have HTB4 : Hid ((w3.setCells w2.heap.size 0 [.int .i64 tg, .slice sa tn tc, .int .i64 o0, .int .i64 o1, .int .i64 o2, .int .i64 o3]).heap[w2.heap.size]? = some (.cells #[.int .i64 tg, .slice sa tn tc, .int .i64 o0, .int .i64 o1, .int .i64 o2, .int .i64 o3] 61)) := hide q1
      have HB4 := hide (below_touch (unhide HB3) q2 (unhide HB3).size (fun k hk => by omega))
      refine wp_store_mid 61 (.tmp 6) (.tmp 28) rfl w2.heap.size 0 #[.int .i64 tg, .slice sa tn tc, .int .i64 o0, .int .i64 o1, .int .i64 o2, .int .i64 o3] rfl rfl (there_of (unhide HTB) (by show 0 + 6 ≤ 6; decide)) (by kernel_rfl) (by simp [Value.oneCell']) ?_
      refine hK.out _ _ (unhide HB4) (fun hHeld => ?_)
      clear hK K q1 q2 HTB HB3
      (try simp only [Act.put, List.setIfInBounds_toArray])
      change wpAnyH _ _ _ _ _ _ _ _ (w3.setCells w2.heap.size 0 [.int .i64 tg, .slice sa tn tc, .int .i64 o0, .int .i64 o1, .int .i64 o2, .int .i64 o3])
      generalize w3.setCells w2.heap.size 0 [.int .i64 tg, .slice sa tn tc, .int .i64 o0, .int .i64 o1, .int .i64 o2, .int .i64 o3] = w4 at *
      refine wpAnyH_done (by kernel_rfl) ?_ _
      have H4 := hide ((unhide H2).later (unhide HB4))
      have HX4 := hide (below_keep (unhide HB4) (unhide HX))
      have T4 := hide ((unhide T2).trans (Touch.of_below (unhide HB4)))
      have HW2 : Hid (B ≤ w2.heap.size) := hide (Nat.le_trans (unhide HXB) (Nat.le_of_lt (lt_of_heap (unhide HX))))
      have HXT : Hid (xb ≠ w2.heap.size) := hide (by have := lt_of_heap (unhide HX); omega)
      have HST : Hid (∀ q, Own3 sb (.map (some mb)) mv2 q → q ≠ w2.heap.size) := hide (fun q hq e => (unhide H4).apart (e ▸ unhide HTB4) (by decide) hq)
      clear hHeld SK H2 HX T2 HB4
      generalize w2.heap.size = tb at *
      have x0 := cell_of (unhide HX4) 0
      simp at x0
      go_upto_region 7 with fail
      clear x0
      have hd5 : Below w4.heap.size w4 w4.drew := (Below.refl _ _).drew
      have H5 := hide ((unhide H4).later hd5)
      have HX5 := hide (below_keep hd5 (unhide HX4))
      have HTB5 := hide (below_keep hd5 (unhide HTB4))
      have T5 := hide ((unhide T4).drew)
      clear H4 HX4 HTB4 T4
      refine wp_region_held_drew (S := fun w' => w'.heap[xb]? = some (.cells #[.int .i64 2, .int .i64 1, .int .i64 gen, .slice a 0 k, .int .i64 0, .int .i64 off] 29)) (by kernel_rfl) (unhide HX5) (fun hHeld => ?_)
      generalize w4.drew = w5 at *
      clear hd5
      refine take17 (i := 0) (d := 33) (v := .pointer (some ⟨xb, 4, none⟩)) rfl rfl (by kernel_rfl) (by kernel_rfl) (by kernel_rfl) (fun _ _ _ h => h) (Or.inl ⟨by rfl, by intro w' hSw; (try dsimp only at hSw); go_simp⟩) (by assumption) ?_; (try simp only [List.setIfInBounds_toArray, List.set_cons_zero, List.set_cons_succ])
      refine take17 (i := 1) (d := 34) (v := .int .i64 0) rfl rfl (by kernel_rfl) (by kernel_rfl) (by kernel_rfl) (fun _ _ _ h => h) (Or.inl ⟨by rfl, by intro w' hSw; (try dsimp only at hSw); have y4 := cell_of hSw 4; simp at y4; go_simp⟩) (by assumption) ?_; (try simp only [List.setIfInBounds_toArray, List.set_cons_zero, List.set_cons_succ])
      refine take17 (i := 2) (d := 35) (v := .pointer (some ⟨xb, 4, none⟩)) rfl rfl (by kernel_rfl) (by kernel_rfl) (by kernel_rfl) (fun _ _ _ h => h) (Or.inl ⟨by rfl, by intro w' hSw; (try dsimp only at hSw); go_simp⟩) (by assumption) ?_; (try simp only [List.setIfInBounds_toArray, List.set_cons_zero, List.set_cons_succ])
      refine take17 (i := 3) (d := 36) (v := .int .i64 0) rfl rfl (by kernel_rfl) (by kernel_rfl) (by kernel_rfl) (fun _ _ _ h => h) (Or.inl ⟨by rfl, by intro w' hSw; (try dsimp only at hSw); have y4 := cell_of hSw 4; simp at y4; go_simp⟩) (by assumption) ?_; (try simp only [List.setIfInBounds_toArray, List.set_cons_zero, List.set_cons_succ])
      refine take17 (i := 4) (d := 37) (v := .pointer (some ⟨tb, 2, none⟩)) rfl rfl (by kernel_rfl) (by kernel_rfl) (by kernel_rfl) (fun _ _ _ h => h) (Or.inl ⟨by rfl, by intro w' hSw; (try dsimp only at hSw); go_simp⟩) (by assumption) ?_; (try simp only [List.setIfInBounds_toArray, List.set_cons_zero, List.set_cons_succ])
      refine take17 (i := 5) (d := 38) (v := .pointer (some ⟨tb, 2, none⟩)) rfl rfl (by kernel_rfl) (by kernel_rfl) (by kernel_rfl) (fun _ _ _ h => h) (Or.inl ⟨by rfl, by intro w' hSw; (try dsimp only at hSw); go_simp⟩) (by assumption) ?_; (try simp only [List.setIfInBounds_toArray, List.set_cons_zero, List.set_cons_succ])
      refine take17 (i := 7) (d := 40) (v := .pointer (some ⟨xb, 5, none⟩)) rfl rfl (by kernel_rfl) (by kernel_rfl) (by kernel_rfl) (fun _ _ _ h => h) (Or.inl ⟨by rfl, by intro w' hSw; (try dsimp only at hSw); go_simp⟩) (by assumption) ?_; (try simp only [List.setIfInBounds_toArray, List.set_cons_zero, List.set_cons_succ])
      refine take17 (i := 8) (d := 41) (v := .int .i64 off) rfl rfl (by kernel_rfl) (by kernel_rfl) (by kernel_rfl) (fun _ _ _ h => h) (Or.inl ⟨by rfl, by intro w' hSw; (try dsimp only at hSw); have y5 := cell_of hSw 5; simp at y5; go_simp⟩) (by assumption) ?_; (try simp only [List.setIfInBounds_toArray, List.set_cons_zero, List.set_cons_succ])
      refine take17 (i := 10) (d := 43) (v := .pointer (some ⟨tb, 2, none⟩)) rfl rfl (by kernel_rfl) (by kernel_rfl) (by kernel_rfl) (fun _ _ _ h => h) (Or.inl ⟨by rfl, by intro w' hSw; (try dsimp only at hSw); go_simp⟩) (by assumption) ?_; (try simp only [List.setIfInBounds_toArray, List.set_cons_zero, List.set_cons_succ])
      have zt : w5.cell? ⟨tb, 2, none⟩ = some (.int .i64 o0) := cell_of (unhide HTB5) 2
      refine wpAnyH_ready (rs := [6]) (by kernel_rfl) (by simp) ?_
      refine AllReadyH.cons rfl (fun K hK => ?_) AllReadyH.nil
      go_simp
      refine hK.out _ _ (by assumption) (fun hHeld => ?_)
      clear hK K
      (try simp only [Act.put, List.setIfInBounds_toArray, List.set_cons_zero, List.set_cons_succ])
      refine take17 (i := 9) (d := 42) (v := .int .i64 (max o0 off)) rfl rfl (by kernel_rfl) (by kernel_rfl) (by kernel_rfl) (fun _ _ _ h => h) (Or.inl ⟨by rfl, by intro w' hSw; (try dsimp only at hSw); go_simp⟩) (by assumption) ?_; (try simp only [List.setIfInBounds_toArray, List.set_cons_zero, List.set_cons_succ])
      refine take17 (i := 11) (d := 44) (v := .pointer (some ⟨tb, 2, none⟩)) rfl rfl (by kernel_rfl) (by kernel_rfl) (by kernel_rfl) (fun _ _ _ h => h) (Or.inl ⟨by rfl, by intro w' hSw; (try dsimp only at hSw); go_simp⟩) (by assumption) ?_; (try simp only [List.setIfInBounds_toArray, List.set_cons_zero, List.set_cons_succ])
      have ft : w5.frozen? ⟨tb, 2, none⟩ = false := frozen_of (unhide HTB5) 2
      have tt := touch_set w5 tb 2 (.int .i64 (max o0 off))
      have HTB6 := hide (heap_set (unhide HTB5) 2 (.int .i64 (max o0 off)))
      have HX6 := hide (tt.keep (unhide HX5) (unhide HXT))
      have H6 := hide ((unhide H5).keep tt (unhide HST))
      have T6 := hide ((unhide T5).trans (tt.mono (fun q hq => by rw [hq]; exact unhide HW2)))
      clear tt HTB5 HX5 H5 T5
      refine wpAnyH_ready (rs := [12]) (by kernel_rfl) (by simp) ?_
      refine AllReadyH.cons rfl (fun K hK => ?_) AllReadyH.nil
      go_simp
      refine hK.out _ _ (unhide HX6) (fun hHeld => ?_)
      clear hK K zt ft
      (try simp only [Act.put, List.setIfInBounds_toArray])
      generalize w5.setCell ⟨tb, 2, none⟩ (.int .i64 (max o0 off)) = w6 at *
      refine wpAnyH_done (by kernel_rfl) ?_ _
      clear hHeld
      go_upto_region 10 with fail
      have hd7 : Below w6.heap.size w6 w6.drew := (Below.refl _ _).drew
      have H7 := hide ((unhide H6).later hd7)
      have HX7 := hide (below_keep hd7 (unhide HX6))
      have HTB7 := hide (below_keep hd7 (unhide HTB6))
      have T7 := hide ((unhide T6).drew)
      clear H6 HX6 HTB6 T6
      obtain ⟨w8, hst, hm8, ht8⟩ := ((unhide H7).map1 rfl).1.store (M := gK) (s := 1) (by rcases (unhide H7).few with e | ⟨t, e⟩ <;> rw [e] <;> (show _ < maxLen; unfold maxLen; simp)) wf_one ⟨tg, tgb, tn, tc, (max o0 off), o1, o2, o3⟩
      have hst' : (Instr.mapUpdate 49 (.map (some mb)) (.int .i64 1) (.agg #[.int .i64 tg, .slice sa tn tc, .int .i64 (max o0 off), .int .i64 o1, .int .i64 o2, .int .i64 o3])).run Try.prog w6.drew = .ok () w8 := by
        rw [← unhide HSA]
        exact hst
      have nsb : sb ≠ mb := fun e => by
        obtain ⟨es, ck, h1⟩ := ((unhide H7).map1 rfl).1.block
        rw [← e, (unhide H7).obj] at h1
        cases h1
      have nxb : xb ≠ mb := fun e => by
        obtain ⟨es, ck, h1⟩ := ((unhide H7).map1 rfl).1.block
        rw [← e, unhide HX7] at h1
        cases h1
      have ntb : tb ≠ mb := fun e => by
        obtain ⟨es, ck, h1⟩ := ((unhide H7).map1 rfl).1.block
        rw [← e, unhide HTB7] at h1
        cases h1
      have F8 : Hid (HdP B w sb mv2 m1 W 0 off (.returned (.tuple #[])) w8) := hide ⟨rfl, mb, (1, ⟨tg, tgb, tn, tc, (max o0 off), o1, o2, o3⟩) :: mdel m1 1, ⟨ht8.keep (unhide H7).obj nsb, .inr ⟨mb, rfl, hm8, ((unhide H7).map1 rfl).2⟩, by
        rcases (unhide H7).wt with ⟨e, e2⟩ | ⟨b, e, m, hb⟩
        · exact .inl ⟨e, e2⟩
        · exact .inr ⟨b, e, m.keep ht8 (fun e2 => (unhide H7).ne mb rfl (by rw [e, e2])), hb⟩, (unhide H7).ne, .inr ⟨_, by rw [mdel_few (unhide H7).few]⟩, (unhide H7).hb⟩, by
        rw [← unhide HT]
        simp [tOf, matx, mgot, tPut], (unhide T7).trans (ht8.mono (fun q hq => by rw [hq]; exact ((unhide H7).map1 rfl).2))⟩
      have S8 : Hid (w8.cell? ⟨sb, 0, none⟩ = some (.map (some mb)) ∧ w8.heap[xb]? = some (.cells #[.int .i64 2, .int .i64 1, .int .i64 gen, .slice a 0 k, .int .i64 0, .int .i64 off] 29) ∧ w8.heap[tb]? = some (.cells #[.int .i64 tg, .slice sa tn tc, .int .i64 (max o0 off), .int .i64 o1, .int .i64 o2, .int .i64 o3] 61)) := hide ⟨cell_of (ht8.keep (unhide H7).obj nsb) 0, ht8.keep (unhide HX7) nxb, ht8.keep (unhide HTB7) ntb⟩
      have S7 : Hid (w6.drew.cell? ⟨sb, 0, none⟩ = some (.map (some mb)) ∧ w6.drew.heap[xb]? = some (.cells #[.int .i64 2, .int .i64 1, .int .i64 gen, .slice a 0 k, .int .i64 0, .int .i64 off] 29) ∧ w6.drew.heap[tb]? = some (.cells #[.int .i64 tg, .slice sa tn tc, .int .i64 (max o0 off), .int .i64 o1, .int .i64 o2, .int .i64 o3] 61)) := hide ⟨cell_of (unhide H7).obj 0, unhide HX7, unhide HTB7⟩
      clear hst hm8 ht8 nsb nxb ntb H7 HX7 HTB7 T7 hd7
      refine wp_region_held_drew (S := fun w' => w'.cell? ⟨sb, 0, none⟩ = some (.map (some mb)) ∧ w'.heap[xb]? = some (.cells #[.int .i64 2, .int .i64 1, .int .i64 gen, .slice a 0 k, .int .i64 0, .int .i64 off] 29) ∧ w'.heap[tb]? = some (.cells #[.int .i64 tg, .slice sa tn tc, .int .i64 (max o0 off), .int .i64 o1, .int .i64 o2, .int .i64 o3] 61)) (by kernel_rfl) (unhide S7) (fun hHeld => ?_)
      clear S7
      generalize w6.drew = w7 at *
      refine take17 (i := 0) (d := 57) (v := .pointer (some ⟨sb, 0, none⟩)) rfl rfl (by kernel_rfl) (by kernel_rfl) (by kernel_rfl) (fun _ _ _ h => h) (Or.inl ⟨by rfl, by intro w' hSw; (try dsimp only at hSw); go_simp⟩) (by assumption) ?_; (try simp only [List.setIfInBounds_toArray, List.set_cons_zero, List.set_cons_succ])
      refine take17 (i := 1) (d := 58) (v := .pointer (some ⟨sb, 0, none⟩)) rfl rfl (by kernel_rfl) (by kernel_rfl) (by kernel_rfl) (fun _ _ _ h => h) (Or.inl ⟨by rfl, by intro w' hSw; (try dsimp only at hSw); go_simp⟩) (by assumption) ?_; (try simp only [List.setIfInBounds_toArray, List.set_cons_zero, List.set_cons_succ])
      refine take17 (i := 2) (d := 59) (v := .pointer (some ⟨sb, 0, none⟩)) rfl rfl (by kernel_rfl) (by kernel_rfl) (by kernel_rfl) (fun _ _ _ h => h) (Or.inl ⟨by rfl, by intro w' hSw; (try dsimp only at hSw); go_simp⟩) (by assumption) ?_; (try simp only [List.setIfInBounds_toArray, List.set_cons_zero, List.set_cons_succ])
      refine take17 (i := 3) (d := 60) (v := .map (some mb)) rfl rfl (by kernel_rfl) (by kernel_rfl) (by kernel_rfl) (fun _ _ _ h => h) (Or.inl ⟨by rfl, by intro w' hSw; (try dsimp only at hSw); obtain ⟨s0, s1, s2⟩ := hSw; go_simp⟩) (by assumption) ?_; (try simp only [List.setIfInBounds_toArray, List.set_cons_zero, List.set_cons_succ])
      refine take17 (i := 4) (d := 61) (v := .pointer (some ⟨xb, 1, none⟩)) rfl rfl (by kernel_rfl) (by kernel_rfl) (by kernel_rfl) (fun _ _ _ h => h) (Or.inl ⟨by rfl, by intro w' hSw; (try dsimp only at hSw); go_simp⟩) (by assumption) ?_; (try simp only [List.setIfInBounds_toArray, List.set_cons_zero, List.set_cons_succ])
      refine take17 (i := 5) (d := 62) (v := .int .i64 1) rfl rfl (by kernel_rfl) (by kernel_rfl) (by kernel_rfl) (fun _ _ _ h => h) (Or.inl ⟨by rfl, by intro w' hSw; (try dsimp only at hSw); obtain ⟨s0, s1, s2⟩ := hSw; have y1 := cell_of s1 1; simp at y1; go_simp⟩) (by assumption) ?_; (try simp only [List.setIfInBounds_toArray, List.set_cons_zero, List.set_cons_succ])
      refine take17 (i := 6) (d := 63) (v := .agg #[.int .i64 tg, .slice sa tn tc, .int .i64 (max o0 off), .int .i64 o1, .int .i64 o2, .int .i64 o3]) rfl rfl (by kernel_rfl) (by kernel_rfl) (by kernel_rfl) (fun _ _ _ h => h) (Or.inl ⟨by rfl, by intro w' hSw; (try dsimp only at hSw); obtain ⟨s0, s1, s2⟩ := hSw; have q0 := cell_of s2 0; have q1 := cell_of s2 1; have q2 := cell_of s2 2; have q3 := cell_of s2 3; have q4 := cell_of s2 4; have q5 := cell_of s2 5; simp at q0 q1 q2 q3 q4 q5; go_simp⟩) (by assumption) ?_; (try simp only [List.setIfInBounds_toArray, List.set_cons_zero, List.set_cons_succ])
      refine wpAnyH_ready (rs := [7]) (by kernel_rfl) (by simp) ?_
      refine AllReadyH.cons rfl (fun K hK => ?_) AllReadyH.nil
      go_simp
      refine hK.out _ _ (unhide S8) (fun hHeld => ?_)
      clear hK K
      (try simp only [Act.put, List.setIfInBounds_toArray])
      refine wpAnyH_done (by kernel_rfl) ?_ _
      clear hHeld hst'
      go_wp2
      go_roundw
      case rel => exact .inr ⟨by go_num, F8⟩
      case measure => simp [intOf]
    · go_wp2
      go_returns
      exact unhide hh
set_option maxRecDepth 100000 in
set_option maxHeartbeats 8000000 in
theorem hold_some1 {B : Nat} {w : World} {sb : Nat} {mv2 : Value} {m1 : List (Int × Tm)} {W : List (Int × Sl)} {gen off : Int} {v : Value} {mb : Nat} (h : GS B w sb (.map (some mb)) mv2 m1 W) (hv : OneR B w v ⟨2, 1, gen, [], 1, off⟩) (hB : B ≤ w.heap.size) :
    Calls Try.prog 18 #[.pointer (some ⟨sb, 0, none⟩), v] w fun e w' => HdP B w sb mv2 m1 W 1 off e w' := by
  obtain ⟨g, c, a, k, rfl, hw, _, hg⟩ := hv
  have y0 : w.cell? ⟨sb, 0, none⟩ = some (.map (some mb)) := cell_of h.obj 0
  have H := hide h
  have HW := hide hw
  have HG := hide hg
  have HB := hide hB
  have hq : ∀ (W : World) (b : Nat), (binOp .eql 49 (.map (some b)) (.map none)).run Try.prog W = .ok (.bool false) W := fun _ _ => by kernel_rfl
  have hq0 : ∀ (W : World), (binOp .eql 49 (.map none) (.map none)).run Try.prog W = .ok (.bool true) W := fun _ => by kernel_rfl
  clear h hw hg hB
  go_enter Try.func18, Try.ntmps18
  go_upto_region 2 with fail
  have H1 := H
  have W1 : Hid (Wide w 29 6 (.slice (some ⟨g, 0, none⟩) 1 c) 1 [.int .i64 2, .int .i64 1, .int .i64 gen, .slice a 0 k, .int .i64 1, .int .i64 off]) := HW
  have T1 : Hid (Touch (fun k => B ≤ k) w w) := hide (Touch.refl _ _)
  have HB1 := HB
  clear y0 H HW
  obtain ⟨w1, hw1⟩ : ∃ w1, w1 = w := ⟨_, rfl⟩
  rw [← hw1] at H1 W1 HB1
  have T1' : Hid (Touch (fun k => B ≤ k) w w1) := by rw [hw1]; exact T1
  clear T1
  have T1 := T1'
  clear T1'
  rw [← hw1]
  clear hw1
  go_wp2_with fail
  go_loopw [18] (fun iv wr => (iv = .int .i64 0 ∧ wr = w1) ∨ (iv = .int .i64 1 ∧ Hid (HdP B w sb mv2 m1 W 1 off (.returned (.tuple #[])) wr))) (fun iv _ => 1 - (intOf iv).toNat)
  case atStart => exact .inl ⟨rfl, rfl⟩
  case round =>
    rcases hrel with ⟨rfl, rfl⟩ | ⟨rfl, hh⟩
    · obtain ⟨a', cap, ev, _, _, _, _, hc⟩ := (unhide W1).parts
      obtain ⟨g', ea, _, hcell, _⟩ := hc (by omega)
      injection ev with e1 e2 e3
      rw [ea] at e1
      cases e1
      have z0 := hcell 0 (by omega)
      have z1 := hcell 1 (by omega)
      have z2 := hcell 2 (by omega)
      have z3 := hcell 3 (by omega)
      have z4 := hcell 4 (by omega)
      have z5 := hcell 5 (by omega)
      simp only [List.getElem?_cons_zero, List.getElem?_cons_succ] at z0 z1 z2 z3 z4 z5
      clear hcell hc ea e2 e3
      go_upto_region 5 with fail
      have b2 := (Below.refl wr.heap.size wr).alloc (Nat.le_refl _) (.cells #[.int .i64 2, .int .i64 1, .int .i64 gen, .slice a 0 k, .int .i64 1, .int .i64 off] 29)
      have HX := hide (heap_new wr (.cells #[.int .i64 2, .int .i64 1, .int .i64 gen, .slice a 0 k, .int .i64 1, .int .i64 off] 29))
      have H2 := hide ((unhide H1).later b2)
      have T2 := hide ((unhide T1).trans (Touch.of_below b2))
      have HXB : Hid (B ≤ wr.heap.size) := HB1
      clear b2 H1 W1 T1 z0 z1 z2 z3 z4 z5
      change Code.wp _ _ _ _ (wr.alloc (.cells #[.int .i64 2, .int .i64 1, .int .i64 gen, .slice a 0 k, .int .i64 1, .int .i64 off] 29))
      generalize wr.alloc (.cells #[.int .i64 2, .int .i64 1, .int .i64 gen, .slice a 0 k, .int .i64 1, .int .i64 off] 29) = w2 at *
      generalize wr.heap.size = xb at *
      obtain ⟨T, hT⟩ : ∃ T, T = tOf m1 := ⟨_, rfl⟩
      have HT := hide hT
      clear hT
      have LK : Hid (∀ W, Below w2.heap.size w2 W → (Instr.lookup 49 (.map (some mb)) (.int .i64 1) false).run Try.prog W = .ok (tmV T) W) := hide (fun W hb => by
        have := (((unhide H2).later hb).map1 rfl).1.look1 (M := gK) (s := 1) wf_one
        rw [unhide HT]
        exact this)
      obtain ⟨tg, tgb, tn, tc, o0, o1, o2, o3⟩ := T
      unfold tmV tmC at LK
      simp only at LK
      generalize hsa : Option.map (fun g => (⟨g, 0, none⟩ : Addr)) tgb = sa at *
      have HSA := hide hsa
      clear hsa
      have SK : Hid (∀ W, Below w2.heap.size w2 W → W.cell? ⟨sb, 0, none⟩ = some (.map (some mb)) ∧ W.cell? ⟨xb, 1, none⟩ = some (.int .i64 1) ∧ (Instr.lookup 49 (.map (some mb)) (.int .i64 1) false).run Try.prog W = .ok (.agg #[.int .i64 tg, .slice sa tn tc, .int .i64 o0, .int .i64 o1, .int .i64 o2, .int .i64 o3]) W) := hide (fun W hb => ⟨cell_of (below_keep hb (unhide H2).obj) 0, cell_of (below_keep hb (unhide HX)) 1, unhide LK W hb⟩)
      clear LK
      refine wp_region_held_drew (S := fun w' => Below w2.heap.size w2 w') (by kernel_rfl) ((Below.refl _ _).drew) (fun hHeld => ?_)
      refine take17 (i := 0) (d := 22) (v := .pointer (some ⟨sb, 0, none⟩)) rfl rfl (by kernel_rfl) (by kernel_rfl) (by kernel_rfl) (fun _ _ _ h => h) (Or.inl ⟨by rfl, by intro w' hSw; (try dsimp only at hSw); go_simp⟩) (by assumption) ?_; (try simp only [List.setIfInBounds_toArray, List.set_cons_zero, List.set_cons_succ])
      refine take17 (i := 1) (d := 23) (v := .pointer (some ⟨sb, 0, none⟩)) rfl rfl (by kernel_rfl) (by kernel_rfl) (by kernel_rfl) (fun _ _ _ h => h) (Or.inl ⟨by rfl, by intro w' hSw; (try dsimp only at hSw); go_simp⟩) (by assumption) ?_; (try simp only [List.setIfInBounds_toArray, List.set_cons_zero, List.set_cons_succ])
      refine take17 (i := 2) (d := 24) (v := .pointer (some ⟨sb, 0, none⟩)) rfl rfl (by kernel_rfl) (by kernel_rfl) (by kernel_rfl) (fun _ _ _ h => h) (Or.inl ⟨by rfl, by intro w' hSw; (try dsimp only at hSw); go_simp⟩) (by assumption) ?_; (try simp only [List.setIfInBounds_toArray, List.set_cons_zero, List.set_cons_succ])
      refine take17 (i := 3) (d := 25) (v := .map (some mb)) rfl rfl (by kernel_rfl) (by kernel_rfl) (by kernel_rfl) (fun _ _ _ h => h) (Or.inl ⟨by rfl, by intro w' hSw; (try dsimp only at hSw); obtain ⟨s0, s1, sl⟩ := unhide SK w' hSw; go_simp⟩) (by assumption) ?_; (try simp only [List.setIfInBounds_toArray, List.set_cons_zero, List.set_cons_succ])
      refine take17 (i := 4) (d := 26) (v := .pointer (some ⟨xb, 1, none⟩)) rfl rfl (by kernel_rfl) (by kernel_rfl) (by kernel_rfl) (fun _ _ _ h => h) (Or.inl ⟨by rfl, by intro w' hSw; (try dsimp only at hSw); go_simp⟩) (by assumption) ?_; (try simp only [List.setIfInBounds_toArray, List.set_cons_zero, List.set_cons_succ])
      refine take17 (i := 5) (d := 27) (v := .int .i64 1) rfl rfl (by kernel_rfl) (by kernel_rfl) (by kernel_rfl) (fun _ _ _ h => h) (Or.inl ⟨by rfl, by intro w' hSw; (try dsimp only at hSw); obtain ⟨s0, s1, sl⟩ := unhide SK w' hSw; go_simp⟩) (by assumption) ?_; (try simp only [List.setIfInBounds_toArray, List.set_cons_zero, List.set_cons_succ])
      refine take17 (i := 6) (d := 28) (v := .agg #[.int .i64 tg, .slice sa tn tc, .int .i64 o0, .int .i64 o1, .int .i64 o2, .int .i64 o3]) rfl rfl (by kernel_rfl) (by kernel_rfl) (by kernel_rfl) (fun _ _ _ h => h) (Or.inl ⟨by rfl, by intro w' hSw; (try dsimp only at hSw); obtain ⟨s0, s1, sl⟩ := unhide SK w' hSw; go_simp⟩) (by assumption) ?_; (try simp only [List.setIfInBounds_toArray, List.set_cons_zero, List.set_cons_succ])
      refine wpAnyH_ready (rs := [7]) (by kernel_rfl) (by simp) ?_
      refine AllReadyH.cons rfl (fun K hK => ?_) AllReadyH.nil
      go_simp
      have b3 : Below w2.heap.size w2 (w2.drew.alloc (.cells #[.int .i64 0, .slice none 0 0, .int .i64 0, .int .i64 0, .int .i64 0, .int .i64 0] 61)) := ((Below.refl _ _).drew).alloc (Nat.le_refl _) _
      have HTB := hide (heap_new w2.drew (.cells #[.int .i64 0, .slice none 0 0, .int .i64 0, .int .i64 0, .int .i64 0, .int .i64 0] 61))
      have HB3 := hide b3
      refine hK.out _ _ b3 (fun hHeld => ?_)
      clear hK K b3
      (try simp only [Act.put, List.setIfInBounds_toArray, List.set_cons_zero, List.set_cons_succ])
      change wpAnyH _ _ _ _ _ _ _ _ (w2.drew.alloc (.cells #[.int .i64 0, .slice none 0 0, .int .i64 0, .int .i64 0, .int .i64 0, .int .i64 0] 61))
      have hdz : w2.drew.heap.size = w2.heap.size := rfl
      rw [hdz] at HTB
      clear hdz
      generalize w2.drew.alloc (.cells #[.int .i64 0, .slice none 0 0, .int .i64 0, .int .i64 0, .int .i64 0, .int .i64 0] 61) = w3 at *
      refine wpAnyH_ready (rs := [8]) (by kernel_rfl) (by simp) ?_
      refine AllReadyH.cons rfl (fun K hK => ?_) AllReadyH.nil
      rw [if_pos (by rfl)]
      obtain ⟨q1, q2⟩ := heap_setCells [.int .i64 tg, .slice sa tn tc, .int .i64 o0, .int .i64 o1, .int .i64 o2, .int .i64 o3] 0 w3 _ (unhide HTB)
      have HTB4 : Hid ((w3.setCells w2.heap.size 0 [.int .i64 tg, .slice sa tn tc, .int .i64 o0, .int .i64 o1, .int .i64 o2, .int .i64 o3]).heap[w2.heap.size]? = some (.cells #[.int .i64 tg, .slice sa tn tc, .int .i64 o0, .int .i64 o1, .int .i64 o2, .int .i64 o3] 61)) := hide q1
      have HB4 := hide (below_touch (unhide HB3) q2 (unhide HB3).size (fun k hk => by omega))
      refine wp_store_mid 61 (.tmp 6) (.tmp 28) rfl w2.heap.size 0 #[.int .i64 tg, .slice sa tn tc, .int .i64 o0, .int .i64 o1, .int .i64 o2, .int .i64 o3] rfl rfl (there_of (unhide HTB) (by show 0 + 6 ≤ 6; decide)) (by kernel_rfl) (by simp [Value.oneCell']) ?_
      refine hK.out _ _ (unhide HB4) (fun hHeld => ?_)
      clear hK K q1 q2 HTB HB3
      (try simp only [Act.put, List.setIfInBounds_toArray])
      change wpAnyH _ _ _ _ _ _ _ _ (w3.setCells w2.heap.size 0 [.int .i64 tg, .slice sa tn tc, .int .i64 o0, .int .i64 o1, .int .i64 o2, .int .i64 o3])
      generalize w3.setCells w2.heap.size 0 [.int .i64 tg, .slice sa tn tc, .int .i64 o0, .int .i64 o1, .int .i64 o2, .int .i64 o3] = w4 at *
      refine wpAnyH_done (by kernel_rfl) ?_ _
      have H4 := hide ((unhide H2).later (unhide HB4))
      have HX4 := hide (below_keep (unhide HB4) (unhide HX))
      have T4 := hide ((unhide T2).trans (Touch.of_below (unhide HB4)))
      have HW2 : Hid (B ≤ w2.heap.size) := hide (Nat.le_trans (unhide HXB) (Nat.le_of_lt (lt_of_heap (unhide HX))))
      have HXT : Hid (xb ≠ w2.heap.size) := hide (by have := lt_of_heap (unhide HX); omega)
      have HST : Hid (∀ q, Own3 sb (.map (some mb)) mv2 q → q ≠ w2.heap.size) := hide (fun q hq e => (unhide H4).apart (e ▸ unhide HTB4) (by decide) hq)
      clear hHeld SK H2 HX T2 HB4
      generalize w2.heap.size = tb at *
      have x0 := cell_of (unhide HX4) 0
      simp at x0
      go_upto_region 7 with fail
      clear x0
      have hd5 : Below w4.heap.size w4 w4.drew := (Below.refl _ _).drew
      have H5 := hide ((unhide H4).later hd5)
      have HX5 := hide (below_keep hd5 (unhide HX4))
      have HTB5 := hide (below_keep hd5 (unhide HTB4))
      have T5 := hide ((unhide T4).drew)
      clear H4 HX4 HTB4 T4
      refine wp_region_held_drew (S := fun w' => w'.heap[xb]? = some (.cells #[.int .i64 2, .int .i64 1, .int .i64 gen, .slice a 0 k, .int .i64 1, .int .i64 off] 29)) (by kernel_rfl) (unhide HX5) (fun hHeld => ?_)
      generalize w4.drew = w5 at *
      clear hd5
      refine take17 (i := 0) (d := 33) (v := .pointer (some ⟨xb, 4, none⟩)) rfl rfl (by kernel_rfl) (by kernel_rfl) (by kernel_rfl) (fun _ _ _ h => h) (Or.inl ⟨by rfl, by intro w' hSw; (try dsimp only at hSw); go_simp⟩) (by assumption) ?_; (try simp only [List.setIfInBounds_toArray, List.set_cons_zero, List.set_cons_succ])
      refine take17 (i := 1) (d := 34) (v := .int .i64 1) rfl rfl (by kernel_rfl) (by kernel_rfl) (by kernel_rfl) (fun _ _ _ h => h) (Or.inl ⟨by rfl, by intro w' hSw; (try dsimp only at hSw); have y4 := cell_of hSw 4; simp at y4; go_simp⟩) (by assumption) ?_; (try simp only [List.setIfInBounds_toArray, List.set_cons_zero, List.set_cons_succ])
      refine take17 (i := 2) (d := 35) (v := .pointer (some ⟨xb, 4, none⟩)) rfl rfl (by kernel_rfl) (by kernel_rfl) (by kernel_rfl) (fun _ _ _ h => h) (Or.inl ⟨by rfl, by intro w' hSw; (try dsimp only at hSw); go_simp⟩) (by assumption) ?_; (try simp only [List.setIfInBounds_toArray, List.set_cons_zero, List.set_cons_succ])
      refine take17 (i := 3) (d := 36) (v := .int .i64 1) rfl rfl (by kernel_rfl) (by kernel_rfl) (by kernel_rfl) (fun _ _ _ h => h) (Or.inl ⟨by rfl, by intro w' hSw; (try dsimp only at hSw); have y4 := cell_of hSw 4; simp at y4; go_simp⟩) (by assumption) ?_; (try simp only [List.setIfInBounds_toArray, List.set_cons_zero, List.set_cons_succ])
      refine take17 (i := 4) (d := 37) (v := .pointer (some ⟨tb, 2, none⟩)) rfl rfl (by kernel_rfl) (by kernel_rfl) (by kernel_rfl) (fun _ _ _ h => h) (Or.inl ⟨by rfl, by intro w' hSw; (try dsimp only at hSw); go_simp⟩) (by assumption) ?_; (try simp only [List.setIfInBounds_toArray, List.set_cons_zero, List.set_cons_succ])
      refine take17 (i := 5) (d := 38) (v := .pointer (some ⟨tb, 3, none⟩)) rfl rfl (by kernel_rfl) (by kernel_rfl) (by kernel_rfl) (fun _ _ _ h => h) (Or.inl ⟨by rfl, by intro w' hSw; (try dsimp only at hSw); go_simp⟩) (by assumption) ?_; (try simp only [List.setIfInBounds_toArray, List.set_cons_zero, List.set_cons_succ])
      refine take17 (i := 7) (d := 40) (v := .pointer (some ⟨xb, 5, none⟩)) rfl rfl (by kernel_rfl) (by kernel_rfl) (by kernel_rfl) (fun _ _ _ h => h) (Or.inl ⟨by rfl, by intro w' hSw; (try dsimp only at hSw); go_simp⟩) (by assumption) ?_; (try simp only [List.setIfInBounds_toArray, List.set_cons_zero, List.set_cons_succ])
      refine take17 (i := 8) (d := 41) (v := .int .i64 off) rfl rfl (by kernel_rfl) (by kernel_rfl) (by kernel_rfl) (fun _ _ _ h => h) (Or.inl ⟨by rfl, by intro w' hSw; (try dsimp only at hSw); have y5 := cell_of hSw 5; simp at y5; go_simp⟩) (by assumption) ?_; (try simp only [List.setIfInBounds_toArray, List.set_cons_zero, List.set_cons_succ])
      refine take17 (i := 10) (d := 43) (v := .pointer (some ⟨tb, 2, none⟩)) rfl rfl (by kernel_rfl) (by kernel_rfl) (by kernel_rfl) (fun _ _ _ h => h) (Or.inl ⟨by rfl, by intro w' hSw; (try dsimp only at hSw); go_simp⟩) (by assumption) ?_; (try simp only [List.setIfInBounds_toArray, List.set_cons_zero, List.set_cons_succ])
      have zt : w5.cell? ⟨tb, 3, none⟩ = some (.int .i64 o1) := cell_of (unhide HTB5) 3
      refine wpAnyH_ready (rs := [6]) (by kernel_rfl) (by simp) ?_
      refine AllReadyH.cons rfl (fun K hK => ?_) AllReadyH.nil
      go_simp
      refine hK.out _ _ (by assumption) (fun hHeld => ?_)
      clear hK K
      (try simp only [Act.put, List.setIfInBounds_toArray, List.set_cons_zero, List.set_cons_succ])
      refine take17 (i := 9) (d := 42) (v := .int .i64 (max o1 off)) rfl rfl (by kernel_rfl) (by kernel_rfl) (by kernel_rfl) (fun _ _ _ h => h) (Or.inl ⟨by rfl, by intro w' hSw; (try dsimp only at hSw); go_simp⟩) (by assumption) ?_; (try simp only [List.setIfInBounds_toArray, List.set_cons_zero, List.set_cons_succ])
      refine take17 (i := 11) (d := 44) (v := .pointer (some ⟨tb, 3, none⟩)) rfl rfl (by kernel_rfl) (by kernel_rfl) (by kernel_rfl) (fun _ _ _ h => h) (Or.inl ⟨by rfl, by intro w' hSw; (try dsimp only at hSw); go_simp⟩) (by assumption) ?_; (try simp only [List.setIfInBounds_toArray, List.set_cons_zero, List.set_cons_succ])
      have ft : w5.frozen? ⟨tb, 3, none⟩ = false := frozen_of (unhide HTB5) 3
      have tt := touch_set w5 tb 3 (.int .i64 (max o1 off))
      have HTB6 := hide (heap_set (unhide HTB5) 3 (.int .i64 (max o1 off)))
      have HX6 := hide (tt.keep (unhide HX5) (unhide HXT))
      have H6 := hide ((unhide H5).keep tt (unhide HST))
      have T6 := hide ((unhide T5).trans (tt.mono (fun q hq => by rw [hq]; exact unhide HW2)))
      clear tt HTB5 HX5 H5 T5
      refine wpAnyH_ready (rs := [12]) (by kernel_rfl) (by simp) ?_
      refine AllReadyH.cons rfl (fun K hK => ?_) AllReadyH.nil
      go_simp
      refine hK.out _ _ (unhide HX6) (fun hHeld => ?_)
      clear hK K zt ft
      (try simp only [Act.put, List.setIfInBounds_toArray])
      generalize w5.setCell ⟨tb, 3, none⟩ (.int .i64 (max o1 off)) = w6 at *
      refine wpAnyH_done (by kernel_rfl) ?_ _
      clear hHeld
      go_upto_region 10 with fail
      have hd7 : Below w6.heap.size w6 w6.drew := (Below.refl _ _).drew
      have H7 := hide ((unhide H6).later hd7)
      have HX7 := hide (below_keep hd7 (unhide HX6))
      have HTB7 := hide (below_keep hd7 (unhide HTB6))
      have T7 := hide ((unhide T6).drew)
      clear H6 HX6 HTB6 T6
      obtain ⟨w8, hst, hm8, ht8⟩ := ((unhide H7).map1 rfl).1.store (M := gK) (s := 1) (by rcases (unhide H7).few with e | ⟨t, e⟩ <;> rw [e] <;> (show _ < maxLen; unfold maxLen; simp)) wf_one ⟨tg, tgb, tn, tc, o0, (max o1 off), o2, o3⟩
      have hst' : (Instr.mapUpdate 49 (.map (some mb)) (.int .i64 1) (.agg #[.int .i64 tg, .slice sa tn tc, .int .i64 o0, .int .i64 (max o1 off), .int .i64 o2, .int .i64 o3])).run Try.prog w6.drew = .ok () w8 := by
        rw [← unhide HSA]
        exact hst
      have nsb : sb ≠ mb := fun e => by
        obtain ⟨es, ck, h1⟩ := ((unhide H7).map1 rfl).1.block
        rw [← e, (unhide H7).obj] at h1
        cases h1
      have nxb : xb ≠ mb := fun e => by
        obtain ⟨es, ck, h1⟩ := ((unhide H7).map1 rfl).1.block
        rw [← e, unhide HX7] at h1
        cases h1
      have ntb : tb ≠ mb := fun e => by
        obtain ⟨es, ck, h1⟩ := ((unhide H7).map1 rfl).1.block
        rw [← e, unhide HTB7] at h1
        cases h1
      have F8 : Hid (HdP B w sb mv2 m1 W 1 off (.returned (.tuple #[])) w8) := hide ⟨rfl, mb, (1, ⟨tg, tgb, tn, tc, o0, (max o1 off), o2, o3⟩) :: mdel m1 1, ⟨ht8.keep (unhide H7).obj nsb, .inr ⟨mb, rfl, hm8, ((unhide H7).map1 rfl).2⟩, by
        rcases (unhide H7).wt with ⟨e, e2⟩ | ⟨b, e, m, hb⟩
        · exact .inl ⟨e, e2⟩
        · exact .inr ⟨b, e, m.keep ht8 (fun e2 => (unhide H7).ne mb rfl (by rw [e, e2])), hb⟩, (unhide H7).ne, .inr ⟨_, by rw [mdel_few (unhide H7).few]⟩, (unhide H7).hb⟩, by
        rw [← unhide HT]
        simp [tOf, matx, mgot, tPut], (unhide T7).trans (ht8.mono (fun q hq => by rw [hq]; exact ((unhide H7).map1 rfl).2))⟩
      have S8 : Hid (w8.cell? ⟨sb, 0, none⟩ = some (.map (some mb)) ∧ w8.heap[xb]? = some (.cells #[.int .i64 2, .int .i64 1, .int .i64 gen, .slice a 0 k, .int .i64 1, .int .i64 off] 29) ∧ w8.heap[tb]? = some (.cells #[.int .i64 tg, .slice sa tn tc, .int .i64 o0, .int .i64 (max o1 off), .int .i64 o2, .int .i64 o3] 61)) := hide ⟨cell_of (ht8.keep (unhide H7).obj nsb) 0, ht8.keep (unhide HX7) nxb, ht8.keep (unhide HTB7) ntb⟩
      have S7 : Hid (w6.drew.cell? ⟨sb, 0, none⟩ = some (.map (some mb)) ∧ w6.drew.heap[xb]? = some (.cells #[.int .i64 2, .int .i64 1, .int .i64 gen, .slice a 0 k, .int .i64 1, .int .i64 off] 29) ∧ w6.drew.heap[tb]? = some (.cells #[.int .i64 tg, .slice sa tn tc, .int .i64 o0, .int .i64 (max o1 off), .int .i64 o2, .int .i64 o3] 61)) := hide ⟨cell_of (unhide H7).obj 0, unhide HX7, unhide HTB7⟩
      clear hst hm8 ht8 nsb nxb ntb H7 HX7 HTB7 T7 hd7
      refine wp_region_held_drew (S := fun w' => w'.cell? ⟨sb, 0, none⟩ = some (.map (some mb)) ∧ w'.heap[xb]? = some (.cells #[.int .i64 2, .int .i64 1, .int .i64 gen, .slice a 0 k, .int .i64 1, .int .i64 off] 29) ∧ w'.heap[tb]? = some (.cells #[.int .i64 tg, .slice sa tn tc, .int .i64 o0, .int .i64 (max o1 off), .int .i64 o2, .int .i64 o3] 61)) (by kernel_rfl) (unhide S7) (fun hHeld => ?_)
      clear S7
      generalize w6.drew = w7 at *
      refine take17 (i := 0) (d := 57) (v := .pointer (some ⟨sb, 0, none⟩)) rfl rfl (by kernel_rfl) (by kernel_rfl) (by kernel_rfl) (fun _ _ _ h => h) (Or.inl ⟨by rfl, by intro w' hSw; (try dsimp only at hSw); go_simp⟩) (by assumption) ?_; (try simp only [List.setIfInBounds_toArray, List.set_cons_zero, List.set_cons_succ])
      refine take17 (i := 1) (d := 58) (v := .pointer (some ⟨sb, 0, none⟩)) rfl rfl (by kernel_rfl) (by kernel_rfl) (by kernel_rfl) (fun _ _ _ h => h) (Or.inl ⟨by rfl, by intro w' hSw; (try dsimp only at hSw); go_simp⟩) (by assumption) ?_; (try simp only [List.setIfInBounds_toArray, List.set_cons_zero, List.set_cons_succ])
      refine take17 (i := 2) (d := 59) (v := .pointer (some ⟨sb, 0, none⟩)) rfl rfl (by kernel_rfl) (by kernel_rfl) (by kernel_rfl) (fun _ _ _ h => h) (Or.inl ⟨by rfl, by intro w' hSw; (try dsimp only at hSw); go_simp⟩) (by assumption) ?_; (try simp only [List.setIfInBounds_toArray, List.set_cons_zero, List.set_cons_succ])
      refine take17 (i := 3) (d := 60) (v := .map (some mb)) rfl rfl (by kernel_rfl) (by kernel_rfl) (by kernel_rfl) (fun _ _ _ h => h) (Or.inl ⟨by rfl, by intro w' hSw; (try dsimp only at hSw); obtain ⟨s0, s1, s2⟩ := hSw; go_simp⟩) (by assumption) ?_; (try simp only [List.setIfInBounds_toArray, List.set_cons_zero, List.set_cons_succ])
      refine take17 (i := 4) (d := 61) (v := .pointer (some ⟨xb, 1, none⟩)) rfl rfl (by kernel_rfl) (by kernel_rfl) (by kernel_rfl) (fun _ _ _ h => h) (Or.inl ⟨by rfl, by intro w' hSw; (try dsimp only at hSw); go_simp⟩) (by assumption) ?_; (try simp only [List.setIfInBounds_toArray, List.set_cons_zero, List.set_cons_succ])
      refine take17 (i := 5) (d := 62) (v := .int .i64 1) rfl rfl (by kernel_rfl) (by kernel_rfl) (by kernel_rfl) (fun _ _ _ h => h) (Or.inl ⟨by rfl, by intro w' hSw; (try dsimp only at hSw); obtain ⟨s0, s1, s2⟩ := hSw; have y1 := cell_of s1 1; simp at y1; go_simp⟩) (by assumption) ?_; (try simp only [List.setIfInBounds_toArray, List.set_cons_zero, List.set_cons_succ])
      refine take17 (i := 6) (d := 63) (v := .agg #[.int .i64 tg, .slice sa tn tc, .int .i64 o0, .int .i64 (max o1 off), .int .i64 o2, .int .i64 o3]) rfl rfl (by kernel_rfl) (by kernel_rfl) (by kernel_rfl) (fun _ _ _ h => h) (Or.inl ⟨by rfl, by intro w' hSw; (try dsimp only at hSw); obtain ⟨s0, s1, s2⟩ := hSw; have q0 := cell_of s2 0; have q1 := cell_of s2 1; have q2 := cell_of s2 2; have q3 := cell_of s2 3; have q4 := cell_of s2 4; have q5 := cell_of s2 5; simp at q0 q1 q2 q3 q4 q5; go_simp⟩) (by assumption) ?_; (try simp only [List.setIfInBounds_toArray, List.set_cons_zero, List.set_cons_succ])
      refine wpAnyH_ready (rs := [7]) (by kernel_rfl) (by simp) ?_
      refine AllReadyH.cons rfl (fun K hK => ?_) AllReadyH.nil
      go_simp
      refine hK.out _ _ (unhide S8) (fun hHeld => ?_)
      clear hK K
      (try simp only [Act.put, List.setIfInBounds_toArray])
      refine wpAnyH_done (by kernel_rfl) ?_ _
      clear hHeld hst'
      go_wp2
      go_roundw
      case rel => exact .inr ⟨by go_num, F8⟩
      case measure => simp [intOf]
    · go_wp2
      go_returns
      exact unhide hh
set_option maxRecDepth 100000 in
set_option maxHeartbeats 8000000 in
theorem hold_some2 {B : Nat} {w : World} {sb : Nat} {mv2 : Value} {m1 : List (Int × Tm)} {W : List (Int × Sl)} {gen off : Int} {v : Value} {mb : Nat} (h : GS B w sb (.map (some mb)) mv2 m1 W) (hv : OneR B w v ⟨2, 1, gen, [], 2, off⟩) (hB : B ≤ w.heap.size) :
    Calls Try.prog 18 #[.pointer (some ⟨sb, 0, none⟩), v] w fun e w' => HdP B w sb mv2 m1 W 2 off e w' := by
  obtain ⟨g, c, a, k, rfl, hw, _, hg⟩ := hv
  have y0 : w.cell? ⟨sb, 0, none⟩ = some (.map (some mb)) := cell_of h.obj 0
  have H := hide h
  have HW := hide hw
  have HG := hide hg
  have HB := hide hB
  have hq : ∀ (W : World) (b : Nat), (binOp .eql 49 (.map (some b)) (.map none)).run Try.prog W = .ok (.bool false) W := fun _ _ => by kernel_rfl
  have hq0 : ∀ (W : World), (binOp .eql 49 (.map none) (.map none)).run Try.prog W = .ok (.bool true) W := fun _ => by kernel_rfl
  clear h hw hg hB
  go_enter Try.func18, Try.ntmps18
  go_upto_region 2 with fail
  have H1 := H
  have W1 : Hid (Wide w 29 6 (.slice (some ⟨g, 0, none⟩) 1 c) 1 [.int .i64 2, .int .i64 1, .int .i64 gen, .slice a 0 k, .int .i64 2, .int .i64 off]) := HW
  have T1 : Hid (Touch (fun k => B ≤ k) w w) := hide (Touch.refl _ _)
  have HB1 := HB
  clear y0 H HW
  obtain ⟨w1, hw1⟩ : ∃ w1, w1 = w := ⟨_, rfl⟩
  rw [← hw1] at H1 W1 HB1
  have T1' : Hid (Touch (fun k => B ≤ k) w w1) := by rw [hw1]; exact T1
  clear T1
  have T1 := T1'
  clear T1'
  rw [← hw1]
  clear hw1
  go_wp2_with fail
  go_loopw [18] (fun iv wr => (iv = .int .i64 0 ∧ wr = w1) ∨ (iv = .int .i64 1 ∧ Hid (HdP B w sb mv2 m1 W 2 off (.returned (.tuple #[])) wr))) (fun iv _ => 1 - (intOf iv).toNat)
  case atStart => exact .inl ⟨rfl, rfl⟩
  case round =>
    rcases hrel with ⟨rfl, rfl⟩ | ⟨rfl, hh⟩
    · obtain ⟨a', cap, ev, _, _, _, _, hc⟩ := (unhide W1).parts
      obtain ⟨g', ea, _, hcell, _⟩ := hc (by omega)
      injection ev with e1 e2 e3
      rw [ea] at e1
      cases e1
      have z0 := hcell 0 (by omega)
      have z1 := hcell 1 (by omega)
      have z2 := hcell 2 (by omega)
      have z3 := hcell 3 (by omega)
      have z4 := hcell 4 (by omega)
      have z5 := hcell 5 (by omega)
      simp only [List.getElem?_cons_zero, List.getElem?_cons_succ] at z0 z1 z2 z3 z4 z5
      clear hcell hc ea e2 e3
      go_upto_region 5 with fail
      have b2 := (Below.refl wr.heap.size wr).alloc (Nat.le_refl _) (.cells #[.int .i64 2, .int .i64 1, .int .i64 gen, .slice a 0 k, .int .i64 2, .int .i64 off] 29)
      have HX := hide (heap_new wr (.cells #[.int .i64 2, .int .i64 1, .int .i64 gen, .slice a 0 k, .int .i64 2, .int .i64 off] 29))
      have H2 := hide ((unhide H1).later b2)
      have T2 := hide ((unhide T1).trans (Touch.of_below b2))
      have HXB : Hid (B ≤ wr.heap.size) := HB1
      clear b2 H1 W1 T1 z0 z1 z2 z3 z4 z5
      change Code.wp _ _ _ _ (wr.alloc (.cells #[.int .i64 2, .int .i64 1, .int .i64 gen, .slice a 0 k, .int .i64 2, .int .i64 off] 29))
      generalize wr.alloc (.cells #[.int .i64 2, .int .i64 1, .int .i64 gen, .slice a 0 k, .int .i64 2, .int .i64 off] 29) = w2 at *
      generalize wr.heap.size = xb at *
      obtain ⟨T, hT⟩ : ∃ T, T = tOf m1 := ⟨_, rfl⟩
      have HT := hide hT
      clear hT
      have LK : Hid (∀ W, Below w2.heap.size w2 W → (Instr.lookup 49 (.map (some mb)) (.int .i64 1) false).run Try.prog W = .ok (tmV T) W) := hide (fun W hb => by
        have := (((unhide H2).later hb).map1 rfl).1.look1 (M := gK) (s := 1) wf_one
        rw [unhide HT]
        exact this)
      obtain ⟨tg, tgb, tn, tc, o0, o1, o2, o3⟩ := T
      unfold tmV tmC at LK
      simp only at LK
      generalize hsa : Option.map (fun g => (⟨g, 0, none⟩ : Addr)) tgb = sa at *
      have HSA := hide hsa
      clear hsa
      have SK : Hid (∀ W, Below w2.heap.size w2 W → W.cell? ⟨sb, 0, none⟩ = some (.map (some mb)) ∧ W.cell? ⟨xb, 1, none⟩ = some (.int .i64 1) ∧ (Instr.lookup 49 (.map (some mb)) (.int .i64 1) false).run Try.prog W = .ok (.agg #[.int .i64 tg, .slice sa tn tc, .int .i64 o0, .int .i64 o1, .int .i64 o2, .int .i64 o3]) W) := hide (fun W hb => ⟨cell_of (below_keep hb (unhide H2).obj) 0, cell_of (below_keep hb (unhide HX)) 1, unhide LK W hb⟩)
      clear LK
      refine wp_region_held_drew (S := fun w' => Below w2.heap.size w2 w') (by kernel_rfl) ((Below.refl _ _).drew) (fun hHeld => ?_)
      refine take17 (i := 0) (d := 22) (v := .pointer (some ⟨sb, 0, none⟩)) rfl rfl (by kernel_rfl) (by kernel_rfl) (by kernel_rfl) (fun _ _ _ h => h) (Or.inl ⟨by rfl, by intro w' hSw; (try dsimp only at hSw); go_simp⟩) (by assumption) ?_; (try simp only [List.setIfInBounds_toArray, List.set_cons_zero, List.set_cons_succ])
      refine take17 (i := 1) (d := 23) (v := .pointer (some ⟨sb, 0, none⟩)) rfl rfl (by kernel_rfl) (by kernel_rfl) (by kernel_rfl) (fun _ _ _ h => h) (Or.inl ⟨by rfl, by intro w' hSw; (try dsimp only at hSw); go_simp⟩) (by assumption) ?_; (try simp only [List.setIfInBounds_toArray, List.set_cons_zero, List.set_cons_succ])
      refine take17 (i := 2) (d := 24) (v := .pointer (some ⟨sb, 0, none⟩)) rfl rfl (by kernel_rfl) (by kernel_rfl) (by kernel_rfl) (fun _ _ _ h => h) (Or.inl ⟨by rfl, by intro w' hSw; (try dsimp only at hSw); go_simp⟩) (by assumption) ?_; (try simp only [List.setIfInBounds_toArray, List.set_cons_zero, List.set_cons_succ])
      refine take17 (i := 3) (d := 25) (v := .map (some mb)) rfl rfl (by kernel_rfl) (by kernel_rfl) (by kernel_rfl) (fun _ _ _ h => h) (Or.inl ⟨by rfl, by intro w' hSw; (try dsimp only at hSw); obtain ⟨s0, s1, sl⟩ := unhide SK w' hSw; go_simp⟩) (by assumption) ?_; (try simp only [List.setIfInBounds_toArray, List.set_cons_zero, List.set_cons_succ])
      refine take17 (i := 4) (d := 26) (v := .pointer (some ⟨xb, 1, none⟩)) rfl rfl (by kernel_rfl) (by kernel_rfl) (by kernel_rfl) (fun _ _ _ h => h) (Or.inl ⟨by rfl, by intro w' hSw; (try dsimp only at hSw); go_simp⟩) (by assumption) ?_; (try simp only [List.setIfInBounds_toArray, List.set_cons_zero, List.set_cons_succ])
      refine take17 (i := 5) (d := 27) (v := .int .i64 1) rfl rfl (by kernel_rfl) (by kernel_rfl) (by kernel_rfl) (fun _ _ _ h => h) (Or.inl ⟨by rfl, by intro w' hSw; (try dsimp only at hSw); obtain ⟨s0, s1, sl⟩ := unhide SK w' hSw; go_simp⟩) (by assumption) ?_; (try simp only [List.setIfInBounds_toArray, List.set_cons_zero, List.set_cons_succ])
      refine take17 (i := 6) (d := 28) (v := .agg #[.int .i64 tg, .slice sa tn tc, .int .i64 o0, .int .i64 o1, .int .i64 o2, .int .i64 o3]) rfl rfl (by kernel_rfl) (by kernel_rfl) (by kernel_rfl) (fun _ _ _ h => h) (Or.inl ⟨by rfl, by intro w' hSw; (try dsimp only at hSw); obtain ⟨s0, s1, sl⟩ := unhide SK w' hSw; go_simp⟩) (by assumption) ?_; (try simp only [List.setIfInBounds_toArray, List.set_cons_zero, List.set_cons_succ])
      refine wpAnyH_ready (rs := [7]) (by kernel_rfl) (by simp) ?_
      refine AllReadyH.cons rfl (fun K hK => ?_) AllReadyH.nil
      go_simp
      have b3 : Below w2.heap.size w2 (w2.drew.alloc (.cells #[.int .i64 0, .slice none 0 0, .int .i64 0, .int .i64 0, .int .i64 0, .int .i64 0] 61)) := ((Below.refl _ _).drew).alloc (Nat.le_refl _) _
      have HTB := hide (heap_new w2.drew (.cells #[.int .i64 0, .slice none 0 0, .int .i64 0, .int .i64 0, .int .i64 0, .int .i64 0] 61))
      have HB3 := hide b3
      refine hK.out _ _ b3 (fun hHeld => ?_)
      clear hK K b3
      (try simp only [Act.put, List.setIfInBounds_toArray, List.set_cons_zero, List.set_cons_succ])
      change wpAnyH _ _ _ _ _ _ _ _ (w2.drew.alloc (.cells #[.int .i64 0, .slice none 0 0, .int .i64 0, .int .i64 0, .int .i64 0, .int .i64 0] 61))
      have hdz : w2.drew.heap.size = w2.heap.size := rfl
      rw [hdz] at HTB
      clear hdz
      generalize w2.drew.alloc (.cells #[.int .i64 0, .slice none 0 0, .int .i64 0, .int .i64 0, .int .i64 0, .int .i64 0] 61) = w3 at *
      refine wpAnyH_ready (rs := [8]) (by kernel_rfl) (by simp) ?_
      refine AllReadyH.cons rfl (fun K hK => ?_) AllReadyH.nil
      rw [if_pos (by rfl)]
      obtain ⟨q1, q2⟩ := heap_setCells [.int .i64 tg, .slice sa tn tc, .int .i64 o0, .int .i64 o1, .int .i64 o2, .int .i64 o3] 0 w3 _ (unhide HTB)
      have HTB4 : Hid ((w3.setCells w2.heap.size 0 [.int .i64 tg, .slice sa tn tc, .int .i64 o0, .int .i64 o1, .int .i64 o2, .int .i64 o3]).heap[w2.heap.size]? = some (.cells #[.int .i64 tg, .slice sa tn tc, .int .i64 o0, .int .i64 o1, .int .i64 o2, .int .i64 o3] 61)) := hide q1
      have HB4 := hide (below_touch (unhide HB3) q2 (unhide HB3).size (fun k hk => by omega))
      refine wp_store_mid 61 (.tmp 6) (.tmp 28) rfl w2.heap.size 0 #[.int .i64 tg, .slice sa tn tc, .int .i64 o0, .int .i64 o1, .int .i64 o2, .int .i64 o3] rfl rfl (there_of (unhide HTB) (by show 0 + 6 ≤ 6; decide)) (by kernel_rfl) (by simp [Value.oneCell']) ?_
      refine hK.out _ _ (unhide HB4) (fun hHeld => ?_)
      clear hK K q1 q2 HTB HB3
      (try simp only [Act.put, List.setIfInBounds_toArray])
      change wpAnyH _ _ _ _ _ _ _ _ (w3.setCells w2.heap.size 0 [.int .i64 tg, .slice sa tn tc, .int .i64 o0, .int .i64 o1, .int .i64 o2, .int .i64 o3])
      generalize w3.setCells w2.heap.size 0 [.int .i64 tg, .slice sa tn tc, .int .i64 o0, .int .i64 o1, .int .i64 o2, .int .i64 o3] = w4 at *
      refine wpAnyH_done (by kernel_rfl) ?_ _
      have H4 := hide ((unhide H2).later (unhide HB4))
      have HX4 := hide (below_keep (unhide HB4) (unhide HX))
      have T4 := hide ((unhide T2).trans (Touch.of_below (unhide HB4)))
      have HW2 : Hid (B ≤ w2.heap.size) := hide (Nat.le_trans (unhide HXB) (Nat.le_of_lt (lt_of_heap (unhide HX))))
      have HXT : Hid (xb ≠ w2.heap.size) := hide (by have := lt_of_heap (unhide HX); omega)
      have HST : Hid (∀ q, Own3 sb (.map (some mb)) mv2 q → q ≠ w2.heap.size) := hide (fun q hq e => (unhide H4).apart (e ▸ unhide HTB4) (by decide) hq)
      clear hHeld SK H2 HX T2 HB4
      generalize w2.heap.size = tb at *
      have x0 := cell_of (unhide HX4) 0
      simp at x0
      go_upto_region 7 with fail
      clear x0
      have hd5 : Below w4.heap.size w4 w4.drew := (Below.refl _ _).drew
      have H5 := hide ((unhide H4).later hd5)
      have HX5 := hide (below_keep hd5 (unhide HX4))
      have HTB5 := hide (below_keep hd5 (unhide HTB4))
      have T5 := hide ((unhide T4).drew)
      clear H4 HX4 HTB4 T4
      refine wp_region_held_drew (S := fun w' => w'.heap[xb]? = some (.cells #[.int .i64 2, .int .i64 1, .int .i64 gen, .slice a 0 k, .int .i64 2, .int .i64 off] 29)) (by kernel_rfl) (unhide HX5) (fun hHeld => ?_)
      generalize w4.drew = w5 at *
      clear hd5
      refine take17 (i := 0) (d := 33) (v := .pointer (some ⟨xb, 4, none⟩)) rfl rfl (by kernel_rfl) (by kernel_rfl) (by kernel_rfl) (fun _ _ _ h => h) (Or.inl ⟨by rfl, by intro w' hSw; (try dsimp only at hSw); go_simp⟩) (by assumption) ?_; (try simp only [List.setIfInBounds_toArray, List.set_cons_zero, List.set_cons_succ])
      refine take17 (i := 1) (d := 34) (v := .int .i64 2) rfl rfl (by kernel_rfl) (by kernel_rfl) (by kernel_rfl) (fun _ _ _ h => h) (Or.inl ⟨by rfl, by intro w' hSw; (try dsimp only at hSw); have y4 := cell_of hSw 4; simp at y4; go_simp⟩) (by assumption) ?_; (try simp only [List.setIfInBounds_toArray, List.set_cons_zero, List.set_cons_succ])
      refine take17 (i := 2) (d := 35) (v := .pointer (some ⟨xb, 4, none⟩)) rfl rfl (by kernel_rfl) (by kernel_rfl) (by kernel_rfl) (fun _ _ _ h => h) (Or.inl ⟨by rfl, by intro w' hSw; (try dsimp only at hSw); go_simp⟩) (by assumption) ?_; (try simp only [List.setIfInBounds_toArray, List.set_cons_zero, List.set_cons_succ])
      refine take17 (i := 3) (d := 36) (v := .int .i64 2) rfl rfl (by kernel_rfl) (by kernel_rfl) (by kernel_rfl) (fun _ _ _ h => h) (Or.inl ⟨by rfl, by intro w' hSw; (try dsimp only at hSw); have y4 := cell_of hSw 4; simp at y4; go_simp⟩) (by assumption) ?_; (try simp only [List.setIfInBounds_toArray, List.set_cons_zero, List.set_cons_succ])
      refine take17 (i := 4) (d := 37) (v := .pointer (some ⟨tb, 2, none⟩)) rfl rfl (by kernel_rfl) (by kernel_rfl) (by kernel_rfl) (fun _ _ _ h => h) (Or.inl ⟨by rfl, by intro w' hSw; (try dsimp only at hSw); go_simp⟩) (by assumption) ?_; (try simp only [List.setIfInBounds_toArray, List.set_cons_zero, List.set_cons_succ])
      refine take17 (i := 5) (d := 38) (v := .pointer (some ⟨tb, 4, none⟩)) rfl rfl (by kernel_rfl) (by kernel_rfl) (by kernel_rfl) (fun _ _ _ h => h) (Or.inl ⟨by rfl, by intro w' hSw; (try dsimp only at hSw); go_simp⟩) (by assumption) ?_; (try simp only [List.setIfInBounds_toArray, List.set_cons_zero, List.set_cons_succ])
      refine take17 (i := 7) (d := 40) (v := .pointer (some ⟨xb, 5, none⟩)) rfl rfl (by kernel_rfl) (by kernel_rfl) (by kernel_rfl) (fun _ _ _ h => h) (Or.inl ⟨by rfl, by intro w' hSw; (try dsimp only at hSw); go_simp⟩) (by assumption) ?_; (try simp only [List.setIfInBounds_toArray, List.set_cons_zero, List.set_cons_succ])
      refine take17 (i := 8) (d := 41) (v := .int .i64 off) rfl rfl (by kernel_rfl) (by kernel_rfl) (by kernel_rfl) (fun _ _ _ h => h) (Or.inl ⟨by rfl, by intro w' hSw; (try dsimp only at hSw); have y5 := cell_of hSw 5; simp at y5; go_simp⟩) (by assumption) ?_; (try simp only [List.setIfInBounds_toArray, List.set_cons_zero, List.set_cons_succ])
      refine take17 (i := 10) (d := 43) (v := .pointer (some ⟨tb, 2, none⟩)) rfl rfl (by kernel_rfl) (by kernel_rfl) (by kernel_rfl) (fun _ _ _ h => h) (Or.inl ⟨by rfl, by intro w' hSw; (try dsimp only at hSw); go_simp⟩) (by assumption) ?_; (try simp only [List.setIfInBounds_toArray, List.set_cons_zero, List.set_cons_succ])
      have zt : w5.cell? ⟨tb, 4, none⟩ = some (.int .i64 o2) := cell_of (unhide HTB5) 4
      refine wpAnyH_ready (rs := [6]) (by kernel_rfl) (by simp) ?_
      refine AllReadyH.cons rfl (fun K hK => ?_) AllReadyH.nil
      go_simp
      refine hK.out _ _ (by assumption) (fun hHeld => ?_)
      clear hK K
      (try simp only [Act.put, List.setIfInBounds_toArray, List.set_cons_zero, List.set_cons_succ])
      refine take17 (i := 9) (d := 42) (v := .int .i64 (max o2 off)) rfl rfl (by kernel_rfl) (by kernel_rfl) (by kernel_rfl) (fun _ _ _ h => h) (Or.inl ⟨by rfl, by intro w' hSw; (try dsimp only at hSw); go_simp⟩) (by assumption) ?_; (try simp only [List.setIfInBounds_toArray, List.set_cons_zero, List.set_cons_succ])
      refine take17 (i := 11) (d := 44) (v := .pointer (some ⟨tb, 4, none⟩)) rfl rfl (by kernel_rfl) (by kernel_rfl) (by kernel_rfl) (fun _ _ _ h => h) (Or.inl ⟨by rfl, by intro w' hSw; (try dsimp only at hSw); go_simp⟩) (by assumption) ?_; (try simp only [List.setIfInBounds_toArray, List.set_cons_zero, List.set_cons_succ])
      have ft : w5.frozen? ⟨tb, 4, none⟩ = false := frozen_of (unhide HTB5) 4
      have tt := touch_set w5 tb 4 (.int .i64 (max o2 off))
      have HTB6 := hide (heap_set (unhide HTB5) 4 (.int .i64 (max o2 off)))
      have HX6 := hide (tt.keep (unhide HX5) (unhide HXT))
      have H6 := hide ((unhide H5).keep tt (unhide HST))
      have T6 := hide ((unhide T5).trans (tt.mono (fun q hq => by rw [hq]; exact unhide HW2)))
      clear tt HTB5 HX5 H5 T5
      refine wpAnyH_ready (rs := [12]) (by kernel_rfl) (by simp) ?_
      refine AllReadyH.cons rfl (fun K hK => ?_) AllReadyH.nil
      go_simp
      refine hK.out _ _ (unhide HX6) (fun hHeld => ?_)
      clear hK K zt ft
      (try simp only [Act.put, List.setIfInBounds_toArray])
      generalize w5.setCell ⟨tb, 4, none⟩ (.int .i64 (max o2 off)) = w6 at *
      refine wpAnyH_done (by kernel_rfl) ?_ _
      clear hHeld
      go_upto_region 10 with fail
      have hd7 : Below w6.heap.size w6 w6.drew := (Below.refl _ _).drew
      have H7 := hide ((unhide H6).later hd7)
      have HX7 := hide (below_keep hd7 (unhide HX6))
      have HTB7 := hide (below_keep hd7 (unhide HTB6))
      have T7 := hide ((unhide T6).drew)
      clear H6 HX6 HTB6 T6
      obtain ⟨w8, hst, hm8, ht8⟩ := ((unhide H7).map1 rfl).1.store (M := gK) (s := 1) (by rcases (unhide H7).few with e | ⟨t, e⟩ <;> rw [e] <;> (show _ < maxLen; unfold maxLen; simp)) wf_one ⟨tg, tgb, tn, tc, o0, o1, (max o2 off), o3⟩
      have hst' : (Instr.mapUpdate 49 (.map (some mb)) (.int .i64 1) (.agg #[.int .i64 tg, .slice sa tn tc, .int .i64 o0, .int .i64 o1, .int .i64 (max o2 off), .int .i64 o3])).run Try.prog w6.drew = .ok () w8 := by
        rw [← unhide HSA]
        exact hst
      have nsb : sb ≠ mb := fun e => by
        obtain ⟨es, ck, h1⟩ := ((unhide H7).map1 rfl).1.block
        rw [← e, (unhide H7).obj] at h1
        cases h1
      have nxb : xb ≠ mb := fun e => by
        obtain ⟨es, ck, h1⟩ := ((unhide H7).map1 rfl).1.block
        rw [← e, unhide HX7] at h1
        cases h1
      have ntb : tb ≠ mb := fun e => by
        obtain ⟨es, ck, h1⟩ := ((unhide H7).map1 rfl).1.block
        rw [← e, unhide HTB7] at h1
        cases h1
      have F8 : Hid (HdP B w sb mv2 m1 W 2 off (.returned (.tuple #[])) w8) := hide ⟨rfl, mb, (1, ⟨tg, tgb, tn, tc, o0, o1, (max o2 off), o3⟩) :: mdel m1 1, ⟨ht8.keep (unhide H7).obj nsb, .inr ⟨mb, rfl, hm8, ((unhide H7).map1 rfl).2⟩, by
        rcases (unhide H7).wt with ⟨e, e2⟩ | ⟨b, e, m, hb⟩
        · exact .inl ⟨e, e2⟩
        · exact .inr ⟨b, e, m.keep ht8 (fun e2 => (unhide H7).ne mb rfl (by rw [e, e2])), hb⟩, (unhide H7).ne, .inr ⟨_, by rw [mdel_few (unhide H7).few]⟩, (unhide H7).hb⟩, by
        rw [← unhide HT]
        simp [tOf, matx, mgot, tPut], (unhide T7).trans (ht8.mono (fun q hq => by rw [hq]; exact ((unhide H7).map1 rfl).2))⟩
      have S8 : Hid (w8.cell? ⟨sb, 0, none⟩ = some (.map (some mb)) ∧ w8.heap[xb]? = some (.cells #[.int .i64 2, .int .i64 1, .int .i64 gen, .slice a 0 k, .int .i64 2, .int .i64 off] 29) ∧ w8.heap[tb]? = some (.cells #[.int .i64 tg, .slice sa tn tc, .int .i64 o0, .int .i64 o1, .int .i64 (max o2 off), .int .i64 o3] 61)) := hide ⟨cell_of (ht8.keep (unhide H7).obj nsb) 0, ht8.keep (unhide HX7) nxb, ht8.keep (unhide HTB7) ntb⟩
      have S7 : Hid (w6.drew.cell? ⟨sb, 0, none⟩ = some (.map (some mb)) ∧ w6.drew.heap[xb]? = some (.cells #[.int .i64 2, .int .i64 1, .int .i64 gen, .slice a 0 k, .int .i64 2, .int .i64 off] 29) ∧ w6.drew.heap[tb]? = some (.cells #[.int .i64 tg, .slice sa tn tc, .int .i64 o0, .int .i64 o1, .int .i64 (max o2 off), .int .i64 o3] 61)) := hide ⟨cell_of (unhide H7).obj 0, unhide HX7, unhide HTB7⟩
      clear hst hm8 ht8 nsb nxb ntb H7 HX7 HTB7 T7 hd7
      refine wp_region_held_drew (S := fun w' => w'.cell? ⟨sb, 0, none⟩ = some (.map (some mb)) ∧ w'.heap[xb]? = some (.cells #[.int .i64 2, .int .i64 1, .int .i64 gen, .slice a 0 k, .int .i64 2, .int .i64 off] 29) ∧ w'.heap[tb]? = some (.cells #[.int .i64 tg, .slice sa tn tc, .int .i64 o0, .int .i64 o1, .int .i64 (max o2 off), .int .i64 o3] 61)) (by kernel_rfl) (unhide S7) (fun hHeld => ?_)
      clear S7
      generalize w6.drew = w7 at *
      refine take17 (i := 0) (d := 57) (v := .pointer (some ⟨sb, 0, none⟩)) rfl rfl (by kernel_rfl) (by kernel_rfl) (by kernel_rfl) (fun _ _ _ h => h) (Or.inl ⟨by rfl, by intro w' hSw; (try dsimp only at hSw); go_simp⟩) (by assumption) ?_; (try simp only [List.setIfInBounds_toArray, List.set_cons_zero, List.set_cons_succ])
      refine take17 (i := 1) (d := 58) (v := .pointer (some ⟨sb, 0, none⟩)) rfl rfl (by kernel_rfl) (by kernel_rfl) (by kernel_rfl) (fun _ _ _ h => h) (Or.inl ⟨by rfl, by intro w' hSw; (try dsimp only at hSw); go_simp⟩) (by assumption) ?_; (try simp only [List.setIfInBounds_toArray, List.set_cons_zero, List.set_cons_succ])
      refine take17 (i := 2) (d := 59) (v := .pointer (some ⟨sb, 0, none⟩)) rfl rfl (by kernel_rfl) (by kernel_rfl) (by kernel_rfl) (fun _ _ _ h => h) (Or.inl ⟨by rfl, by intro w' hSw; (try dsimp only at hSw); go_simp⟩) (by assumption) ?_; (try simp only [List.setIfInBounds_toArray, List.set_cons_zero, List.set_cons_succ])
      refine take17 (i := 3) (d := 60) (v := .map (some mb)) rfl rfl (by kernel_rfl) (by kernel_rfl) (by kernel_rfl) (fun _ _ _ h => h) (Or.inl ⟨by rfl, by intro w' hSw; (try dsimp only at hSw); obtain ⟨s0, s1, s2⟩ := hSw; go_simp⟩) (by assumption) ?_; (try simp only [List.setIfInBounds_toArray, List.set_cons_zero, List.set_cons_succ])
      refine take17 (i := 4) (d := 61) (v := .pointer (some ⟨xb, 1, none⟩)) rfl rfl (by kernel_rfl) (by kernel_rfl) (by kernel_rfl) (fun _ _ _ h => h) (Or.inl ⟨by rfl, by intro w' hSw; (try dsimp only at hSw); go_simp⟩) (by assumption) ?_; (try simp only [List.setIfInBounds_toArray, List.set_cons_zero, List.set_cons_succ])
      refine take17 (i := 5) (d := 62) (v := .int .i64 1) rfl rfl (by kernel_rfl) (by kernel_rfl) (by kernel_rfl) (fun _ _ _ h => h) (Or.inl ⟨by rfl, by intro w' hSw; (try dsimp only at hSw); obtain ⟨s0, s1, s2⟩ := hSw; have y1 := cell_of s1 1; simp at y1; go_simp⟩) (by assumption) ?_; (try simp only [List.setIfInBounds_toArray, List.set_cons_zero, List.set_cons_succ])
      refine take17 (i := 6) (d := 63) (v := .agg #[.int .i64 tg, .slice sa tn tc, .int .i64 o0, .int .i64 o1, .int .i64 (max o2 off), .int .i64 o3]) rfl rfl (by kernel_rfl) (by kernel_rfl) (by kernel_rfl) (fun _ _ _ h => h) (Or.inl ⟨by rfl, by intro w' hSw; (try dsimp only at hSw); obtain ⟨s0, s1, s2⟩ := hSw; have q0 := cell_of s2 0; have q1 := cell_of s2 1; have q2 := cell_of s2 2; have q3 := cell_of s2 3; have q4 := cell_of s2 4; have q5 := cell_of s2 5; simp at q0 q1 q2 q3 q4 q5; go_simp⟩) (by assumption) ?_; (try simp only [List.setIfInBounds_toArray, List.set_cons_zero, List.set_cons_succ])
      refine wpAnyH_ready (rs := [7]) (by kernel_rfl) (by simp) ?_
      refine AllReadyH.cons rfl (fun K hK => ?_) AllReadyH.nil
      go_simp
      refine hK.out _ _ (unhide S8) (fun hHeld => ?_)
      clear hK K
      (try simp only [Act.put, List.setIfInBounds_toArray])
      refine wpAnyH_done (by kernel_rfl) ?_ _
      clear hHeld hst'
      go_wp2
      go_roundw
      case rel => exact .inr ⟨by go_num, F8⟩
      case measure => simp [intOf]
    · go_wp2
      go_returns
      exact unhide hh
set_option maxRecDepth 100000 in
set_option maxHeartbeats 8000000 in
theorem hold_some3 {B : Nat} {w : World} {sb : Nat} {mv2 : Value} {m1 : List (Int × Tm)} {W : List (Int × Sl)} {gen off : Int} {v : Value} {mb : Nat} (h : GS B w sb (.map (some mb)) mv2 m1 W) (hv : OneR B w v ⟨2, 1, gen, [], 3, off⟩) (hB : B ≤ w.heap.size) :
    Calls Try.prog 18 #[.pointer (some ⟨sb, 0, none⟩), v] w fun e w' => HdP B w sb mv2 m1 W 3 off e w' := by
  obtain ⟨g, c, a, k, rfl, hw, _, hg⟩ := hv
  have y0 : w.cell? ⟨sb, 0, none⟩ = some (.map (some mb)) := cell_of h.obj 0
  have H := hide h
  have HW := hide hw
  have HG := hide hg
  have HB := hide hB
  have hq : ∀ (W : World) (b : Nat), (binOp .eql 49 (.map (some b)) (.map none)).run Try.prog W = .ok (.bool false) W := fun _ _ => by kernel_rfl
  have hq0 : ∀ (W : World), (binOp .eql 49 (.map none) (.map none)).run Try.prog W = .ok (.bool true) W := fun _ => by kernel_rfl
  clear h hw hg hB
  go_enter Try.func18, Try.ntmps18
  go_upto_region 2 with fail
  have H1 := H
  have W1 : Hid (Wide w 29 6 (.slice (some ⟨g, 0, none⟩) 1 c) 1 [.int .i64 2, .int .i64 1, .int .i64 gen, .slice a 0 k, .int .i64 3, .int .i64 off]) := HW
  have T1 : Hid (Touch (fun k => B ≤ k) w w) := hide (Touch.refl _ _)
  have HB1 := HB
  clear y0 H HW
  obtain ⟨w1, hw1⟩ : ∃ w1, w1 = w := ⟨_, rfl⟩
  rw [← hw1] at H1 W1 HB1
  have T1' : Hid (Touch (fun k => B ≤ k) w w1) := by rw [hw1]; exact T1
  clear T1
  have T1 := T1'
  clear T1'
  rw [← hw1]
  clear hw1
  go_wp2_with fail
  go_loopw [18] (fun iv wr => (iv = .int .i64 0 ∧ wr = w1) ∨ (iv = .int .i64 1 ∧ Hid (HdP B w sb mv2 m1 W 3 off (.returned (.tuple #[])) wr))) (fun iv _ => 1 - (intOf iv).toNat)
  case atStart => exact .inl ⟨rfl, rfl⟩
  case round =>
    rcases hrel with ⟨rfl, rfl⟩ | ⟨rfl, hh⟩
    · obtain ⟨a', cap, ev, _, _, _, _, hc⟩ := (unhide W1).parts
      obtain ⟨g', ea, _, hcell, _⟩ := hc (by omega)
      injection ev with e1 e2 e3
      rw [ea] at e1
      cases e1
      have z0 := hcell 0 (by omega)
      have z1 := hcell 1 (by omega)
      have z2 := hcell 2 (by omega)
      have z3 := hcell 3 (by omega)
      have z4 := hcell 4 (by omega)
      have z5 := hcell 5 (by omega)
      simp only [List.getElem?_cons_zero, List.getElem?_cons_succ] at z0 z1 z2 z3 z4 z5
      clear hcell hc ea e2 e3
      go_upto_region 5 with fail
      have b2 := (Below.refl wr.heap.size wr).alloc (Nat.le_refl _) (.cells #[.int .i64 2, .int .i64 1, .int .i64 gen, .slice a 0 k, .int .i64 3, .int .i64 off] 29)
      have HX := hide (heap_new wr (.cells #[.int .i64 2, .int .i64 1, .int .i64 gen, .slice a 0 k, .int .i64 3, .int .i64 off] 29))
      have H2 := hide ((unhide H1).later b2)
      have T2 := hide ((unhide T1).trans (Touch.of_below b2))
      have HXB : Hid (B ≤ wr.heap.size) := HB1
      clear b2 H1 W1 T1 z0 z1 z2 z3 z4 z5
      change Code.wp _ _ _ _ (wr.alloc (.cells #[.int .i64 2, .int .i64 1, .int .i64 gen, .slice a 0 k, .int .i64 3, .int .i64 off] 29))
      generalize wr.alloc (.cells #[.int .i64 2, .int .i64 1, .int .i64 gen, .slice a 0 k, .int .i64 3, .int .i64 off] 29) = w2 at *
      generalize wr.heap.size = xb at *
      obtain ⟨T, hT⟩ : ∃ T, T = tOf m1 := ⟨_, rfl⟩
      have HT := hide hT
      clear hT
      have LK : Hid (∀ W, Below w2.heap.size w2 W → (Instr.lookup 49 (.map (some mb)) (.int .i64 1) false).run Try.prog W = .ok (tmV T) W) := hide (fun W hb => by
        have := (((unhide H2).later hb).map1 rfl).1.look1 (M := gK) (s := 1) wf_one
        rw [unhide HT]
        exact this)
      obtain ⟨tg, tgb, tn, tc, o0, o1, o2, o3⟩ := T
      unfold tmV tmC at LK
      simp only at LK
      generalize hsa : Option.map (fun g => (⟨g, 0, none⟩ : Addr)) tgb = sa at *
      have HSA := hide hsa
      clear hsa
      have SK : Hid (∀ W, Below w2.heap.size w2 W → W.cell? ⟨sb, 0, none⟩ = some (.map (some mb)) ∧ W.cell? ⟨xb, 1, none⟩ = some (.int .i64 1) ∧ (Instr.lookup 49 (.map (some mb)) (.int .i64 1) false).run Try.prog W = .ok (.agg #[.int .i64 tg, .slice sa tn tc, .int .i64 o0, .int .i64 o1, .int .i64 o2, .int .i64 o3]) W) := hide (fun W hb => ⟨cell_of (below_keep hb (unhide H2).obj) 0, cell_of (below_keep hb (unhide HX)) 1, unhide LK W hb⟩)
      clear LK
      refine wp_region_held_drew (S := fun w' => Below w2.heap.size w2 w') (by kernel_rfl) ((Below.refl _ _).drew) (fun hHeld => ?_)
      refine take17 (i := 0) (d := 22) (v := .pointer (some ⟨sb, 0, none⟩)) rfl rfl (by kernel_rfl) (by kernel_rfl) (by kernel_rfl) (fun _ _ _ h => h) (Or.inl ⟨by rfl, by intro w' hSw; (try dsimp only at hSw); go_simp⟩) (by assumption) ?_; (try simp only [List.setIfInBounds_toArray, List.set_cons_zero, List.set_cons_succ])
      refine take17 (i := 1) (d := 23) (v := .pointer (some ⟨sb, 0, none⟩)) rfl rfl (by kernel_rfl) (by kernel_rfl) (by kernel_rfl) (fun _ _ _ h => h) (Or.inl ⟨by rfl, by intro w' hSw; (try dsimp only at hSw); go_simp⟩) (by assumption) ?_; (try simp only [List.setIfInBounds_toArray, List.set_cons_zero, List.set_cons_succ])
      refine take17 (i := 2) (d := 24) (v := .pointer (some ⟨sb, 0, none⟩)) rfl rfl (by kernel_rfl) (by kernel_rfl) (by kernel_rfl) (fun _ _ _ h => h) (Or.inl ⟨by rfl, by intro w' hSw; (try dsimp only at hSw); go_simp⟩) (by assumption) ?_; (try simp only [List.setIfInBounds_toArray, List.set_cons_zero, List.set_cons_succ])
      refine take17 (i := 3) (d := 25) (v := .map (some mb)) rfl rfl (by kernel_rfl) (by kernel_rfl) (by kernel_rfl) (fun _ _ _ h => h) (Or.inl ⟨by rfl, by intro w' hSw; (try dsimp only at hSw); obtain ⟨s0, s1, sl⟩ := unhide SK w' hSw; go_simp⟩) (by assumption) ?_; (try simp only [List.setIfInBounds_toArray, List.set_cons_zero, List.set_cons_succ])
      refine take17 (i := 4) (d := 26) (v := .pointer (some ⟨xb, 1, none⟩)) rfl rfl (by kernel_rfl) (by kernel_rfl) (by kernel_rfl) (fun _ _ _ h => h) (Or.inl ⟨by rfl, by intro w' hSw; (try dsimp only at hSw); go_simp⟩) (by assumption) ?_; (try simp only [List.setIfInBounds_toArray, List.set_cons_zero, List.set_cons_succ])
      refine take17 (i := 5) (d := 27) (v := .int .i64 1) rfl rfl (by kernel_rfl) (by kernel_rfl) (by kernel_rfl) (fun _ _ _ h => h) (Or.inl ⟨by rfl, by intro w' hSw; (try dsimp only at hSw); obtain ⟨s0, s1, sl⟩ := unhide SK w' hSw; go_simp⟩) (by assumption) ?_; (try simp only [List.setIfInBounds_toArray, List.set_cons_zero, List.set_cons_succ])
      refine take17 (i := 6) (d := 28) (v := .agg #[.int .i64 tg, .slice sa tn tc, .int .i64 o0, .int .i64 o1, .int .i64 o2, .int .i64 o3]) rfl rfl (by kernel_rfl) (by kernel_rfl) (by kernel_rfl) (fun _ _ _ h => h) (Or.inl ⟨by rfl, by intro w' hSw; (try dsimp only at hSw); obtain ⟨s0, s1, sl⟩ := unhide SK w' hSw; go_simp⟩) (by assumption) ?_; (try simp only [List.setIfInBounds_toArray, List.set_cons_zero, List.set_cons_succ])
      refine wpAnyH_ready (rs := [7]) (by kernel_rfl) (by simp) ?_
      refine AllReadyH.cons rfl (fun K hK => ?_) AllReadyH.nil
      go_simp
      have b3 : Below w2.heap.size w2 (w2.drew.alloc (.cells #[.int .i64 0, .slice none 0 0, .int .i64 0, .int .i64 0, .int .i64 0, .int .i64 0] 61)) := ((Below.refl _ _).drew).alloc (Nat.le_refl _) _
      have HTB := hide (heap_new w2.drew (.cells #[.int .i64 0, .slice none 0 0, .int .i64 0, .int .i64 0, .int .i64 0, .int .i64 0] 61))
      have HB3 := hide b3
      refine hK.out _ _ b3 (fun hHeld => ?_)
      clear hK K b3
      (try simp only [Act.put, List.setIfInBounds_toArray, List.set_cons_zero, List.set_cons_succ])
      change wpAnyH _ _ _ _ _ _ _ _ (w2.drew.alloc (.cells #[.int .i64 0, .slice none 0 0, .int .i64 0, .int .i64 0, .int .i64 0, .int .i64 0] 61))
      have hdz : w2.drew.heap.size = w2.heap.size := rfl
      rw [hdz] at HTB
      clear hdz
      generalize w2.drew.alloc (.cells #[.int .i64 0, .slice none 0 0, .int .i64 0, .int .i64 0, .int .i64 0, .int .i64 0] 61) = w3 at *
      refine wpAnyH_ready (rs := [8]) (by kernel_rfl) (by simp) ?_
      refine AllReadyH.cons rfl (fun K hK => ?_) AllReadyH.nil
      rw [if_pos (by rfl)]
      obtain ⟨q1, q2⟩ := heap_setCells [.int .i64 tg, .slice sa tn tc, .int .i64 o0, .int .i64 o1, .int .i64 o2, .int .i64 o3] 0 w3 _ (unhide HTB)
      have HTB4 : Hid ((w3.setCells w2.heap.size 0 [.int .i64 tg, .slice sa tn tc, .int .i64 o0, .int .i64 o1, .int .i64 o2, .int .i64 o3]).heap[w2.heap.size]? = some (.cells #[.int .i64 tg, .slice sa tn tc, .int .i64 o0, .int .i64 o1, .int .i64 o2, .int .i64 o3] 61)) := hide q1
      have HB4 := hide (below_touch (unhide HB3) q2 (unhide HB3).size (fun k hk => by omega))
      refine wp_store_mid 61 (.tmp 6) (.tmp 28) rfl w2.heap.size 0 #[.int .i64 tg, .slice sa tn tc, .int .i64 o0, .int .i64 o1, .int .i64 o2, .int .i64 o3] rfl rfl (there_of (unhide HTB) (by show 0 + 6 ≤ 6; decide)) (by kernel_rfl) (by simp [Value.oneCell']) ?_
      refine hK.out _ _ (unhide HB4) (fun hHeld => ?_)
      clear hK K q1 q2 HTB HB3
      (try simp only [Act.put, List.setIfInBounds_toArray])
      change wpAnyH _ _ _ _ _ _ _ _ (w3.setCells w2.heap.size 0 [.int .i64 tg, .slice sa tn tc, .int .i64 o0, .int .i64 o1, .int .i64 o2, .int .i64 o3])
      generalize w3.setCells w2.heap.size 0 [.int .i64 tg, .slice sa tn tc, .int .i64 o0, .int .i64 o1, .int .i64 o2, .int .i64 o3] = w4 at *
      refine wpAnyH_done (by kernel_rfl) ?_ _
      have H4 := hide ((unhide H2).later (unhide HB4))
      have HX4 := hide (below_keep (unhide HB4) (unhide HX))
      have T4 := hide ((unhide T2).trans (Touch.of_below (unhide HB4)))
      have HW2 : Hid (B ≤ w2.heap.size) := hide (Nat.le_trans (unhide HXB) (Nat.le_of_lt (lt_of_heap (unhide HX))))
      have HXT : Hid (xb ≠ w2.heap.size) := hide (by have := lt_of_heap (unhide HX); omega)
      have HST : Hid (∀ q, Own3 sb (.map (some mb)) mv2 q → q ≠ w2.heap.size) := hide (fun q hq e => (unhide H4).apart (e ▸ unhide HTB4) (by decide) hq)
      clear hHeld SK H2 HX T2 HB4
      generalize w2.heap.size = tb at *
      have x0 := cell_of (unhide HX4) 0
      simp at x0
      go_upto_region 7 with fail
      clear x0
      have hd5 : Below w4.heap.size w4 w4.drew := (Below.refl _ _).drew
      have H5 := hide ((unhide H4).later hd5)
      have HX5 := hide (below_keep hd5 (unhide HX4))
      have HTB5 := hide (below_keep hd5 (unhide HTB4))
      have T5 := hide ((unhide T4).drew)
      clear H4 HX4 HTB4 T4
      refine wp_region_held_drew (S := fun w' => w'.heap[xb]? = some (.cells #[.int .i64 2, .int .i64 1, .int .i64 gen, .slice a 0 k, .int .i64 3, .int .i64 off] 29)) (by kernel_rfl) (unhide HX5) (fun hHeld => ?_)
      generalize w4.drew = w5 at *
      clear hd5
      refine take17 (i := 0) (d := 33) (v := .pointer (some ⟨xb, 4, none⟩)) rfl rfl (by kernel_rfl) (by kernel_rfl) (by kernel_rfl) (fun _ _ _ h => h) (Or.inl ⟨by rfl, by intro w' hSw; (try dsimp only at hSw); go_simp⟩) (by assumption) ?_; (try simp only [List.setIfInBounds_toArray, List.set_cons_zero, List.set_cons_succ])
      refine take17 (i := 1) (d := 34) (v := .int .i64 3) rfl rfl (by kernel_rfl) (by kernel_rfl) (by kernel_rfl) (fun _ _ _ h => h) (Or.inl ⟨by rfl, by intro w' hSw; (try dsimp only at hSw); have y4 := cell_of hSw 4; simp at y4; go_simp⟩) (by assumption) ?_; (try simp only [List.setIfInBounds_toArray, List.set_cons_zero, List.set_cons_succ])
      refine take17 (i := 2) (d := 35) (v := .pointer (some ⟨xb, 4, none⟩)) rfl rfl (by kernel_rfl) (by kernel_rfl) (by kernel_rfl) (fun _ _ _ h => h) (Or.inl ⟨by rfl, by intro w' hSw; (try dsimp only at hSw); go_simp⟩) (by assumption) ?_; (try simp only [List.setIfInBounds_toArray, List.set_cons_zero, List.set_cons_succ])
      refine take17 (i := 3) (d := 36) (v := .int .i64 3) rfl rfl (by kernel_rfl) (by kernel_rfl) (by kernel_rfl) (fun _ _ _ h => h) (Or.inl ⟨by rfl, by intro w' hSw; (try dsimp only at hSw); have y4 := cell_of hSw 4; simp at y4; go_simp⟩) (by assumption) ?_; (try simp only [List.setIfInBounds_toArray, List.set_cons_zero, List.set_cons_succ])
      refine take17 (i := 4) (d := 37) (v := .pointer (some ⟨tb, 2, none⟩)) rfl rfl (by kernel_rfl) (by kernel_rfl) (by kernel_rfl) (fun _ _ _ h => h) (Or.inl ⟨by rfl, by intro w' hSw; (try dsimp only at hSw); go_simp⟩) (by assumption) ?_; (try simp only [List.setIfInBounds_toArray, List.set_cons_zero, List.set_cons_succ])
      refine take17 (i := 5) (d := 38) (v := .pointer (some ⟨tb, 5, none⟩)) rfl rfl (by kernel_rfl) (by kernel_rfl) (by kernel_rfl) (fun _ _ _ h => h) (Or.inl ⟨by rfl, by intro w' hSw; (try dsimp only at hSw); go_simp⟩) (by assumption) ?_; (try simp only [List.setIfInBounds_toArray, List.set_cons_zero, List.set_cons_succ])
      refine take17 (i := 7) (d := 40) (v := .pointer (some ⟨xb, 5, none⟩)) rfl rfl (by kernel_rfl) (by kernel_rfl) (by kernel_rfl) (fun _ _ _ h => h) (Or.inl ⟨by rfl, by intro w' hSw; (try dsimp only at hSw); go_simp⟩) (by assumption) ?_; (try simp only [List.setIfInBounds_toArray, List.set_cons_zero, List.set_cons_succ])
      refine take17 (i := 8) (d := 41) (v := .int .i64 off) rfl rfl (by kernel_rfl) (by kernel_rfl) (by kernel_rfl) (fun _ _ _ h => h) (Or.inl ⟨by rfl, by intro w' hSw; (try dsimp only at hSw); have y5 := cell_of hSw 5; simp at y5; go_simp⟩) (by assumption) ?_; (try simp only [List.setIfInBounds_toArray, List.set_cons_zero, List.set_cons_succ])
      refine take17 (i := 10) (d := 43) (v := .pointer (some ⟨tb, 2, none⟩)) rfl rfl (by kernel_rfl) (by kernel_rfl) (by kernel_rfl) (fun _ _ _ h => h) (Or.inl ⟨by rfl, by intro w' hSw; (try dsimp only at hSw); go_simp⟩) (by assumption) ?_; (try simp only [List.setIfInBounds_toArray, List.set_cons_zero, List.set_cons_succ])
      have zt : w5.cell? ⟨tb, 5, none⟩ = some (.int .i64 o3) := cell_of (unhide HTB5) 5
      refine wpAnyH_ready (rs := [6]) (by kernel_rfl) (by simp) ?_
      refine AllReadyH.cons rfl (fun K hK => ?_) AllReadyH.nil
      go_simp
      refine hK.out _ _ (by assumption) (fun hHeld => ?_)
      clear hK K
      (try simp only [Act.put, List.setIfInBounds_toArray, List.set_cons_zero, List.set_cons_succ])
      refine take17 (i := 9) (d := 42) (v := .int .i64 (max o3 off)) rfl rfl (by kernel_rfl) (by kernel_rfl) (by kernel_rfl) (fun _ _ _ h => h) (Or.inl ⟨by rfl, by intro w' hSw; (try dsimp only at hSw); go_simp⟩) (by assumption) ?_; (try simp only [List.setIfInBounds_toArray, List.set_cons_zero, List.set_cons_succ])
      refine take17 (i := 11) (d := 44) (v := .pointer (some ⟨tb, 5, none⟩)) rfl rfl (by kernel_rfl) (by kernel_rfl) (by kernel_rfl) (fun _ _ _ h => h) (Or.inl ⟨by rfl, by intro w' hSw; (try dsimp only at hSw); go_simp⟩) (by assumption) ?_; (try simp only [List.setIfInBounds_toArray, List.set_cons_zero, List.set_cons_succ])
      have ft : w5.frozen? ⟨tb, 5, none⟩ = false := frozen_of (unhide HTB5) 5
      have tt := touch_set w5 tb 5 (.int .i64 (max o3 off))
      have HTB6 := hide (heap_set (unhide HTB5) 5 (.int .i64 (max o3 off)))
      have HX6 := hide (tt.keep (unhide HX5) (unhide HXT))
      have H6 := hide ((unhide H5).keep tt (unhide HST))
      have T6 := hide ((unhide T5).trans (tt.mono (fun q hq => by rw [hq]; exact unhide HW2)))
      clear tt HTB5 HX5 H5 T5
      refine wpAnyH_ready (rs := [12]) (by kernel_rfl) (by simp) ?_
      refine AllReadyH.cons rfl (fun K hK => ?_) AllReadyH.nil
      go_simp
      refine hK.out _ _ (unhide HX6) (fun hHeld => ?_)
      clear hK K zt ft
      (try simp only [Act.put, List.setIfInBounds_toArray])
      generalize w5.setCell ⟨tb, 5, none⟩ (.int .i64 (max o3 off)) = w6 at *
      refine wpAnyH_done (by kernel_rfl) ?_ _
      clear hHeld
      go_upto_region 10 with fail
      have hd7 : Below w6.heap.size w6 w6.drew := (Below.refl _ _).drew
      have H7 := hide ((unhide H6).later hd7)
      have HX7 := hide (below_keep hd7 (unhide HX6))
      have HTB7 := hide (below_keep hd7 (unhide HTB6))
      have T7 := hide ((unhide T6).drew)
      clear H6 HX6 HTB6 T6
      obtain ⟨w8, hst, hm8, ht8⟩ := ((unhide H7).map1 rfl).1.store (M := gK) (s := 1) (by rcases (unhide H7).few with e | ⟨t, e⟩ <;> rw [e] <;> (show _ < maxLen; unfold maxLen; simp)) wf_one ⟨tg, tgb, tn, tc, o0, o1, o2, (max o3 off)⟩
      have hst' : (Instr.mapUpdate 49 (.map (some mb)) (.int .i64 1) (.agg #[.int .i64 tg, .slice sa tn tc, .int .i64 o0, .int .i64 o1, .int .i64 o2, .int .i64 (max o3 off)])).run Try.prog w6.drew = .ok () w8 := by
        rw [← unhide HSA]
        exact hst
      have nsb : sb ≠ mb := fun e => by
        obtain ⟨es, ck, h1⟩ := ((unhide H7).map1 rfl).1.block
        rw [← e, (unhide H7).obj] at h1
        cases h1
      have nxb : xb ≠ mb := fun e => by
        obtain ⟨es, ck, h1⟩ := ((unhide H7).map1 rfl).1.block
        rw [← e, unhide HX7] at h1
        cases h1
      have ntb : tb ≠ mb := fun e => by
        obtain ⟨es, ck, h1⟩ := ((unhide H7).map1 rfl).1.block
        rw [← e, unhide HTB7] at h1
        cases h1
      have F8 : Hid (HdP B w sb mv2 m1 W 3 off (.returned (.tuple #[])) w8) := hide ⟨rfl, mb, (1, ⟨tg, tgb, tn, tc, o0, o1, o2, (max o3 off)⟩) :: mdel m1 1, ⟨ht8.keep (unhide H7).obj nsb, .inr ⟨mb, rfl, hm8, ((unhide H7).map1 rfl).2⟩, by
        rcases (unhide H7).wt with ⟨e, e2⟩ | ⟨b, e, m, hb⟩
        · exact .inl ⟨e, e2⟩
        · exact .inr ⟨b, e, m.keep ht8 (fun e2 => (unhide H7).ne mb rfl (by rw [e, e2])), hb⟩, (unhide H7).ne, .inr ⟨_, by rw [mdel_few (unhide H7).few]⟩, (unhide H7).hb⟩, by
        rw [← unhide HT]
        simp [tOf, matx, mgot, tPut], (unhide T7).trans (ht8.mono (fun q hq => by rw [hq]; exact ((unhide H7).map1 rfl).2))⟩
      have S8 : Hid (w8.cell? ⟨sb, 0, none⟩ = some (.map (some mb)) ∧ w8.heap[xb]? = some (.cells #[.int .i64 2, .int .i64 1, .int .i64 gen, .slice a 0 k, .int .i64 3, .int .i64 off] 29) ∧ w8.heap[tb]? = some (.cells #[.int .i64 tg, .slice sa tn tc, .int .i64 o0, .int .i64 o1, .int .i64 o2, .int .i64 (max o3 off)] 61)) := hide ⟨cell_of (ht8.keep (unhide H7).obj nsb) 0, ht8.keep (unhide HX7) nxb, ht8.keep (unhide HTB7) ntb⟩
      have S7 : Hid (w6.drew.cell? ⟨sb, 0, none⟩ = some (.map (some mb)) ∧ w6.drew.heap[xb]? = some (.cells #[.int .i64 2, .int .i64 1, .int .i64 gen, .slice a 0 k, .int .i64 3, .int .i64 off] 29) ∧ w6.drew.heap[tb]? = some (.cells #[.int .i64 tg, .slice sa tn tc, .int .i64 o0, .int .i64 o1, .int .i64 o2, .int .i64 (max o3 off)] 61)) := hide ⟨cell_of (unhide H7).obj 0, unhide HX7, unhide HTB7⟩
      clear hst hm8 ht8 nsb nxb ntb H7 HX7 HTB7 T7 hd7
      refine wp_region_held_drew (S := fun w' => w'.cell? ⟨sb, 0, none⟩ = some (.map (some mb)) ∧ w'.heap[xb]? = some (.cells #[.int .i64 2, .int .i64 1, .int .i64 gen, .slice a 0 k, .int .i64 3, .int .i64 off] 29) ∧ w'.heap[tb]? = some (.cells #[.int .i64 tg, .slice sa tn tc, .int .i64 o0, .int .i64 o1, .int .i64 o2, .int .i64 (max o3 off)] 61)) (by kernel_rfl) (unhide S7) (fun hHeld => ?_)
      clear S7
      generalize w6.drew = w7 at *
      refine take17 (i := 0) (d := 57) (v := .pointer (some ⟨sb, 0, none⟩)) rfl rfl (by kernel_rfl) (by kernel_rfl) (by kernel_rfl) (fun _ _ _ h => h) (Or.inl ⟨by rfl, by intro w' hSw; (try dsimp only at hSw); go_simp⟩) (by assumption) ?_; (try simp only [List.setIfInBounds_toArray, List.set_cons_zero, List.set_cons_succ])
      refine take17 (i := 1) (d := 58) (v := .pointer (some ⟨sb, 0, none⟩)) rfl rfl (by kernel_rfl) (by kernel_rfl) (by kernel_rfl) (fun _ _ _ h => h) (Or.inl ⟨by rfl, by intro w' hSw; (try dsimp only at hSw); go_simp⟩) (by assumption) ?_; (try simp only [List.setIfInBounds_toArray, List.set_cons_zero, List.set_cons_succ])
      refine take17 (i := 2) (d := 59) (v := .pointer (some ⟨sb, 0, none⟩)) rfl rfl (by kernel_rfl) (by kernel_rfl) (by kernel_rfl) (fun _ _ _ h => h) (Or.inl ⟨by rfl, by intro w' hSw; (try dsimp only at hSw); go_simp⟩) (by assumption) ?_; (try simp only [List.setIfInBounds_toArray, List.set_cons_zero, List.set_cons_succ])
      refine take17 (i := 3) (d := 60) (v := .map (some mb)) rfl rfl (by kernel_rfl) (by kernel_rfl) (by kernel_rfl) (fun _ _ _ h => h) (Or.inl ⟨by rfl, by intro w' hSw; (try dsimp only at hSw); obtain ⟨s0, s1, s2⟩ := hSw; go_simp⟩) (by assumption) ?_; (try simp only [List.setIfInBounds_toArray, List.set_cons_zero, List.set_cons_succ])
      refine take17 (i := 4) (d := 61) (v := .pointer (some ⟨xb, 1, none⟩)) rfl rfl (by kernel_rfl) (by kernel_rfl) (by kernel_rfl) (fun _ _ _ h => h) (Or.inl ⟨by rfl, by intro w' hSw; (try dsimp only at hSw); go_simp⟩) (by assumption) ?_; (try simp only [List.setIfInBounds_toArray, List.set_cons_zero, List.set_cons_succ])
      refine take17 (i := 5) (d := 62) (v := .int .i64 1) rfl rfl (by kernel_rfl) (by kernel_rfl) (by kernel_rfl) (fun _ _ _ h => h) (Or.inl ⟨by rfl, by intro w' hSw; (try dsimp only at hSw); obtain ⟨s0, s1, s2⟩ := hSw; have y1 := cell_of s1 1; simp at y1; go_simp⟩) (by assumption) ?_; (try simp only [List.setIfInBounds_toArray, List.set_cons_zero, List.set_cons_succ])
      refine take17 (i := 6) (d := 63) (v := .agg #[.int .i64 tg, .slice sa tn tc, .int .i64 o0, .int .i64 o1, .int .i64 o2, .int .i64 (max o3 off)]) rfl rfl (by kernel_rfl) (by kernel_rfl) (by kernel_rfl) (fun _ _ _ h => h) (Or.inl ⟨by rfl, by intro w' hSw; (try dsimp only at hSw); obtain ⟨s0, s1, s2⟩ := hSw; have q0 := cell_of s2 0; have q1 := cell_of s2 1; have q2 := cell_of s2 2; have q3 := cell_of s2 3; have q4 := cell_of s2 4; have q5 := cell_of s2 5; simp at q0 q1 q2 q3 q4 q5; go_simp⟩) (by assumption) ?_; (try simp only [List.setIfInBounds_toArray, List.set_cons_zero, List.set_cons_succ])
      refine wpAnyH_ready (rs := [7]) (by kernel_rfl) (by simp) ?_
      refine AllReadyH.cons rfl (fun K hK => ?_) AllReadyH.nil
      go_simp
      refine hK.out _ _ (unhide S8) (fun hHeld => ?_)
      clear hK K
      (try simp only [Act.put, List.setIfInBounds_toArray])
      refine wpAnyH_done (by kernel_rfl) ?_ _
      clear hHeld hst'
      go_wp2
      go_roundw
      case rel => exact .inr ⟨by go_num, F8⟩
      case measure => simp [intOf]
    · go_wp2
      go_returns
      exact unhide hh
end Go.Proofs.Ytfbnkeflgddcmaa
