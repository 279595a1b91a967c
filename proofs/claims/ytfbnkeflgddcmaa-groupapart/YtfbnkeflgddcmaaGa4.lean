/-
  hold of any one record. Conditions: the record is one of a group of 0 to 7.
-/
import Derived.Test.YtfbnkeflgddcmaaGa2
namespace Go.Proofs.Ytfbnkeflgddcmaa
open Go.RowKit Go.Maps
set_option linter.unusedVariables false

def Newer (x : Ga) (gen : Int) : Prop := gen > x.gen
def Grew (mo : Option Nat) (w : World) (b : Nat) : Prop := mo = some b ∨ w.heap.size ≤ b
set_option maxRecDepth 100000 in
set_option maxHeartbeats 8000000 in
theorem gold_none_off0 {B : Nat} {w : World} {sb c : Nat} {m : List (Int × Tm)} {A : Int → Ga} {gr gen off : Int} {l : List Int} {v : Value} (h : GP B w sb none m c A) (hv : OneS B w v ⟨2, gr, gen, l, 0, off⟩) (hr : 0 ≤ gr ∧ gr < 8) (hl : l.length ≤ 8) (hc : c < maxLen) (hB : B ≤ w.heap.size) :
    Calls Try.prog 18 #[.pointer (some ⟨sb, 0, none⟩), v] w fun e w' => HdQ B w sb none c A ⟨2, gr, gen, l, 0, off⟩ e w' := by
  obtain ⟨g, cv, og, a, k, ha, rfl, hw, hi, hg⟩ := hv
  have HA := hide ha
  have hi' : IAt w (adr og) l := by have q := hi; rw [ha] at q; exact q
  clear ha
  have y0 : w.cell? ⟨sb, 0, none⟩ = some (.map none) := cell_of h.obj 0
  have f0 : w.frozen? ⟨sb, 0, none⟩ = false := frozen_of h.obj 0
  have y2 : (w.alloc (.map #[] 0)).cell? ⟨sb, 0, none⟩ = some (.map none) := cell_of (heap_old _ h.obj) 0
  have f2 : (w.alloc (.map #[] 0)).frozen? ⟨sb, 0, none⟩ = false := frozen_of (heap_old _ h.obj) 0
  have hmm := @run_makeMap Try.prog
  have H := hide h
  have HW := hide hw
  have HI := hide hi'
  have HB := hide hB
  have HR := hide hr
  have HL := hide hl
  have HC := hide hc

  have hq : ∀ (W : World) (b : Nat), (binOp .eql 49 (.map (some b)) (.map none)).run Try.prog W = .ok (.bool false) W := fun _ _ => by kernel_rfl
  have hq0 : ∀ (W : World), (binOp .eql 49 (.map none) (.map none)).run Try.prog W = .ok (.bool true) W := fun _ => by kernel_rfl
  clear h hw hg hB hi hi' hr hl hc
  go_enter Try.func18, Try.ntmps18
  go_upto_region 2 with fail
  have b1 := (Below.refl w.heap.size w).alloc (Nat.le_refl _) (.map #[] 0)
  have tsb := touch_set (w.alloc (.map #[] 0)) sb 0 (.map (some w.heap.size))
  have hsb := lt_of_heap (unhide H).obj
  have hob := heap_set (heap_old (.map #[] 0) (unhide H).obj) 0 (.map (some w.heap.size))
  have T1 : Hid (Touch (TP sb none w) w ((w.alloc (.map #[] 0)).setCell ⟨sb, 0, none⟩ (.map (some w.heap.size)))) := hide ((Touch.of_below b1).trans (tsb.mono (fun k hk => .inl hk)))
  have H1 : Hid (GP B ((w.alloc (.map #[] 0)).setCell ⟨sb, 0, none⟩ (.map (some w.heap.size))) sb (some w.heap.size) m c A) := hide ⟨hob, .inr ⟨w.heap.size, rfl, by rw [(unhide H).none]; exact (MM.made gK w).keep tsb (fun h => by omega), unhide HB⟩, fun q => ((unhide H).team q).keep (unhide T1) (unhide H).odd, (unhide H).few, (unhide H).hb⟩
  have I1 : Hid (IAt ((w.alloc (.map #[] 0)).setCell ⟨sb, 0, none⟩ (.map (some w.heap.size))) (adr og) l) := hide ((unhide HI).odd (unhide T1) (unhide H).odd)
  have W1 : Hid (Wide ((w.alloc (.map #[] 0)).setCell ⟨sb, 0, none⟩ (.map (some w.heap.size))) 29 6 (.slice (some ⟨g, 0, none⟩) 1 cv) 1 [.int .i64 2, .int .i64 gr, .int .i64 gen, .slice a l.length k, .int .i64 0, .int .i64 off]) := hide (((unhide HW).later b1).keep tsb (fun q hq e => by
      obtain ⟨cs, h1⟩ := (unhide HW).heap hq
      rw [e, (unhide H).obj] at h1
      exact absurd (Obj.cells.inj (Option.some.inj h1)).2.1 (by decide)))
  have HMB : Hid (Grew none w w.heap.size) := hide (.inr (Nat.le_refl _))
  clear y0 y2 f0 f2 hmm b1 tsb hsb hob H HW HI
  generalize (w.alloc (.map #[] 0)).setCell ⟨sb, 0, none⟩ (.map (some w.heap.size)) = w1 at *
  obtain ⟨mb, hmb⟩ : ∃ mb, mb = w.heap.size := ⟨_, rfl⟩
  rw [← hmb] at H1
  have HMB' : Hid (Grew none w mb) := hide (.inr (Nat.le_of_eq hmb.symm))
  clear HMB
  have HMB := HMB'
  clear HMB' hmb
  go_wp2_with fail
  go_loopw [18] (fun iv wr => (iv = .int .i64 0 ∧ wr = w1) ∨ (iv = .int .i64 1 ∧ Hid (HdQ B w sb none c A ⟨2, gr, gen, l, 0, off⟩ (.returned (.tuple #[])) wr))) (fun iv _ => 1 - (intOf iv).toNat)
  case atStart => exact .inl ⟨rfl, rfl⟩
  case round =>
    rcases hrel with ⟨rfl, rfl⟩ | ⟨rfl, hh⟩
    · obtain ⟨a', cap, ev, _, _, _, _, hcx⟩ := (unhide W1).parts
      obtain ⟨g', ea, _, hcell, _⟩ := hcx (by omega)
      injection ev with e1 e2 e3
      rw [ea] at e1
      cases e1
      have z0 := hcell 0 (by omega)
      have z1 := hcell 1 (by omega)
      have z2 := hcell 2 (by omega)
      have z3 := hcell 3 (by omega)
      have z4 := hcell 4 (by omega)
      have z5 := hcell 5 (by omega)
      simp only [List.getElem?_cons_zero, List.getElem?_cons_succ] at z0 z1 z2 z3 z4 z5
      clear hcell hcx ea e2 e3
      go_upto_region 5 with fail
      have b2 := (Below.refl wr.heap.size wr).alloc (Nat.le_refl _) (.cells #[.int .i64 2, .int .i64 gr, .int .i64 gen, .slice a l.length k, .int .i64 0, .int .i64 off] 29)
      have HX := hide (heap_new wr (.cells #[.int .i64 2, .int .i64 gr, .int .i64 gen, .slice a l.length k, .int .i64 0, .int .i64 off] 29))
      have H2 := hide ((unhide H1).later b2)
      have I2 := hide ((unhide I1).later b2)
      have T2 := hide ((unhide T1).trans (Touch.of_below b2))
      clear b2 H1 W1 T1 I1 z0 z1 z2 z3 z4 z5
      change Code.wp _ _ _ _ (wr.alloc (.cells #[.int .i64 2, .int .i64 gr, .int .i64 gen, .slice a l.length k, .int .i64 0, .int .i64 off] 29))
      generalize wr.alloc (.cells #[.int .i64 2, .int .i64 gr, .int .i64 gen, .slice a l.length k, .int .i64 0, .int .i64 off] 29) = w2 at *
      generalize wr.heap.size = xb at *
      obtain ⟨T, hT⟩ : ∃ T, T = mgot gK (matx m gr) := ⟨_, rfl⟩
      have HTA := hide ((unhide H2).team gr)
      have LK : Hid (∀ W, Below w2.heap.size w2 W → (Instr.lookup 49 (.map (some mb)) (.int .i64 gr) false).run Try.prog W = .ok (tmV T) W) := hide (fun W hb => by
        have := ((unhide H2).later hb).look (unhide HR)
        rw [hT]
        exact this)
      rw [← hT] at HTA
      clear hT
      obtain ⟨tg, tgb, tn, tc, o0, o1, o2, o3⟩ := T
      unfold tmV tmC at LK
      simp only at LK
      have KH : Hid (∀ W, Below w2.heap.size w2 W → GP B W sb (some mb) m c A) := hide (fun W hb => (unhide H2).later hb)
      have KX : Hid (∀ W, Below w2.heap.size w2 W → W.heap[xb]? = some (.cells #[.int .i64 2, .int .i64 gr, .int .i64 gen, .slice a l.length k, .int .i64 0, .int .i64 off] 29)) := hide (fun W hb => below_keep hb (unhide HX))
      have KT : Hid (∀ W, Below w2.heap.size w2 W → Touch (TP sb none w) w W) := hide (fun W hb => (unhide T2).trans (Touch.of_below hb))
      have KA : Hid (∀ W, Below w2.heap.size w2 W → TmA W ⟨tg, tgb, tn, tc, o0, o1, o2, o3⟩ (A gr)) := hide (fun W hb => (unhide HTA).keep (Touch.of_below (S := fun _ => False) hb) (fun _ h => h.elim))
      have KI : Hid (∀ W, Below w2.heap.size w2 W → IAt W (adr og) l) := hide (fun W hb => (unhide I2).later hb)
      have HG := hide (unhide HTA).gen
      generalize hsa : Option.map (fun g => (⟨g, 0, none⟩ : Addr)) tgb = sa at *
      have HSA := hide hsa
      clear hsa
      have SK : Hid (∀ W, Below w2.heap.size w2 W → W.cell? ⟨sb, 0, none⟩ = some (.map (some mb)) ∧ W.cell? ⟨xb, 1, none⟩ = some (.int .i64 gr) ∧ (Instr.lookup 49 (.map (some mb)) (.int .i64 gr) false).run Try.prog W = .ok (.agg #[.int .i64 tg, .slice sa tn tc, .int .i64 o0, .int .i64 o1, .int .i64 o2, .int .i64 o3]) W) := hide (fun W hb => ⟨cell_of (below_keep hb (unhide H2).obj) 0, cell_of (below_keep hb (unhide HX)) 1, unhide LK W hb⟩)
      clear LK HTA
      refine wp_region_held_drew (S := fun w' => Below w2.heap.size w2 w') (by kernel_rfl) ((Below.refl _ _).drew) (fun hHeld => ?_)
      refine take17 (i := 0) (d := 22) (v := .pointer (some ⟨sb, 0, none⟩)) rfl rfl (by kernel_rfl) (by kernel_rfl) (by kernel_rfl) (fun _ _ _ h => h) (Or.inl ⟨by rfl, by intro w' hSw; (try dsimp only at hSw); go_simp⟩) (by assumption) ?_; (try simp only [List.setIfInBounds_toArray, List.set_cons_zero, List.set_cons_succ])
      refine take17 (i := 1) (d := 23) (v := .pointer (some ⟨sb, 0, none⟩)) rfl rfl (by kernel_rfl) (by kernel_rfl) (by kernel_rfl) (fun _ _ _ h => h) (Or.inl ⟨by rfl, by intro w' hSw; (try dsimp only at hSw); go_simp⟩) (by assumption) ?_; (try simp only [List.setIfInBounds_toArray, List.set_cons_zero, List.set_cons_succ])
      refine take17 (i := 2) (d := 24) (v := .pointer (some ⟨sb, 0, none⟩)) rfl rfl (by kernel_rfl) (by kernel_rfl) (by kernel_rfl) (fun _ _ _ h => h) (Or.inl ⟨by rfl, by intro w' hSw; (try dsimp only at hSw); go_simp⟩) (by assumption) ?_; (try simp only [List.setIfInBounds_toArray, List.set_cons_zero, List.set_cons_succ])
      refine take17 (i := 3) (d := 25) (v := .map (some mb)) rfl rfl (by kernel_rfl) (by kernel_rfl) (by kernel_rfl) (fun _ _ _ h => h) (Or.inl ⟨by rfl, by intro w' hSw; (try dsimp only at hSw); obtain ⟨s0, s1, sl⟩ := unhide SK w' hSw; go_simp⟩) (by assumption) ?_; (try simp only [List.setIfInBounds_toArray, List.set_cons_zero, List.set_cons_succ])
      refine take17 (i := 4) (d := 26) (v := .pointer (some ⟨xb, 1, none⟩)) rfl rfl (by kernel_rfl) (by kernel_rfl) (by kernel_rfl) (fun _ _ _ h => h) (Or.inl ⟨by rfl, by intro w' hSw; (try dsimp only at hSw); go_simp⟩) (by assumption) ?_; (try simp only [List.setIfInBounds_toArray, List.set_cons_zero, List.set_cons_succ])
      refine take17 (i := 5) (d := 27) (v := .int .i64 gr) rfl rfl (by kernel_rfl) (by kernel_rfl) (by kernel_rfl) (fun _ _ _ h => h) (Or.inl ⟨by rfl, by intro w' hSw; (try dsimp only at hSw); obtain ⟨s0, s1, sl⟩ := unhide SK w' hSw; go_simp⟩) (by assumption) ?_; (try simp only [List.setIfInBounds_toArray, List.set_cons_zero, List.set_cons_succ])
      refine take17 (i := 6) (d := 28) (v := .agg #[.int .i64 tg, .slice sa tn tc, .int .i64 o0, .int .i64 o1, .int .i64 o2, .int .i64 o3]) rfl rfl (by kernel_rfl) (by kernel_rfl) (by kernel_rfl) (fun _ _ _ h => h) (Or.inl ⟨by rfl, by intro w' hSw; (try dsimp only at hSw); obtain ⟨s0, s1, sl⟩ := unhide SK w' hSw; go_simp⟩) (by assumption) ?_; (try simp only [List.setIfInBounds_toArray, List.set_cons_zero, List.set_cons_succ])
      refine wpAnyH_ready (rs := [7]) (by kernel_rfl) (by simp) ?_
      refine AllReadyH.cons rfl (fun K hK => ?_) AllReadyH.nil
      go_simp
      have b3 : Below w2.heap.size w2 (w2.drew.alloc (.cells #[.int .i64 0, .slice none 0 0, .int .i64 0, .int .i64 0, .int .i64 0, .int .i64 0] 61)) := ((Below.refl _ _).drew).alloc (Nat.le_refl _) _
      have HTB := hide (heap_new w2.drew (.cells #[.int .i64 0, .slice none 0 0, .int .i64 0, .int .i64 0, .int .i64 0, .int .i64 0] 61))
      have HB3 := hide b3
      refine hK.out _ _ b3 (fun hHeld => ?_)
      clear hK K b3
      (try simp only [Act.put, List.setIfInBounds_toArray, List.set_cons_zero, List.set_cons_succ])
      change wpAnyH _ _ _ _ _ _ _ _ (w2.drew.alloc (.cells #[.int .i64 0, .slice none 0 0, .int .i64 0, .int .i64 0, .int .i64 0, .int .i64 0] 61))
      have hdz : w2.drew.heap.size = w2.heap.size := rfl
      rw [hdz] at HTB
      clear hdz
      generalize w2.drew.alloc (.cells #[.int .i64 0, .slice none 0 0, .int .i64 0, .int .i64 0, .int .i64 0, .int .i64 0] 61) = w3 at *
      refine wpAnyH_ready (rs := [8]) (by kernel_rfl) (by simp) ?_
      refine AllReadyH.cons rfl (fun K hK => ?_) AllReadyH.nil
      rw [if_pos (by rfl)]
      obtain ⟨q1, q2⟩ := heap_setCells [.int .i64 tg, .slice sa tn tc, .int .i64 o0, .int .i64 o1, .int .i64 o2, .int .i64 o3] 0 w3 _ (unhide HTB)
      have HTB4 : Hid ((w3.setCells w2.heap.size 0 [.int .i64 tg, .slice sa tn tc, .int .i64 o0, .int .i64 o1, .int .i64 o2, .int .i64 o3]).heap[w2.heap.size]? = some (.cells #[.int .i64 tg, .slice sa tn tc, .int .i64 o0, .int .i64 o1, .int .i64 o2, .int .i64 o3] 61)) := hide q1
      have HB4 := hide (below_touch (unhide HB3) q2 (unhide HB3).size (fun k hk => by omega))
      refine wp_store_mid 61 (.tmp 6) (.tmp 28) rfl w2.heap.size 0 #[.int .i64 tg, .slice sa tn tc, .int .i64 o0, .int .i64 o1, .int .i64 o2, .int .i64 o3] rfl rfl (there_of (unhide HTB) (by show 0 + 6 ≤ 6; decide)) (by kernel_rfl) (by simp [Value.oneCell']) ?_
      refine hK.out _ _ (unhide HB4) (fun hHeld => ?_)
      clear hK K q1 q2 HTB HB3
      (try simp only [Act.put, List.setIfInBounds_toArray])
      change wpAnyH _ _ _ _ _ _ _ _ (w3.setCells w2.heap.size 0 [.int .i64 tg, .slice sa tn tc, .int .i64 o0, .int .i64 o1, .int .i64 o2, .int .i64 o3])
      generalize w3.setCells w2.heap.size 0 [.int .i64 tg, .slice sa tn tc, .int .i64 o0, .int .i64 o1, .int .i64 o2, .int .i64 o3] = w4 at *
      refine wpAnyH_done (by kernel_rfl) ?_ _
      have HXT : Hid (xb ≠ w2.heap.size) := hide (by have := lt_of_heap (unhide HX); omega)
      clear hHeld SK H2 HX T2 I2
      generalize hn : w2.heap.size = tb at *
      have HN := hide hn
      clear hn
      have x0 := cell_of (unhide KX _ (unhide HB4)) 0
      have x2 := cell_of (unhide KX _ (unhide HB4)) 2
      have u0 := cell_of (unhide HTB4) 0
      simp at x0 x2 u0
      clear x2 u0
      go_upto_region 7 with fail
      clear x0
      have hd5 : Below w4.heap.size w4 w4.drew := (Below.refl _ _).drew
      have HTB5 := hide (below_keep hd5 (unhide HTB4))
      have HB5 : Hid (Below tb w2 w4.drew) := hide (unhide HB4).drew
      have HX5 := hide (unhide KX _ (unhide HB5))
      clear HTB4 HB4 hd5
      refine wp_region_held_drew (S := fun w' => w'.heap[xb]? = some (.cells #[.int .i64 2, .int .i64 gr, .int .i64 gen, .slice a l.length k, .int .i64 0, .int .i64 off] 29)) (by kernel_rfl) (unhide HX5) (fun hHeld => ?_)
      generalize w4.drew = w5 at *
      refine take17 (i := 0) (d := 33) (v := .pointer (some ⟨xb, 4, none⟩)) rfl rfl (by kernel_rfl) (by kernel_rfl) (by kernel_rfl) (fun _ _ _ h => h) (Or.inl ⟨by rfl, by intro w' hSw; (try dsimp only at hSw); go_simp⟩) (by assumption) ?_; (try simp only [List.setIfInBounds_toArray, List.set_cons_zero, List.set_cons_succ])
      refine take17 (i := 1) (d := 34) (v := .int .i64 0) rfl rfl (by kernel_rfl) (by kernel_rfl) (by kernel_rfl) (fun _ _ _ h => h) (Or.inl ⟨by rfl, by intro w' hSw; (try dsimp only at hSw); have y4 := cell_of hSw 4; simp at y4; go_simp⟩) (by assumption) ?_; (try simp only [List.setIfInBounds_toArray, List.set_cons_zero, List.set_cons_succ])
      refine take17 (i := 2) (d := 35) (v := .pointer (some ⟨xb, 4, none⟩)) rfl rfl (by kernel_rfl) (by kernel_rfl) (by kernel_rfl) (fun _ _ _ h => h) (Or.inl ⟨by rfl, by intro w' hSw; (try dsimp only at hSw); go_simp⟩) (by assumption) ?_; (try simp only [List.setIfInBounds_toArray, List.set_cons_zero, List.set_cons_succ])
      refine take17 (i := 3) (d := 36) (v := .int .i64 0) rfl rfl (by kernel_rfl) (by kernel_rfl) (by kernel_rfl) (fun _ _ _ h => h) (Or.inl ⟨by rfl, by intro w' hSw; (try dsimp only at hSw); have y4 := cell_of hSw 4; simp at y4; go_simp⟩) (by assumption) ?_; (try simp only [List.setIfInBounds_toArray, List.set_cons_zero, List.set_cons_succ])
      refine take17 (i := 4) (d := 37) (v := .pointer (some ⟨tb, 2, none⟩)) rfl rfl (by kernel_rfl) (by kernel_rfl) (by kernel_rfl) (fun _ _ _ h => h) (Or.inl ⟨by rfl, by intro w' hSw; (try dsimp only at hSw); go_simp⟩) (by assumption) ?_; (try simp only [List.setIfInBounds_toArray, List.set_cons_zero, List.set_cons_succ])
      refine take17 (i := 5) (d := 38) (v := .pointer (some ⟨tb, 2, none⟩)) rfl rfl (by kernel_rfl) (by kernel_rfl) (by kernel_rfl) (fun _ _ _ h => h) (Or.inl ⟨by rfl, by intro w' hSw; (try dsimp only at hSw); go_simp⟩) (by assumption) ?_; (try simp only [List.setIfInBounds_toArray, List.set_cons_zero, List.set_cons_succ])
      refine take17 (i := 7) (d := 40) (v := .pointer (some ⟨xb, 5, none⟩)) rfl rfl (by kernel_rfl) (by kernel_rfl) (by kernel_rfl) (fun _ _ _ h => h) (Or.inl ⟨by rfl, by intro w' hSw; (try dsimp only at hSw); go_simp⟩) (by assumption) ?_; (try simp only [List.setIfInBounds_toArray, List.set_cons_zero, List.set_cons_succ])
      refine take17 (i := 8) (d := 41) (v := .int .i64 off) rfl rfl (by kernel_rfl) (by kernel_rfl) (by kernel_rfl) (fun _ _ _ h => h) (Or.inl ⟨by rfl, by intro w' hSw; (try dsimp only at hSw); have y5 := cell_of hSw 5; simp at y5; go_simp⟩) (by assumption) ?_; (try simp only [List.setIfInBounds_toArray, List.set_cons_zero, List.set_cons_succ])
      refine take17 (i := 10) (d := 43) (v := .pointer (some ⟨tb, 2, none⟩)) rfl rfl (by kernel_rfl) (by kernel_rfl) (by kernel_rfl) (fun _ _ _ h => h) (Or.inl ⟨by rfl, by intro w' hSw; (try dsimp only at hSw); go_simp⟩) (by assumption) ?_; (try simp only [List.setIfInBounds_toArray, List.set_cons_zero, List.set_cons_succ])
      have zt : w5.cell? ⟨tb, 2, none⟩ = some (.int .i64 o0) := cell_of (unhide HTB5) 2
      refine wpAnyH_ready (rs := [6]) (by kernel_rfl) (by simp) ?_
      refine AllReadyH.cons rfl (fun K hK => ?_) AllReadyH.nil
      go_simp
      refine hK.out _ _ (by assumption) (fun hHeld => ?_)
      clear hK K
      (try simp only [Act.put, List.setIfInBounds_toArray, List.set_cons_zero, List.set_cons_succ])
      refine take17 (i := 9) (d := 42) (v := .int .i64 (max o0 off)) rfl rfl (by kernel_rfl) (by kernel_rfl) (by kernel_rfl) (fun _ _ _ h => h) (Or.inl ⟨by rfl, by intro w' hSw; (try dsimp only at hSw); go_simp⟩) (by assumption) ?_; (try simp only [List.setIfInBounds_toArray, List.set_cons_zero, List.set_cons_succ])
      refine take17 (i := 11) (d := 44) (v := .pointer (some ⟨tb, 2, none⟩)) rfl rfl (by kernel_rfl) (by kernel_rfl) (by kernel_rfl) (fun _ _ _ h => h) (Or.inl ⟨by rfl, by intro w' hSw; (try dsimp only at hSw); go_simp⟩) (by assumption) ?_; (try simp only [List.setIfInBounds_toArray, List.set_cons_zero, List.set_cons_succ])
      have ft : w5.frozen? ⟨tb, 2, none⟩ = false := frozen_of (unhide HTB5) 2
      have tt := touch_set w5 tb 2 (.int .i64 (max o0 off))
      have HTB6 := hide (heap_set (unhide HTB5) 2 (.int .i64 (max o0 off)))
      have HX6 := hide (tt.keep (unhide HX5) (unhide HXT))
      have HB6 := hide (below_touch (unhide HB5) tt (by have h1 := (unhide HB5).size; have h2 := unhide HN; omega) (fun k hk => by omega))
      clear tt HTB5 HX5 HB5
      refine wpAnyH_ready (rs := [12]) (by kernel_rfl) (by simp) ?_
      refine AllReadyH.cons rfl (fun K hK => ?_) AllReadyH.nil
      go_simp
      refine hK.out _ _ (unhide HX6) (fun hHeld => ?_)
      clear hK K zt ft HX6
      (try simp only [Act.put, List.setIfInBounds_toArray])
      generalize w5.setCell ⟨tb, 2, none⟩ (.int .i64 (max o0 off)) = w6 at *
      refine wpAnyH_done (by kernel_rfl) ?_ _
      clear hHeld
      go_upto_region 10 with fail
      have HB7 : Hid (Below tb w2 w6.drew) := hide (unhide HB6).drew
      have HTB7 := hide (below_keep ((Below.refl w6.heap.size w6).drew) (unhide HTB6))
      have H7 := hide (unhide KH _ (unhide HB7))
      have HX7 := hide (unhide KX _ (unhide HB7))
      clear HB6 HTB6
      obtain ⟨w8, hst, hm8, ht8⟩ := (unhide H7).map1.1.store (M := gK) (s := gr) (Nat.lt_of_le_of_lt (unhide H7).few (unhide HC)) (key_wf (unhide HR)) ⟨tg, tgb, tn, tc, (max o0 off), o1, o2, o3⟩
      have hst' : (Instr.mapUpdate 49 (.map (some mb)) (.int .i64 gr) (.agg #[.int .i64 tg, .slice sa tn tc, .int .i64 (max o0 off), .int .i64 o1, .int .i64 o2, .int .i64 o3])).run Try.prog w6.drew = .ok () w8 := by
        rw [← unhide HSA]
        exact hst
      have nsb : sb ≠ mb := fun e => by
        obtain ⟨es, ck, h1⟩ := (unhide H7).map1.1.block
        rw [← e, (unhide H7).obj] at h1
        cases h1
      have nxb : xb ≠ mb := fun e => by
        obtain ⟨es, ck, h1⟩ := (unhide H7).map1.1.block
        rw [← e, unhide HX7] at h1
        cases h1
      have ntb : tb ≠ mb := fun e => by
        obtain ⟨es, ck, h1⟩ := (unhide H7).map1.1.block
        rw [← e, unhide HTB7] at h1
        cases h1
      have TA7 : TmA w6.drew ⟨tg, tgb, tn, tc, (max o0 off), o1, o2, o3⟩ (gaPut ⟨2, gr, gen, l, 0, off⟩ (A gr)) := by
        have q := unhide KA _ (unhide HB7)
        have qi := unhide KI _ (unhide HB7)
        have e0 := q.o0
        have e1 := q.o1
        have e2 := q.o2
        have e3 := q.o3
        simp only at e0 e1 e2 e3
        unfold gaPut
        simp only [if_true]
        refine ⟨q.gen, q.n, q.l, ?_, ?_, ?_, ?_, q.few⟩ <;> simp [e0, e1, e2, e3]
      have F8 : Hid (HdQ B w sb none c A ⟨2, gr, gen, l, 0, off⟩ (.returned (.tuple #[])) w8) := hide (hd_end (unhide H7) (unhide HMB) (unhide KT _ (unhide HB7)) hm8 ht8 nsb TA7)
      have S8 : Hid (w8.cell? ⟨sb, 0, none⟩ = some (.map (some mb)) ∧ w8.heap[xb]? = some (.cells #[.int .i64 2, .int .i64 gr, .int .i64 gen, .slice a l.length k, .int .i64 0, .int .i64 off] 29) ∧ w8.heap[tb]? = some (.cells #[.int .i64 tg, .slice sa tn tc, .int .i64 (max o0 off), .int .i64 o1, .int .i64 o2, .int .i64 o3] 61)) := hide ⟨cell_of (ht8.keep (unhide H7).obj nsb) 0, ht8.keep (unhide HX7) nxb, ht8.keep (unhide HTB7) ntb⟩
      have S7 : Hid (w6.drew.cell? ⟨sb, 0, none⟩ = some (.map (some mb)) ∧ w6.drew.heap[xb]? = some (.cells #[.int .i64 2, .int .i64 gr, .int .i64 gen, .slice a l.length k, .int .i64 0, .int .i64 off] 29) ∧ w6.drew.heap[tb]? = some (.cells #[.int .i64 tg, .slice sa tn tc, .int .i64 (max o0 off), .int .i64 o1, .int .i64 o2, .int .i64 o3] 61)) := hide ⟨cell_of (unhide H7).obj 0, unhide HX7, unhide HTB7⟩
      clear hst hm8 ht8 nsb nxb ntb H7 HX7 HTB7 HB7 TA7 KH KX KT KA KI HMB
      refine wp_region_held_drew (S := fun w' => w'.cell? ⟨sb, 0, none⟩ = some (.map (some mb)) ∧ w'.heap[xb]? = some (.cells #[.int .i64 2, .int .i64 gr, .int .i64 gen, .slice a l.length k, .int .i64 0, .int .i64 off] 29) ∧ w'.heap[tb]? = some (.cells #[.int .i64 tg, .slice sa tn tc, .int .i64 (max o0 off), .int .i64 o1, .int .i64 o2, .int .i64 o3] 61)) (by kernel_rfl) (unhide S7) (fun hHeld => ?_)
      clear S7
      generalize w6.drew = w7 at *
      refine take17 (i := 0) (d := 57) (v := .pointer (some ⟨sb, 0, none⟩)) rfl rfl (by kernel_rfl) (by kernel_rfl) (by kernel_rfl) (fun _ _ _ h => h) (Or.inl ⟨by rfl, by intro w' hSw; (try dsimp only at hSw); go_simp⟩) (by assumption) ?_; (try simp only [List.setIfInBounds_toArray, List.set_cons_zero, List.set_cons_succ])
      refine take17 (i := 1) (d := 58) (v := .pointer (some ⟨sb, 0, none⟩)) rfl rfl (by kernel_rfl) (by kernel_rfl) (by kernel_rfl) (fun _ _ _ h => h) (Or.inl ⟨by rfl, by intro w' hSw; (try dsimp only at hSw); go_simp⟩) (by assumption) ?_; (try simp only [List.setIfInBounds_toArray, List.set_cons_zero, List.set_cons_succ])
      refine take17 (i := 2) (d := 59) (v := .pointer (some ⟨sb, 0, none⟩)) rfl rfl (by kernel_rfl) (by kernel_rfl) (by kernel_rfl) (fun _ _ _ h => h) (Or.inl ⟨by rfl, by intro w' hSw; (try dsimp only at hSw); go_simp⟩) (by assumption) ?_; (try simp only [List.setIfInBounds_toArray, List.set_cons_zero, List.set_cons_succ])
      refine take17 (i := 3) (d := 60) (v := .map (some mb)) rfl rfl (by kernel_rfl) (by kernel_rfl) (by kernel_rfl) (fun _ _ _ h => h) (Or.inl ⟨by rfl, by intro w' hSw; (try dsimp only at hSw); obtain ⟨s0, s1, s2⟩ := hSw; go_simp⟩) (by assumption) ?_; (try simp only [List.setIfInBounds_toArray, List.set_cons_zero, List.set_cons_succ])
      refine take17 (i := 4) (d := 61) (v := .pointer (some ⟨xb, 1, none⟩)) rfl rfl (by kernel_rfl) (by kernel_rfl) (by kernel_rfl) (fun _ _ _ h => h) (Or.inl ⟨by rfl, by intro w' hSw; (try dsimp only at hSw); go_simp⟩) (by assumption) ?_; (try simp only [List.setIfInBounds_toArray, List.set_cons_zero, List.set_cons_succ])
      refine take17 (i := 5) (d := 62) (v := .int .i64 gr) rfl rfl (by kernel_rfl) (by kernel_rfl) (by kernel_rfl) (fun _ _ _ h => h) (Or.inl ⟨by rfl, by intro w' hSw; (try dsimp only at hSw); obtain ⟨s0, s1, s2⟩ := hSw; have y1 := cell_of s1 1; simp at y1; go_simp⟩) (by assumption) ?_; (try simp only [List.setIfInBounds_toArray, List.set_cons_zero, List.set_cons_succ])
      refine take17 (i := 6) (d := 63) (v := .agg #[.int .i64 tg, .slice sa tn tc, .int .i64 (max o0 off), .int .i64 o1, .int .i64 o2, .int .i64 o3]) rfl rfl (by kernel_rfl) (by kernel_rfl) (by kernel_rfl) (fun _ _ _ h => h) (Or.inl ⟨by rfl, by intro w' hSw; (try dsimp only at hSw); obtain ⟨s0, s1, s2⟩ := hSw; have q0 := cell_of s2 0; have q1 := cell_of s2 1; have q2 := cell_of s2 2; have q3 := cell_of s2 3; have q4 := cell_of s2 4; have q5 := cell_of s2 5; simp at q0 q1 q2 q3 q4 q5; go_simp⟩) (by assumption) ?_; (try simp only [List.setIfInBounds_toArray, List.set_cons_zero, List.set_cons_succ])
      refine wpAnyH_ready (rs := [7]) (by kernel_rfl) (by simp) ?_
      refine AllReadyH.cons rfl (fun K hK => ?_) AllReadyH.nil
      go_simp
      refine hK.out _ _ (unhide S8) (fun hHeld => ?_)
      clear hK K
      (try simp only [Act.put, List.setIfInBounds_toArray])
      refine wpAnyH_done (by kernel_rfl) ?_ _
      clear hHeld hst'
      go_wp2
      go_roundw
      case rel => exact .inr ⟨by go_num, F8⟩
      case measure => simp [intOf]
    · go_wp2
      go_returns
      exact unhide hh
set_option maxRecDepth 100000 in
set_option maxHeartbeats 8000000 in
theorem gold_none_off1 {B : Nat} {w : World} {sb c : Nat} {m : List (Int × Tm)} {A : Int → Ga} {gr gen off : Int} {l : List Int} {v : Value} (h : GP B w sb none m c A) (hv : OneS B w v ⟨2, gr, gen, l, 1, off⟩) (hr : 0 ≤ gr ∧ gr < 8) (hl : l.length ≤ 8) (hc : c < maxLen) (hB : B ≤ w.heap.size) :
    Calls Try.prog 18 #[.pointer (some ⟨sb, 0, none⟩), v] w fun e w' => HdQ B w sb none c A ⟨2, gr, gen, l, 1, off⟩ e w' := by
  obtain ⟨g, cv, og, a, k, ha, rfl, hw, hi, hg⟩ := hv
  have HA := hide ha
  have hi' : IAt w (adr og) l := by have q := hi; rw [ha] at q; exact q
  clear ha
  have y0 : w.cell? ⟨sb, 0, none⟩ = some (.map none) := cell_of h.obj 0
  have f0 : w.frozen? ⟨sb, 0, none⟩ = false := frozen_of h.obj 0
  have y2 : (w.alloc (.map #[] 0)).cell? ⟨sb, 0, none⟩ = some (.map none) := cell_of (heap_old _ h.obj) 0
  have f2 : (w.alloc (.map #[] 0)).frozen? ⟨sb, 0, none⟩ = false := frozen_of (heap_old _ h.obj) 0
  have hmm := @run_makeMap Try.prog
  have H := hide h
  have HW := hide hw
  have HI := hide hi'
  have HB := hide hB
  have HR := hide hr
  have HL := hide hl
  have HC := hide hc

  have hq : ∀ (W : World) (b : Nat), (binOp .eql 49 (.map (some b)) (.map none)).run Try.prog W = .ok (.bool false) W := fun _ _ => by kernel_rfl
  have hq0 : ∀ (W : World), (binOp .eql 49 (.map none) (.map none)).run Try.prog W = .ok (.bool true) W := fun _ => by kernel_rfl
  clear h hw hg hB hi hi' hr hl hc
  go_enter Try.func18, Try.ntmps18
  go_upto_region 2 with fail
  have b1 := (Below.refl w.heap.size w).alloc (Nat.le_refl _) (.map #[] 0)
  have tsb := touch_set (w.alloc (.map #[] 0)) sb 0 (.map (some w.heap.size))
  have hsb := lt_of_heap (unhide H).obj
  have hob := heap_set (heap_old (.map #[] 0) (unhide H).obj) 0 (.map (some w.heap.size))
  have T1 : Hid (Touch (TP sb none w) w ((w.alloc (.map #[] 0)).setCell ⟨sb, 0, none⟩ (.map (some w.heap.size)))) := hide ((Touch.of_below b1).trans (tsb.mono (fun k hk => .inl hk)))
  have H1 : Hid (GP B ((w.alloc (.map #[] 0)).setCell ⟨sb, 0, none⟩ (.map (some w.heap.size))) sb (some w.heap.size) m c A) := hide ⟨hob, .inr ⟨w.heap.size, rfl, by rw [(unhide H).none]; exact (MM.made gK w).keep tsb (fun h => by omega), unhide HB⟩, fun q => ((unhide H).team q).keep (unhide T1) (unhide H).odd, (unhide H).few, (unhide H).hb⟩
  have I1 : Hid (IAt ((w.alloc (.map #[] 0)).setCell ⟨sb, 0, none⟩ (.map (some w.heap.size))) (adr og) l) := hide ((unhide HI).odd (unhide T1) (unhide H).odd)
  have W1 : Hid (Wide ((w.alloc (.map #[] 0)).setCell ⟨sb, 0, none⟩ (.map (some w.heap.size))) 29 6 (.slice (some ⟨g, 0, none⟩) 1 cv) 1 [.int .i64 2, .int .i64 gr, .int .i64 gen, .slice a l.length k, .int .i64 1, .int .i64 off]) := hide (((unhide HW).later b1).keep tsb (fun q hq e => by
      obtain ⟨cs, h1⟩ := (unhide HW).heap hq
      rw [e, (unhide H).obj] at h1
      exact absurd (Obj.cells.inj (Option.some.inj h1)).2.1 (by decide)))
  have HMB : Hid (Grew none w w.heap.size) := hide (.inr (Nat.le_refl _))
  clear y0 y2 f0 f2 hmm b1 tsb hsb hob H HW HI
  generalize (w.alloc (.map #[] 0)).setCell ⟨sb, 0, none⟩ (.map (some w.heap.size)) = w1 at *
  obtain ⟨mb, hmb⟩ : ∃ mb, mb = w.heap.size := ⟨_, rfl⟩
  rw [← hmb] at H1
  have HMB' : Hid (Grew none w mb) := hide (.inr (Nat.le_of_eq hmb.symm))
  clear HMB
  have HMB := HMB'
  clear HMB' hmb
  go_wp2_with fail
  go_loopw [18] (fun iv wr => (iv = .int .i64 0 ∧ wr = w1) ∨ (iv = .int .i64 1 ∧ Hid (HdQ B w sb none c A ⟨2, gr, gen, l, 1, off⟩ (.returned (.tuple #[])) wr))) (fun iv _ => 1 - (intOf iv).toNat)
  case atStart => exact .inl ⟨rfl, rfl⟩
  case round =>
    rcases hrel with ⟨rfl, rfl⟩ | ⟨rfl, hh⟩
    · obtain ⟨a', cap, ev, _, _, _, _, hcx⟩ := (unhide W1).parts
      obtain ⟨g', ea, _, hcell, _⟩ := hcx (by omega)
      injection ev with e1 e2 e3
      rw [ea] at e1
      cases e1
      have z0 := hcell 0 (by omega)
      have z1 := hcell 1 (by omega)
      have z2 := hcell 2 (by omega)
      have z3 := hcell 3 (by omega)
      have z4 := hcell 4 (by omega)
      have z5 := hcell 5 (by omega)
      simp only [List.getElem?_cons_zero, List.getElem?_cons_succ] at z0 z1 z2 z3 z4 z5
      clear hcell hcx ea e2 e3
      go_upto_region 5 with fail
      have b2 := (Below.refl wr.heap.size wr).alloc (Nat.le_refl _) (.cells #[.int .i64 2, .int .i64 gr, .int .i64 gen, .slice a l.length k, .int .i64 1, .int .i64 off] 29)
      have HX := hide (heap_new wr (.cells #[.int .i64 2, .int .i64 gr, .int .i64 gen, .slice a l.length k, .int .i64 1, .int .i64 off] 29))
      have H2 := hide ((unhide H1).later b2)
      have I2 := hide ((unhide I1).later b2)
      have T2 := hide ((unhide T1).trans (Touch.of_below b2))
      clear b2 H1 W1 T1 I1 z0 z1 z2 z3 z4 z5
      change Code.wp _ _ _ _ (wr.alloc (.cells #[.int .i64 2, .int .i64 gr, .int .i64 gen, .slice a l.length k, .int .i64 1, .int .i64 off] 29))
      generalize wr.alloc (.cells #[.int .i64 2, .int .i64 gr, .int .i64 gen, .slice a l.length k, .int .i64 1, .int .i64 off] 29) = w2 at *
      generalize wr.heap.size = xb at *
      obtain ⟨T, hT⟩ : ∃ T, T = mgot gK (matx m gr) := ⟨_, rfl⟩
      have HTA := hide ((unhide H2).team gr)
      have LK : Hid (∀ W, Below w2.heap.size w2 W → (Instr.lookup 49 (.map (some mb)) (.int .i64 gr) false).run Try.prog W = .ok (tmV T) W) := hide (fun W hb => by
        have := ((unhide H2).later hb).look (unhide HR)
        rw [hT]
        exact this)
      rw [← hT] at HTA
      clear hT
      obtain ⟨tg, tgb, tn, tc, o0, o1, o2, o3⟩ := T
      unfold tmV tmC at LK
      simp only at LK
      have KH : Hid (∀ W, Below w2.heap.size w2 W → GP B W sb (some mb) m c A) := hide (fun W hb => (unhide H2).later hb)
      have KX : Hid (∀ W, Below w2.heap.size w2 W → W.heap[xb]? = some (.cells #[.int .i64 2, .int .i64 gr, .int .i64 gen, .slice a l.length k, .int .i64 1, .int .i64 off] 29)) := hide (fun W hb => below_keep hb (unhide HX))
      have KT : Hid (∀ W, Below w2.heap.size w2 W → Touch (TP sb none w) w W) := hide (fun W hb => (unhide T2).trans (Touch.of_below hb))
      have KA : Hid (∀ W, Below w2.heap.size w2 W → TmA W ⟨tg, tgb, tn, tc, o0, o1, o2, o3⟩ (A gr)) := hide (fun W hb => (unhide HTA).keep (Touch.of_below (S := fun _ => False) hb) (fun _ h => h.elim))
      have KI : Hid (∀ W, Below w2.heap.size w2 W → IAt W (adr og) l) := hide (fun W hb => (unhide I2).later hb)
      have HG := hide (unhide HTA).gen
      generalize hsa : Option.map (fun g => (⟨g, 0, none⟩ : Addr)) tgb = sa at *
      have HSA := hide hsa
      clear hsa
      have SK : Hid (∀ W, Below w2.heap.size w2 W → W.cell? ⟨sb, 0, none⟩ = some (.map (some mb)) ∧ W.cell? ⟨xb, 1, none⟩ = some (.int .i64 gr) ∧ (Instr.lookup 49 (.map (some mb)) (.int .i64 gr) false).run Try.prog W = .ok (.agg #[.int .i64 tg, .slice sa tn tc, .int .i64 o0, .int .i64 o1, .int .i64 o2, .int .i64 o3]) W) := hide (fun W hb => ⟨cell_of (below_keep hb (unhide H2).obj) 0, cell_of (below_keep hb (unhide HX)) 1, unhide LK W hb⟩)
      clear LK HTA
      refine wp_region_held_drew (S := fun w' => Below w2.heap.size w2 w') (by kernel_rfl) ((Below.refl _ _).drew) (fun hHeld => ?_)
      refine take17 (i := 0) (d := 22) (v := .pointer (some ⟨sb, 0, none⟩)) rfl rfl (by kernel_rfl) (by kernel_rfl) (by kernel_rfl) (fun _ _ _ h => h) (Or.inl ⟨by rfl, by intro w' hSw; (try dsimp only at hSw); go_simp⟩) (by assumption) ?_; (try simp only [List.setIfInBounds_toArray, List.set_cons_zero, List.set_cons_succ])
      refine take17 (i := 1) (d := 23) (v := .pointer (some ⟨sb, 0, none⟩)) rfl rfl (by kernel_rfl) (by kernel_rfl) (by kernel_rfl) (fun _ _ _ h => h) (Or.inl ⟨by rfl, by intro w' hSw; (try dsimp only at hSw); go_simp⟩) (by assumption) ?_; (try simp only [List.setIfInBounds_toArray, List.set_cons_zero, List.set_cons_succ])
      refine take17 (i := 2) (d := 24) (v := .pointer (some ⟨sb, 0, none⟩)) rfl rfl (by kernel_rfl) (by kernel_rfl) (by kernel_rfl) (fun _ _ _ h => h) (Or.inl ⟨by rfl, by intro w' hSw; (try dsimp only at hSw); go_simp⟩) (by assumption) ?_; (try simp only [List.setIfInBounds_toArray, List.set_cons_zero, List.set_cons_succ])
      refine take17 (i := 3) (d := 25) (v := .map (some mb)) rfl rfl (by kernel_rfl) (by kernel_rfl) (by kernel_rfl) (fun _ _ _ h => h) (Or.inl ⟨by rfl, by intro w' hSw; (try dsimp only at hSw); obtain ⟨s0, s1, sl⟩ := unhide SK w' hSw; go_simp⟩) (by assumption) ?_; (try simp only [List.setIfInBounds_toArray, List.set_cons_zero, List.set_cons_succ])
      refine take17 (i := 4) (d := 26) (v := .pointer (some ⟨xb, 1, none⟩)) rfl rfl (by kernel_rfl) (by kernel_rfl) (by kernel_rfl) (fun _ _ _ h => h) (Or.inl ⟨by rfl, by intro w' hSw; (try dsimp only at hSw); go_simp⟩) (by assumption) ?_; (try simp only [List.setIfInBounds_toArray, List.set_cons_zero, List.set_cons_succ])
      refine take17 (i := 5) (d := 27) (v := .int .i64 gr) rfl rfl (by kernel_rfl) (by kernel_rfl) (by kernel_rfl) (fun _ _ _ h => h) (Or.inl ⟨by rfl, by intro w' hSw; (try dsimp only at hSw); obtain ⟨s0, s1, sl⟩ := unhide SK w' hSw; go_simp⟩) (by assumption) ?_; (try simp only [List.setIfInBounds_toArray, List.set_cons_zero, List.set_cons_succ])
      refine take17 (i := 6) (d := 28) (v := .agg #[.int .i64 tg, .slice sa tn tc, .int .i64 o0, .int .i64 o1, .int .i64 o2, .int .i64 o3]) rfl rfl (by kernel_rfl) (by kernel_rfl) (by kernel_rfl) (fun _ _ _ h => h) (Or.inl ⟨by rfl, by intro w' hSw; (try dsimp only at hSw); obtain ⟨s0, s1, sl⟩ := unhide SK w' hSw; go_simp⟩) (by assumption) ?_; (try simp only [List.setIfInBounds_toArray, List.set_cons_zero, List.set_cons_succ])
      refine wpAnyH_ready (rs := [7]) (by kernel_rfl) (by simp) ?_
      refine AllReadyH.cons rfl (fun K hK => ?_) AllReadyH.nil
      go_simp
      have b3 : Below w2.heap.size w2 (w2.drew.alloc (.cells #[.int .i64 0, .slice none 0 0, .int .i64 0, .int .i64 0, .int .i64 0, .int .i64 0] 61)) := ((Below.refl _ _).drew).alloc (Nat.le_refl _) _
      have HTB := hide (heap_new w2.drew (.cells #[.int .i64 0, .slice none 0 0, .int .i64 0, .int .i64 0, .int .i64 0, .int .i64 0] 61))
      have HB3 := hide b3
      refine hK.out _ _ b3 (fun hHeld => ?_)
      clear hK K b3
      (try simp only [Act.put, List.setIfInBounds_toArray, List.set_cons_zero, List.set_cons_succ])
      change wpAnyH _ _ _ _ _ _ _ _ (w2.drew.alloc (.cells #[.int .i64 0, .slice none 0 0, .int .i64 0, .int .i64 0, .int .i64 0, .int .i64 0] 61))
      have hdz : w2.drew.heap.size = w2.heap.size := rfl
      rw [hdz] at HTB
      clear hdz
      generalize w2.drew.alloc (.cells #[.int .i64 0, .slice none 0 0, .int .i64 0, .int .i64 0, .int .i64 0, .int .i64 0] 61) = w3 at *
      refine wpAnyH_ready (rs := [8]) (by kernel_rfl) (by simp) ?_
      refine AllReadyH.cons rfl (fun K hK => ?_) AllReadyH.nil
      rw [if_pos (by rfl)]
      obtain ⟨q1, q2⟩ := heap_setCells [.int .i64 tg, .slice sa tn tc, .int .i64 o0, .int .i64 o1, .int .i64 o2, .int .i64 o3] 0 w3 _ (unhide HTB)
      have HTB4 : Hid ((w3.setCells w2.heap.size 0 [.int .i64 tg, .slice sa tn tc, .int .i64 o0, .int .i64 o1, .int .i64 o2, .int .i64 o3]).heap[w2.heap.size]? = some (.cells #[.int .i64 tg, .slice sa tn tc, .int .i64 o0, .int .i64 o1, .int .i64 o2, .int .i64 o3] 61)) := hide q1
      have HB4 := hide (below_touch (unhide HB3) q2 (unhide HB3).size (fun k hk => by omega))
      refine wp_store_mid 61 (.tmp 6) (.tmp 28) rfl w2.heap.size 0 #[.int .i64 tg, .slice sa tn tc, .int .i64 o0, .int .i64 o1, .int .i64 o2, .int .i64 o3] rfl rfl (there_of (unhide HTB) (by show 0 + 6 ≤ 6; decide)) (by kernel_rfl) (by simp [Value.oneCell']) ?_
      refine hK.out _ _ (unhide HB4) (fun hHeld => ?_)
      clear hK K q1 q2 HTB HB3
      (try simp only [Act.put, List.setIfInBounds_toArray])
      change wpAnyH _ _ _ _ _ _ _ _ (w3.setCells w2.heap.size 0 [.int .i64 tg, .slice sa tn tc, .int .i64 o0, .int .i64 o1, .int .i64 o2, .int .i64 o3])
      generalize w3.setCells w2.heap.size 0 [.int .i64 tg, .slice sa tn tc, .int .i64 o0, .int .i64 o1, .int .i64 o2, .int .i64 o3] = w4 at *
      refine wpAnyH_done (by kernel_rfl) ?_ _
      have HXT : Hid (xb ≠ w2.heap.size) := hide (by have := lt_of_heap (unhide HX); omega)
      clear hHeld SK H2 HX T2 I2
      generalize hn : w2.heap.size = tb at *
      have HN := hide hn
      clear hn
      have x0 := cell_of (unhide KX _ (unhide HB4)) 0
      have x2 := cell_of (unhide KX _ (unhide HB4)) 2
      have u0 := cell_of (unhide HTB4) 0
      simp at x0 x2 u0
      clear x2 u0
      go_upto_region 7 with fail
      clear x0
      have hd5 : Below w4.heap.size w4 w4.drew := (Below.refl _ _).drew
      have HTB5 := hide (below_keep hd5 (unhide HTB4))
      have HB5 : Hid (Below tb w2 w4.drew) := hide (unhide HB4).drew
      have HX5 := hide (unhide KX _ (unhide HB5))
      clear HTB4 HB4 hd5
      refine wp_region_held_drew (S := fun w' => w'.heap[xb]? = some (.cells #[.int .i64 2, .int .i64 gr, .int .i64 gen, .slice a l.length k, .int .i64 1, .int .i64 off] 29)) (by kernel_rfl) (unhide HX5) (fun hHeld => ?_)
      generalize w4.drew = w5 at *
      refine take17 (i := 0) (d := 33) (v := .pointer (some ⟨xb, 4, none⟩)) rfl rfl (by kernel_rfl) (by kernel_rfl) (by kernel_rfl) (fun _ _ _ h => h) (Or.inl ⟨by rfl, by intro w' hSw; (try dsimp only at hSw); go_simp⟩) (by assumption) ?_; (try simp only [List.setIfInBounds_toArray, List.set_cons_zero, List.set_cons_succ])
      refine take17 (i := 1) (d := 34) (v := .int .i64 1) rfl rfl (by kernel_rfl) (by kernel_rfl) (by kernel_rfl) (fun _ _ _ h => h) (Or.inl ⟨by rfl, by intro w' hSw; (try dsimp only at hSw); have y4 := cell_of hSw 4; simp at y4; go_simp⟩) (by assumption) ?_; (try simp only [List.setIfInBounds_toArray, List.set_cons_zero, List.set_cons_succ])
      refine take17 (i := 2) (d := 35) (v := .pointer (some ⟨xb, 4, none⟩)) rfl rfl (by kernel_rfl) (by kernel_rfl) (by kernel_rfl) (fun _ _ _ h => h) (Or.inl ⟨by rfl, by intro w' hSw; (try dsimp only at hSw); go_simp⟩) (by assumption) ?_; (try simp only [List.setIfInBounds_toArray, List.set_cons_zero, List.set_cons_succ])
      refine take17 (i := 3) (d := 36) (v := .int .i64 1) rfl rfl (by kernel_rfl) (by kernel_rfl) (by kernel_rfl) (fun _ _ _ h => h) (Or.inl ⟨by rfl, by intro w' hSw; (try dsimp only at hSw); have y4 := cell_of hSw 4; simp at y4; go_simp⟩) (by assumption) ?_; (try simp only [List.setIfInBounds_toArray, List.set_cons_zero, List.set_cons_succ])
      refine take17 (i := 4) (d := 37) (v := .pointer (some ⟨tb, 2, none⟩)) rfl rfl (by kernel_rfl) (by kernel_rfl) (by kernel_rfl) (fun _ _ _ h => h) (Or.inl ⟨by rfl, by intro w' hSw; (try dsimp only at hSw); go_simp⟩) (by assumption) ?_; (try simp only [List.setIfInBounds_toArray, List.set_cons_zero, List.set_cons_succ])
      refine take17 (i := 5) (d := 38) (v := .pointer (some ⟨tb, 3, none⟩)) rfl rfl (by kernel_rfl) (by kernel_rfl) (by kernel_rfl) (fun _ _ _ h => h) (Or.inl ⟨by rfl, by intro w' hSw; (try dsimp only at hSw); go_simp⟩) (by assumption) ?_; (try simp only [List.setIfInBounds_toArray, List.set_cons_zero, List.set_cons_succ])
      refine take17 (i := 7) (d := 40) (v := .pointer (some ⟨xb, 5, none⟩)) rfl rfl (by kernel_rfl) (by kernel_rfl) (by kernel_rfl) (fun _ _ _ h => h) (Or.inl ⟨by rfl, by intro w' hSw; (try dsimp only at hSw); go_simp⟩) (by assumption) ?_; (try simp only [List.setIfInBounds_toArray, List.set_cons_zero, List.set_cons_succ])
      refine take17 (i := 8) (d := 41) (v := .int .i64 off) rfl rfl (by kernel_rfl) (by kernel_rfl) (by kernel_rfl) (fun _ _ _ h => h) (Or.inl ⟨by rfl, by intro w' hSw; (try dsimp only at hSw); have y5 := cell_of hSw 5; simp at y5; go_simp⟩) (by assumption) ?_; (try simp only [List.setIfInBounds_toArray, List.set_cons_zero, List.set_cons_succ])
      refine take17 (i := 10) (d := 43) (v := .pointer (some ⟨tb, 2, none⟩)) rfl rfl (by kernel_rfl) (by kernel_rfl) (by kernel_rfl) (fun _ _ _ h => h) (Or.inl ⟨by rfl, by intro w' hSw; (try dsimp only at hSw); go_simp⟩) (by assumption) ?_; (try simp only [List.setIfInBounds_toArray, List.set_cons_zero, List.set_cons_succ])
      have zt : w5.cell? ⟨tb, 3, none⟩ = some (.int .i64 o1) := cell_of (unhide HTB5) 3
      refine wpAnyH_ready (rs := [6]) (by kernel_rfl) (by simp) ?_
      refine AllReadyH.cons rfl (fun K hK => ?_) AllReadyH.nil
      go_simp
      refine hK.out _ _ (by assumption) (fun hHeld => ?_)
      clear hK K
      (try simp only [Act.put, List.setIfInBounds_toArray, List.set_cons_zero, List.set_cons_succ])
      refine take17 (i := 9) (d := 42) (v := .int .i64 (max o1 off)) rfl rfl (by kernel_rfl) (by kernel_rfl) (by kernel_rfl) (fun _ _ _ h => h) (Or.inl ⟨by rfl, by intro w' hSw; (try dsimp only at hSw); go_simp⟩) (by assumption) ?_; (try simp only [List.setIfInBounds_toArray, List.set_cons_zero, List.set_cons_succ])
      refine take17 (i := 11) (d := 44) (v := .pointer (some ⟨tb, 3, none⟩)) rfl rfl (by kernel_rfl) (by kernel_rfl) (by kernel_rfl) (fun _ _ _ h => h) (Or.inl ⟨by rfl, by intro w' hSw; (try dsimp only at hSw); go_simp⟩) (by assumption) ?_; (try simp only [List.setIfInBounds_toArray, List.set_cons_zero, List.set_cons_succ])
      have ft : w5.frozen? ⟨tb, 3, none⟩ = false := frozen_of (unhide HTB5) 3
      have tt := touch_set w5 tb 3 (.int .i64 (max o1 off))
      have HTB6 := hide (heap_set (unhide HTB5) 3 (.int .i64 (max o1 off)))
      have HX6 := hide (tt.keep (unhide HX5) (unhide HXT))
      have HB6 := hide (below_touch (unhide HB5) tt (by have h1 := (unhide HB5).size; have h2 := unhide HN; omega) (fun k hk => by omega))
      clear tt HTB5 HX5 HB5
      refine wpAnyH_ready (rs := [12]) (by kernel_rfl) (by simp) ?_
      refine AllReadyH.cons rfl (fun K hK => ?_) AllReadyH.nil
      go_simp
      refine hK.out _ _ (unhide HX6) (fun hHeld => ?_)
      clear hK K zt ft HX6
      (try simp only [Act.put, List.setIfInBounds_toArray])
      generalize w5.setCell ⟨tb, 3, none⟩ (.int .i64 (max o1 off)) = w6 at *
      refine wpAnyH_done (by kernel_rfl) ?_ _
      clear hHeld
      go_upto_region 10 with fail
      have HB7 : Hid (Below tb w2 w6.drew) := hide (unhide HB6).drew
      have HTB7 := hide (below_keep ((Below.refl w6.heap.size w6).drew) (unhide HTB6))
      have H7 := hide (unhide KH _ (unhide HB7))
      have HX7 := hide (unhide KX _ (unhide HB7))
      clear HB6 HTB6
      obtain ⟨w8, hst, hm8, ht8⟩ := (unhide H7).map1.1.store (M := gK) (s := gr) (Nat.lt_of_le_of_lt (unhide H7).few (unhide HC)) (key_wf (unhide HR)) ⟨tg, tgb, tn, tc, o0, (max o1 off), o2, o3⟩
      have hst' : (Instr.mapUpdate 49 (.map (some mb)) (.int .i64 gr) (.agg #[.int .i64 tg, .slice sa tn tc, .int .i64 o0, .int .i64 (max o1 off), .int .i64 o2, .int .i64 o3])).run Try.prog w6.drew = .ok () w8 := by
        rw [← unhide HSA]
        exact hst
      have nsb : sb ≠ mb := fun e => by
        obtain ⟨es, ck, h1⟩ := (unhide H7).map1.1.block
        rw [← e, (unhide H7).obj] at h1
        cases h1
      have nxb : xb ≠ mb := fun e => by
        obtain ⟨es, ck, h1⟩ := (unhide H7).map1.1.block
        rw [← e, unhide HX7] at h1
        cases h1
      have ntb : tb ≠ mb := fun e => by
        obtain ⟨es, ck, h1⟩ := (unhide H7).map1.1.block
        rw [← e, unhide HTB7] at h1
        cases h1
      have TA7 : TmA w6.drew ⟨tg, tgb, tn, tc, o0, (max o1 off), o2, o3⟩ (gaPut ⟨2, gr, gen, l, 1, off⟩ (A gr)) := by
        have q := unhide KA _ (unhide HB7)
        have qi := unhide KI _ (unhide HB7)
        have e0 := q.o0
        have e1 := q.o1
        have e2 := q.o2
        have e3 := q.o3
        simp only at e0 e1 e2 e3
        unfold gaPut
        simp only [if_true]
        refine ⟨q.gen, q.n, q.l, ?_, ?_, ?_, ?_, q.few⟩ <;> simp [e0, e1, e2, e3]
      have F8 : Hid (HdQ B w sb none c A ⟨2, gr, gen, l, 1, off⟩ (.returned (.tuple #[])) w8) := hide (hd_end (unhide H7) (unhide HMB) (unhide KT _ (unhide HB7)) hm8 ht8 nsb TA7)
      have S8 : Hid (w8.cell? ⟨sb, 0, none⟩ = some (.map (some mb)) ∧ w8.heap[xb]? = some (.cells #[.int .i64 2, .int .i64 gr, .int .i64 gen, .slice a l.length k, .int .i64 1, .int .i64 off] 29) ∧ w8.heap[tb]? = some (.cells #[.int .i64 tg, .slice sa tn tc, .int .i64 o0, .int .i64 (max o1 off), .int .i64 o2, .int .i64 o3] 61)) := hide ⟨cell_of (ht8.keep (unhide H7).obj nsb) 0, ht8.keep (unhide HX7) nxb, ht8.keep (unhide HTB7) ntb⟩
      have S7 : Hid (w6.drew.cell? ⟨sb, 0, none⟩ = some (.map (some mb)) ∧ w6.drew.heap[xb]? = some (.cells #[.int .i64 2, .int .i64 gr, .int .i64 gen, .slice a l.length k, .int .i64 1, .int .i64 off] 29) ∧ w6.drew.heap[tb]? = some (.cells #[.int .i64 tg, .slice sa tn tc, .int .i64 o0, .int .i64 (max o1 off), .int .i64 o2, .int .i64 o3] 61)) := hide ⟨cell_of (unhide H7).obj 0, unhide HX7, unhide HTB7⟩
      clear hst hm8 ht8 nsb nxb ntb H7 HX7 HTB7 HB7 TA7 KH KX KT KA KI HMB
      refine wp_region_held_drew (S := fun w' => w'.cell? ⟨sb, 0, none⟩ = some (.map (some mb)) ∧ w'.heap[xb]? = some (.cells #[.int .i64 2, .int .i64 gr, .int .i64 gen, .slice a l.length k, .int .i64 1, .int .i64 off] 29) ∧ w'.heap[tb]? = some (.cells #[.int .i64 tg, .slice sa tn tc, .int .i64 o0, .int .i64 (max o1 off), .int .i64 o2, .int .i64 o3] 61)) (by kernel_rfl) (unhide S7) (fun hHeld => ?_)
      clear S7
      generalize w6.drew = w7 at *
      refine take17 (i := 0) (d := 57) (v := .pointer (some ⟨sb, 0, none⟩)) rfl rfl (by kernel_rfl) (by kernel_rfl) (by kernel_rfl) (fun _ _ _ h => h) (Or.inl ⟨by rfl, by intro w' hSw; (try dsimp only at hSw); go_simp⟩) (by assumption) ?_; (try simp only [List.setIfInBounds_toArray, List.set_cons_zero, List.set_cons_succ])
      refine take17 (i := 1) (d := 58) (v := .pointer (some ⟨sb, 0, none⟩)) rfl rfl (by kernel_rfl) (by kernel_rfl) (by kernel_rfl) (fun _ _ _ h => h) (Or.inl ⟨by rfl, by intro w' hSw; (try dsimp only at hSw); go_simp⟩) (by assumption) ?_; (try simp only [List.setIfInBounds_toArray, List.set_cons_zero, List.set_cons_succ])
      refine take17 (i := 2) (d := 59) (v := .pointer (some ⟨sb, 0, none⟩)) rfl rfl (by kernel_rfl) (by kernel_rfl) (by kernel_rfl) (fun _ _ _ h => h) (Or.inl ⟨by rfl, by intro w' hSw; (try dsimp only at hSw); go_simp⟩) (by assumption) ?_; (try simp only [List.setIfInBounds_toArray, List.set_cons_zero, List.set_cons_succ])
      refine take17 (i := 3) (d := 60) (v := .map (some mb)) rfl rfl (by kernel_rfl) (by kernel_rfl) (by kernel_rfl) (fun _ _ _ h => h) (Or.inl ⟨by rfl, by intro w' hSw; (try dsimp only at hSw); obtain ⟨s0, s1, s2⟩ := hSw; go_simp⟩) (by assumption) ?_; (try simp only [List.setIfInBounds_toArray, List.set_cons_zero, List.set_cons_succ])
      refine take17 (i := 4) (d := 61) (v := .pointer (some ⟨xb, 1, none⟩)) rfl rfl (by kernel_rfl) (by kernel_rfl) (by kernel_rfl) (fun _ _ _ h => h) (Or.inl ⟨by rfl, by intro w' hSw; (try dsimp only at hSw); go_simp⟩) (by assumption) ?_; (try simp only [List.setIfInBounds_toArray, List.set_cons_zero, List.set_cons_succ])
      refine take17 (i := 5) (d := 62) (v := .int .i64 gr) rfl rfl (by kernel_rfl) (by kernel_rfl) (by kernel_rfl) (fun _ _ _ h => h) (Or.inl ⟨by rfl, by intro w' hSw; (try dsimp only at hSw); obtain ⟨s0, s1, s2⟩ := hSw; have y1 := cell_of s1 1; simp at y1; go_simp⟩) (by assumption) ?_; (try simp only [List.setIfInBounds_toArray, List.set_cons_zero, List.set_cons_succ])
      refine take17 (i := 6) (d := 63) (v := .agg #[.int .i64 tg, .slice sa tn tc, .int .i64 o0, .int .i64 (max o1 off), .int .i64 o2, .int .i64 o3]) rfl rfl (by kernel_rfl) (by kernel_rfl) (by kernel_rfl) (fun _ _ _ h => h) (Or.inl ⟨by rfl, by intro w' hSw; (try dsimp only at hSw); obtain ⟨s0, s1, s2⟩ := hSw; have q0 := cell_of s2 0; have q1 := cell_of s2 1; have q2 := cell_of s2 2; have q3 := cell_of s2 3; have q4 := cell_of s2 4; have q5 := cell_of s2 5; simp at q0 q1 q2 q3 q4 q5; go_simp⟩) (by assumption) ?_; (try simp only [List.setIfInBounds_toArray, List.set_cons_zero, List.set_cons_succ])
      refine wpAnyH_ready (rs := [7]) (by kernel_rfl) (by simp) ?_
      refine AllReadyH.cons rfl (fun K hK => ?_) AllReadyH.nil
      go_simp
      refine hK.out _ _ (unhide S8) (fun hHeld => ?_)
      clear hK K
      (try simp only [Act.put, List.setIfInBounds_toArray])
      refine wpAnyH_done (by kernel_rfl) ?_ _
      clear hHeld hst'
      go_wp2
      go_roundw
      case rel => exact .inr ⟨by go_num, F8⟩
      case measure => simp [intOf]
    · go_wp2
      go_returns
      exact unhide hh
set_option maxRecDepth 100000 in
set_option maxHeartbeats 8000000 in
theorem gold_none_off2 {B : Nat} {w : World} {sb c : Nat} {m : List (Int × Tm)} {A : Int → Ga} {gr gen off : Int} {l : List Int} {v : Value} (h : GP B w sb none m c A) (hv : OneS B w v ⟨2, gr, gen, l, 2, off⟩) (hr : 0 ≤ gr ∧ gr < 8) (hl : l.length ≤ 8) (hc : c < maxLen) (hB : B ≤ w.heap.size) :
    Calls Try.prog 18 #[.pointer (some ⟨sb, 0, none⟩), v] w fun e w' => HdQ B w sb none c A ⟨2, gr, gen, l, 2, off⟩ e w' := by
  obtain ⟨g, cv, og, a, k, ha, rfl, hw, hi, hg⟩ := hv
  have HA := hide ha
  have hi' : IAt w (adr og) l := by have q := hi; rw [ha] at q; exact q
  clear ha
  have y0 : w.cell? ⟨sb, 0, none⟩ = some (.map none) := cell_of h.obj 0
  have f0 : w.frozen? ⟨sb, 0, none⟩ = false := frozen_of h.obj 0
  have y2 : (w.alloc (.map #[] 0)).cell? ⟨sb, 0, none⟩ = some (.map none) := cell_of (heap_old _ h.obj) 0
  have f2 : (w.alloc (.map #[] 0)).frozen? ⟨sb, 0, none⟩ = false := frozen_of (heap_old _ h.obj) 0
  have hmm := @run_makeMap Try.prog
  have H := hide h
  have HW := hide hw
  have HI := hide hi'
  have HB := hide hB
  have HR := hide hr
  have HL := hide hl
  have HC := hide hc

  have hq : ∀ (W : World) (b : Nat), (binOp .eql 49 (.map (some b)) (.map none)).run Try.prog W = .ok (.bool false) W := fun _ _ => by kernel_rfl
  have hq0 : ∀ (W : World), (binOp .eql 49 (.map none) (.map none)).run Try.prog W = .ok (.bool true) W := fun _ => by kernel_rfl
  clear h hw hg hB hi hi' hr hl hc
  go_enter Try.func18, Try.ntmps18
  go_upto_region 2 with fail
  have b1 := (Below.refl w.heap.size w).alloc (Nat.le_refl _) (.map #[] 0)
  have tsb := touch_set (w.alloc (.map #[] 0)) sb 0 (.map (some w.heap.size))
  have hsb := lt_of_heap (unhide H).obj
  have hob := heap_set (heap_old (.map #[] 0) (unhide H).obj) 0 (.map (some w.heap.size))
  have T1 : Hid (Touch (TP sb none w) w ((w.alloc (.map #[] 0)).setCell ⟨sb, 0, none⟩ (.map (some w.heap.size)))) := hide ((Touch.of_below b1).trans (tsb.mono (fun k hk => .inl hk)))
  have H1 : Hid (GP B ((w.alloc (.map #[] 0)).setCell ⟨sb, 0, none⟩ (.map (some w.heap.size))) sb (some w.heap.size) m c A) := hide ⟨hob, .inr ⟨w.heap.size, rfl, by rw [(unhide H).none]; exact (MM.made gK w).keep tsb (fun h => by omega), unhide HB⟩, fun q => ((unhide H).team q).keep (unhide T1) (unhide H).odd, (unhide H).few, (unhide H).hb⟩
  have I1 : Hid (IAt ((w.alloc (.map #[] 0)).setCell ⟨sb, 0, none⟩ (.map (some w.heap.size))) (adr og) l) := hide ((unhide HI).odd (unhide T1) (unhide H).odd)
  have W1 : Hid (Wide ((w.alloc (.map #[] 0)).setCell ⟨sb, 0, none⟩ (.map (some w.heap.size))) 29 6 (.slice (some ⟨g, 0, none⟩) 1 cv) 1 [.int .i64 2, .int .i64 gr, .int .i64 gen, .slice a l.length k, .int .i64 2, .int .i64 off]) := hide (((unhide HW).later b1).keep tsb (fun q hq e => by
      obtain ⟨cs, h1⟩ := (unhide HW).heap hq
      rw [e, (unhide H).obj] at h1
      exact absurd (Obj.cells.inj (Option.some.inj h1)).2.1 (by decide)))
  have HMB : Hid (Grew none w w.heap.size) := hide (.inr (Nat.le_refl _))
  clear y0 y2 f0 f2 hmm b1 tsb hsb hob H HW HI
  generalize (w.alloc (.map #[] 0)).setCell ⟨sb, 0, none⟩ (.map (some w.heap.size)) = w1 at *
  obtain ⟨mb, hmb⟩ : ∃ mb, mb = w.heap.size := ⟨_, rfl⟩
  rw [← hmb] at H1
  have HMB' : Hid (Grew none w mb) := hide (.inr (Nat.le_of_eq hmb.symm))
  clear HMB
  have HMB := HMB'
  clear HMB' hmb
  go_wp2_with fail
  go_loopw [18] (fun iv wr => (iv = .int .i64 0 ∧ wr = w1) ∨ (iv = .int .i64 1 ∧ Hid (HdQ B w sb none c A ⟨2, gr, gen, l, 2, off⟩ (.returned (.tuple #[])) wr))) (fun iv _ => 1 - (intOf iv).toNat)
  case atStart => exact .inl ⟨rfl, rfl⟩
  case round =>
    rcases hrel with ⟨rfl, rfl⟩ | ⟨rfl, hh⟩
    · obtain ⟨a', cap, ev, _, _, _, _, hcx⟩ := (unhide W1).parts
      obtain ⟨g', ea, _, hcell, _⟩ := hcx (by omega)
      injection ev with e1 e2 e3
      rw [ea] at e1
      cases e1
      have z0 := hcell 0 (by omega)
      have z1 := hcell 1 (by omega)
      have z2 := hcell 2 (by omega)
      have z3 := hcell 3 (by omega)
      have z4 := hcell 4 (by omega)
      have z5 := hcell 5 (by omega)
      simp only [List.getElem?_cons_zero, List.getElem?_cons_succ] at z0 z1 z2 z3 z4 z5
      clear hcell hcx ea e2 e3
      go_upto_region 5 with fail
      have b2 := (Below.refl wr.heap.size wr).alloc (Nat.le_refl _) (.cells #[.int .i64 2, .int .i64 gr, .int .i64 gen, .slice a l.length k, .int .i64 2, .int .i64 off] 29)
      have HX := hide (heap_new wr (.cells #[.int .i64 2, .int .i64 gr, .int .i64 gen, .slice a l.length k, .int .i64 2, .int .i64 off] 29))
      have H2 := hide ((unhide H1).later b2)
      have I2 := hide ((unhide I1).later b2)
      have T2 := hide ((unhide T1).trans (Touch.of_below b2))
      clear b2 H1 W1 T1 I1 z0 z1 z2 z3 z4 z5
      change Code.wp _ _ _ _ (wr.alloc (.cells #[.int .i64 2, .int .i64 gr, .int .i64 gen, .slice a l.length k, .int .i64 2, .int .i64 off] 29))
      generalize wr.alloc (.cells #[.int .i64 2, .int .i64 gr, .int .i64 gen, .slice a l.length k, .int .i64 2, .int .i64 off] 29) = w2 at *
      generalize wr.heap.size = xb at *
      obtain ⟨T, hT⟩ : ∃ T, T = mgot gK (matx m gr) := ⟨_, rfl⟩
      have HTA := hide ((unhide H2).team gr)
      have LK : Hid (∀ W, Below w2.heap.size w2 W → (Instr.lookup 49 (.map (some mb)) (.int .i64 gr) false).run Try.prog W = .ok (tmV T) W) := hide (fun W hb => by
        have := ((unhide H2).later hb).look (unhide HR)
        rw [hT]
        exact this)
      rw [← hT] at HTA
      clear hT
      obtain ⟨tg, tgb, tn, tc, o0, o1, o2, o3⟩ := T
      unfold tmV tmC at LK
      simp only at LK
      have KH : Hid (∀ W, Below w2.heap.size w2 W → GP B W sb (some mb) m c A) := hide (fun W hb => (unhide H2).later hb)
      have KX : Hid (∀ W, Below w2.heap.size w2 W → W.heap[xb]? = some (.cells #[.int .i64 2, .int .i64 gr, .int .i64 gen, .slice a l.length k, .int .i64 2, .int .i64 off] 29)) := hide (fun W hb => below_keep hb (unhide HX))
      have KT : Hid (∀ W, Below w2.heap.size w2 W → Touch (TP sb none w) w W) := hide (fun W hb => (unhide T2).trans (Touch.of_below hb))
      have KA : Hid (∀ W, Below w2.heap.size w2 W → TmA W ⟨tg, tgb, tn, tc, o0, o1, o2, o3⟩ (A gr)) := hide (fun W hb => (unhide HTA).keep (Touch.of_below (S := fun _ => False) hb) (fun _ h => h.elim))
      have KI : Hid (∀ W, Below w2.heap.size w2 W → IAt W (adr og) l) := hide (fun W hb => (unhide I2).later hb)
      have HG := hide (unhide HTA).gen
      generalize hsa : Option.map (fun g => (⟨g, 0, none⟩ : Addr)) tgb = sa at *
      have HSA := hide hsa
      clear hsa
      have SK : Hid (∀ W, Below w2.heap.size w2 W → W.cell? ⟨sb, 0, none⟩ = some (.map (some mb)) ∧ W.cell? ⟨xb, 1, none⟩ = some (.int .i64 gr) ∧ (Instr.lookup 49 (.map (some mb)) (.int .i64 gr) false).run Try.prog W = .ok (.agg #[.int .i64 tg, .slice sa tn tc, .int .i64 o0, .int .i64 o1, .int .i64 o2, .int .i64 o3]) W) := hide (fun W hb => ⟨cell_of (below_keep hb (unhide H2).obj) 0, cell_of (below_keep hb (unhide HX)) 1, unhide LK W hb⟩)
      clear LK HTA
      refine wp_region_held_drew (S := fun w' => Below w2.heap.size w2 w') (by kernel_rfl) ((Below.refl _ _).drew) (fun hHeld => ?_)
      refine take17 (i := 0) (d := 22) (v := .pointer (some ⟨sb, 0, none⟩)) rfl rfl (by kernel_rfl) (by kernel_rfl) (by kernel_rfl) (fun _ _ _ h => h) (Or.inl ⟨by rfl, by intro w' hSw; (try dsimp only at hSw); go_simp⟩) (by assumption) ?_; (try simp only [List.setIfInBounds_toArray, List.set_cons_zero, List.set_cons_succ])
      refine take17 (i := 1) (d := 23) (v := .pointer (some ⟨sb, 0, none⟩)) rfl rfl (by kernel_rfl) (by kernel_rfl) (by kernel_rfl) (fun _ _ _ h => h) (Or.inl ⟨by rfl, by intro w' hSw; (try dsimp only at hSw); go_simp⟩) (by assumption) ?_; (try simp only [List.setIfInBounds_toArray, List.set_cons_zero, List.set_cons_succ])
      refine take17 (i := 2) (d := 24) (v := .pointer (some ⟨sb, 0, none⟩)) rfl rfl (by kernel_rfl) (by kernel_rfl) (by kernel_rfl) (fun _ _ _ h => h) (Or.inl ⟨by rfl, by intro w' hSw; (try dsimp only at hSw); go_simp⟩) (by assumption) ?_; (try simp only [List.setIfInBounds_toArray, List.set_cons_zero, List.set_cons_succ])
      refine take17 (i := 3) (d := 25) (v := .map (some mb)) rfl rfl (by kernel_rfl) (by kernel_rfl) (by kernel_rfl) (fun _ _ _ h => h) (Or.inl ⟨by rfl, by intro w' hSw; (try dsimp only at hSw); obtain ⟨s0, s1, sl⟩ := unhide SK w' hSw; go_simp⟩) (by assumption) ?_; (try simp only [List.setIfInBounds_toArray, List.set_cons_zero, List.set_cons_succ])
      refine take17 (i := 4) (d := 26) (v := .pointer (some ⟨xb, 1, none⟩)) rfl rfl (by kernel_rfl) (by kernel_rfl) (by kernel_rfl) (fun _ _ _ h => h) (Or.inl ⟨by rfl, by intro w' hSw; (try dsimp only at hSw); go_simp⟩) (by assumption) ?_; (try simp only [List.setIfInBounds_toArray, List.set_cons_zero, List.set_cons_succ])
      refine take17 (i := 5) (d := 27) (v := .int .i64 gr) rfl rfl (by kernel_rfl) (by kernel_rfl) (by kernel_rfl) (fun _ _ _ h => h) (Or.inl ⟨by rfl, by intro w' hSw; (try dsimp only at hSw); obtain ⟨s0, s1, sl⟩ := unhide SK w' hSw; go_simp⟩) (by assumption) ?_; (try simp only [List.setIfInBounds_toArray, List.set_cons_zero, List.set_cons_succ])
      refine take17 (i := 6) (d := 28) (v := .agg #[.int .i64 tg, .slice sa tn tc, .int .i64 o0, .int .i64 o1, .int .i64 o2, .int .i64 o3]) rfl rfl (by kernel_rfl) (by kernel_rfl) (by kernel_rfl) (fun _ _ _ h => h) (Or.inl ⟨by rfl, by intro w' hSw; (try dsimp only at hSw); obtain ⟨s0, s1, sl⟩ := unhide SK w' hSw; go_simp⟩) (by assumption) ?_; (try simp only [List.setIfInBounds_toArray, List.set_cons_zero, List.set_cons_succ])
      refine wpAnyH_ready (rs := [7]) (by kernel_rfl) (by simp) ?_
      refine AllReadyH.cons rfl (fun K hK => ?_) AllReadyH.nil
      go_simp
      have b3 : Below w2.heap.size w2 (w2.drew.alloc (.cells #[.int .i64 0, .slice none 0 0, .int .i64 0, .int .i64 0, .int .i64 0, .int .i64 0] 61)) := ((Below.refl _ _).drew).alloc (Nat.le_refl _) _
      have HTB := hide (heap_new w2.drew (.cells #[.int .i64 0, .slice none 0 0, .int .i64 0, .int .i64 0, .int .i64 0, .int .i64 0] 61))
      have HB3 := hide b3
      refine hK.out _ _ b3 (fun hHeld => ?_)
      clear hK K b3
      (try simp only [Act.put, List.setIfInBounds_toArray, List.set_cons_zero, List.set_cons_succ])
      change wpAnyH _ _ _ _ _ _ _ _ (w2.drew.alloc (.cells #[.int .i64 0, .slice none 0 0, .int .i64 0, .int .i64 0, .int .i64 0, .int .i64 0] 61))
      have hdz : w2.drew.heap.size = w2.heap.size := rfl
      rw [hdz] at HTB
      clear hdz
      generalize w2.drew.alloc (.cells #[.int .i64 0, .slice none 0 0, .int .i64 0, .int .i64 0, .int .i64 0, .int .i64 0] 61) = w3 at *
      refine wpAnyH_ready (rs := [8]) (by kernel_rfl) (by simp) ?_
      refine AllReadyH.cons rfl (fun K hK => ?_) AllReadyH.nil
      rw [if_pos (by rfl)]
      obtain ⟨q1, q2⟩ := heap_setCells [.int .i64 tg, .slice sa tn tc, .int .i64 o0, .int .i64 o1, .int .i64 o2, .int .i64 o3] 0 w3 _ (unhide HTB)
      have HTB4 : Hid ((w3.setCells w2.heap.size 0 [.int .i64 tg, .slice sa tn tc, .int .i64 o0, .int .i64 o1, .int .i64 o2, .int .i64 o3]).heap[w2.heap.size]? = some (.cells #[.int .i64 tg, .slice sa tn tc, .int .i64 o0, .int .i64 o1, .int .i64 o2, .int .i64 o3] 61)) := hide q1
      have HB4 := hide (below_touch (unhide HB3) q2 (unhide HB3).size (fun k hk => by omega))
      refine wp_store_mid 61 (.tmp 6) (.tmp 28) rfl w2.heap.size 0 #[.int .i64 tg, .slice sa tn tc, .int .i64 o0, .int .i64 o1, .int .i64 o2, .int .i64 o3] rfl rfl (there_of (unhide HTB) (by show 0 + 6 ≤ 6; decide)) (by kernel_rfl) (by simp [Value.oneCell']) ?_
      refine hK.out _ _ (unhide HB4) (fun hHeld => ?_)
      clear hK K q1 q2 HTB HB3
      (try simp only [Act.put, List.setIfInBounds_toArray])
      change wpAnyH _ _ _ _ _ _ _ _ (w3.setCells w2.heap.size 0 [.int .i64 tg, .slice sa tn tc, .int .i64 o0, .int .i64 o1, .int .i64 o2, .int .i64 o3])
      generalize w3.setCells w2.heap.size 0 [.int .i64 tg, .slice sa tn tc, .int .i64 o0, .int .i64 o1, .int .i64 o2, .int .i64 o3] = w4 at *
      refine wpAnyH_done (by kernel_rfl) ?_ _
      have HXT : Hid (xb ≠ w2.heap.size) := hide (by have := lt_of_heap (unhide HX); omega)
      clear hHeld SK H2 HX T2 I2
      generalize hn : w2.heap.size = tb at *
      have HN := hide hn
      clear hn
      have x0 := cell_of (unhide KX _ (unhide HB4)) 0
      have x2 := cell_of (unhide KX _ (unhide HB4)) 2
      have u0 := cell_of (unhide HTB4) 0
      simp at x0 x2 u0
      clear x2 u0
      go_upto_region 7 with fail
      clear x0
      have hd5 : Below w4.heap.size w4 w4.drew := (Below.refl _ _).drew
      have HTB5 := hide (below_keep hd5 (unhide HTB4))
      have HB5 : Hid (Below tb w2 w4.drew) := hide (unhide HB4).drew
      have HX5 := hide (unhide KX _ (unhide HB5))
      clear HTB4 HB4 hd5
      refine wp_region_held_drew (S := fun w' => w'.heap[xb]? = some (.cells #[.int .i64 2, .int .i64 gr, .int .i64 gen, .slice a l.length k, .int .i64 2, .int .i64 off] 29)) (by kernel_rfl) (unhide HX5) (fun hHeld => ?_)
      generalize w4.drew = w5 at *
      refine take17 (i := 0) (d := 33) (v := .pointer (some ⟨xb, 4, none⟩)) rfl rfl (by kernel_rfl) (by kernel_rfl) (by kernel_rfl) (fun _ _ _ h => h) (Or.inl ⟨by rfl, by intro w' hSw; (try dsimp only at hSw); go_simp⟩) (by assumption) ?_; (try simp only [List.setIfInBounds_toArray, List.set_cons_zero, List.set_cons_succ])
      refine take17 (i := 1) (d := 34) (v := .int .i64 2) rfl rfl (by kernel_rfl) (by kernel_rfl) (by kernel_rfl) (fun _ _ _ h => h) (Or.inl ⟨by rfl, by intro w' hSw; (try dsimp only at hSw); have y4 := cell_of hSw 4; simp at y4; go_simp⟩) (by assumption) ?_; (try simp only [List.setIfInBounds_toArray, List.set_cons_zero, List.set_cons_succ])
      refine take17 (i := 2) (d := 35) (v := .pointer (some ⟨xb, 4, none⟩)) rfl rfl (by kernel_rfl) (by kernel_rfl) (by kernel_rfl) (fun _ _ _ h => h) (Or.inl ⟨by rfl, by intro w' hSw; (try dsimp only at hSw); go_simp⟩) (by assumption) ?_; (try simp only [List.setIfInBounds_toArray, List.set_cons_zero, List.set_cons_succ])
      refine take17 (i := 3) (d := 36) (v := .int .i64 2) rfl rfl (by kernel_rfl) (by kernel_rfl) (by kernel_rfl) (fun _ _ _ h => h) (Or.inl ⟨by rfl, by intro w' hSw; (try dsimp only at hSw); have y4 := cell_of hSw 4; simp at y4; go_simp⟩) (by assumption) ?_; (try simp only [List.setIfInBounds_toArray, List.set_cons_zero, List.set_cons_succ])
      refine take17 (i := 4) (d := 37) (v := .pointer (some ⟨tb, 2, none⟩)) rfl rfl (by kernel_rfl) (by kernel_rfl) (by kernel_rfl) (fun _ _ _ h => h) (Or.inl ⟨by rfl, by intro w' hSw; (try dsimp only at hSw); go_simp⟩) (by assumption) ?_; (try simp only [List.setIfInBounds_toArray, List.set_cons_zero, List.set_cons_succ])
      refine take17 (i := 5) (d := 38) (v := .pointer (some ⟨tb, 4, none⟩)) rfl rfl (by kernel_rfl) (by kernel_rfl) (by kernel_rfl) (fun _ _ _ h => h) (Or.inl ⟨by rfl, by intro w' hSw; (try dsimp only at hSw); go_simp⟩) (by assumption) ?_; (try simp only [List.setIfInBounds_toArray, List.set_cons_zero, List.set_cons_succ])
      refine take17 (i := 7) (d := 40) (v := .pointer (some ⟨xb, 5, none⟩)) rfl rfl (by kernel_rfl) (by kernel_rfl) (by kernel_rfl) (fun _ _ _ h => h) (Or.inl ⟨by rfl, by intro w' hSw; (try dsimp only at hSw); go_simp⟩) (by assumption) ?_; (try simp only [List.setIfInBounds_toArray, List.set_cons_zero, List.set_cons_succ])
      refine take17 (i := 8) (d := 41) (v := .int .i64 off) rfl rfl (by kernel_rfl) (by kernel_rfl) (by kernel_rfl) (fun _ _ _ h => h) (Or.inl ⟨by rfl, by intro w' hSw; (try dsimp only at hSw); have y5 := cell_of hSw 5; simp at y5; go_simp⟩) (by assumption) ?_; (try simp only [List.setIfInBounds_toArray, List.set_cons_zero, List.set_cons_succ])
      refine take17 (i := 10) (d := 43) (v := .pointer (some ⟨tb, 2, none⟩)) rfl rfl (by kernel_rfl) (by kernel_rfl) (by kernel_rfl) (fun _ _ _ h => h) (Or.inl ⟨by rfl, by intro w' hSw; (try dsimp only at hSw); go_simp⟩) (by assumption) ?_; (try simp only [List.setIfInBounds_toArray, List.set_cons_zero, List.set_cons_succ])
      have zt : w5.cell? ⟨tb, 4, none⟩ = some (.int .i64 o2) := cell_of (unhide HTB5) 4
      refine wpAnyH_ready (rs := [6]) (by kernel_rfl) (by simp) ?_
      refine AllReadyH.cons rfl (fun K hK => ?_) AllReadyH.nil
      go_simp
      refine hK.out _ _ (by assumption) (fun hHeld => ?_)
      clear hK K
      (try simp only [Act.put, List.setIfInBounds_toArray, List.set_cons_zero, List.set_cons_succ])
      refine take17 (i := 9) (d := 42) (v := .int .i64 (max o2 off)) rfl rfl (by kernel_rfl) (by kernel_rfl) (by kernel_rfl) (fun _ _ _ h => h) (Or.inl ⟨by rfl, by intro w' hSw; (try dsimp only at hSw); go_simp⟩) (by assumption) ?_; (try simp only [List.setIfInBounds_toArray, List.set_cons_zero, List.set_cons_succ])
      refine take17 (i := 11) (d := 44) (v := .pointer (some ⟨tb, 4, none⟩)) rfl rfl (by kernel_rfl) (by kernel_rfl) (by kernel_rfl) (fun _ _ _ h => h) (Or.inl ⟨by rfl, by intro w' hSw; (try dsimp only at hSw); go_simp⟩) (by assumption) ?_; (try simp only [List.setIfInBounds_toArray, List.set_cons_zero, List.set_cons_succ])
      have ft : w5.frozen? ⟨tb, 4, none⟩ = false := frozen_of (unhide HTB5) 4
      have tt := touch_set w5 tb 4 (.int .i64 (max o2 off))
      have HTB6 := hide (heap_set (unhide HTB5) 4 (.int .i64 (max o2 off)))
      have HX6 := hide (tt.keep (unhide HX5) (unhide HXT))
      have HB6 := hide (below_touch (unhide HB5) tt (by have h1 := (unhide HB5).size; have h2 := unhide HN; omega) (fun k hk => by omega))
      clear tt HTB5 HX5 HB5
      refine wpAnyH_ready (rs := [12]) (by kernel_rfl) (by simp) ?_
      refine AllReadyH.cons rfl (fun K hK => ?_) AllReadyH.nil
      go_simp
      refine hK.out _ _ (unhide HX6) (fun hHeld => ?_)
      clear hK K zt ft HX6
      (try simp only [Act.put, List.setIfInBounds_toArray])
      generalize w5.setCell ⟨tb, 4, none⟩ (.int .i64 (max o2 off)) = w6 at *
      refine wpAnyH_done (by kernel_rfl) ?_ _
      clear hHeld
      go_upto_region 10 with fail
      have HB7 : Hid (Below tb w2 w6.drew) := hide (unhide HB6).drew
      have HTB7 := hide (below_keep ((Below.refl w6.heap.size w6).drew) (unhide HTB6))
      have H7 := hide (unhide KH _ (unhide HB7))
      have HX7 := hide (unhide KX _ (unhide HB7))
      clear HB6 HTB6
      obtain ⟨w8, hst, hm8, ht8⟩ := (unhide H7).map1.1.store (M := gK) (s := gr) (Nat.lt_of_le_of_lt (unhide H7).few (unhide HC)) (key_wf (unhide HR)) ⟨tg, tgb, tn, tc, o0, o1, (max o2 off), o3⟩
      have hst' : (Instr.mapUpdate 49 (.map (some mb)) (.int .i64 gr) (.agg #[.int .i64 tg, .slice sa tn tc, .int .i64 o0, .int .i64 o1, .int .i64 (max o2 off), .int .i64 o3])).run Try.prog w6.drew = .ok () w8 := by
        rw [← unhide HSA]
        exact hst
      have nsb : sb ≠ mb := fun e => by
        obtain ⟨es, ck, h1⟩ := (unhide H7).map1.1.block
        rw [← e, (unhide H7).obj] at h1
        cases h1
      have nxb : xb ≠ mb := fun e => by
        obtain ⟨es, ck, h1⟩ := (unhide H7).map1.1.block
        rw [← e, unhide HX7] at h1
        cases h1
      have ntb : tb ≠ mb := fun e => by
        obtain ⟨es, ck, h1⟩ := (unhide H7).map1.1.block
        rw [← e, unhide HTB7] at h1
        cases h1
      have TA7 : TmA w6.drew ⟨tg, tgb, tn, tc, o0, o1, (max o2 off), o3⟩ (gaPut ⟨2, gr, gen, l, 2, off⟩ (A gr)) := by
        have q := unhide KA _ (unhide HB7)
        have qi := unhide KI _ (unhide HB7)
        have e0 := q.o0
        have e1 := q.o1
        have e2 := q.o2
        have e3 := q.o3
        simp only at e0 e1 e2 e3
        unfold gaPut
        simp only [if_true]
        refine ⟨q.gen, q.n, q.l, ?_, ?_, ?_, ?_, q.few⟩ <;> simp [e0, e1, e2, e3]
      have F8 : Hid (HdQ B w sb none c A ⟨2, gr, gen, l, 2, off⟩ (.returned (.tuple #[])) w8) := hide (hd_end (unhide H7) (unhide HMB) (unhide KT _ (unhide HB7)) hm8 ht8 nsb TA7)
      have S8 : Hid (w8.cell? ⟨sb, 0, none⟩ = some (.map (some mb)) ∧ w8.heap[xb]? = some (.cells #[.int .i64 2, .int .i64 gr, .int .i64 gen, .slice a l.length k, .int .i64 2, .int .i64 off] 29) ∧ w8.heap[tb]? = some (.cells #[.int .i64 tg, .slice sa tn tc, .int .i64 o0, .int .i64 o1, .int .i64 (max o2 off), .int .i64 o3] 61)) := hide ⟨cell_of (ht8.keep (unhide H7).obj nsb) 0, ht8.keep (unhide HX7) nxb, ht8.keep (unhide HTB7) ntb⟩
      have S7 : Hid (w6.drew.cell? ⟨sb, 0, none⟩ = some (.map (some mb)) ∧ w6.drew.heap[xb]? = some (.cells #[.int .i64 2, .int .i64 gr, .int .i64 gen, .slice a l.length k, .int .i64 2, .int .i64 off] 29) ∧ w6.drew.heap[tb]? = some (.cells #[.int .i64 tg, .slice sa tn tc, .int .i64 o0, .int .i64 o1, .int .i64 (max o2 off), .int .i64 o3] 61)) := hide ⟨cell_of (unhide H7).obj 0, unhide HX7, unhide HTB7⟩
      clear hst hm8 ht8 nsb nxb ntb H7 HX7 HTB7 HB7 TA7 KH KX KT KA KI HMB
      refine wp_region_held_drew (S := fun w' => w'.cell? ⟨sb, 0, none⟩ = some (.map (some mb)) ∧ w'.heap[xb]? = some (.cells #[.int .i64 2, .int .i64 gr, .int .i64 gen, .slice a l.length k, .int .i64 2, .int .i64 off] 29) ∧ w'.heap[tb]? = some (.cells #[.int .i64 tg, .slice sa tn tc, .int .i64 o0, .int .i64 o1, .int .i64 (max o2 off), .int .i64 o3] 61)) (by kernel_rfl) (unhide S7) (fun hHeld => ?_)
      clear S7
      generalize w6.drew = w7 at *
      refine take17 (i := 0) (d := 57) (v := .pointer (some ⟨sb, 0, none⟩)) rfl rfl (by kernel_rfl) (by kernel_rfl) (by kernel_rfl) (fun _ _ _ h => h) (Or.inl ⟨by rfl, by intro w' hSw; (try dsimp only at hSw); go_simp⟩) (by assumption) ?_; (try simp only [List.setIfInBounds_toArray, List.set_cons_zero, List.set_cons_succ])
      refine take17 (i := 1) (d := 58) (v := .pointer (some ⟨sb, 0, none⟩)) rfl rfl (by kernel_rfl) (by kernel_rfl) (by kernel_rfl) (fun _ _ _ h => h) (Or.inl ⟨by rfl, by intro w' hSw; (try dsimp only at hSw); go_simp⟩) (by assumption) ?_; (try simp only [List.setIfInBounds_toArray, List.set_cons_zero, List.set_cons_succ])
      refine take17 (i := 2) (d := 59) (v := .pointer (some ⟨sb, 0, none⟩)) rfl rfl (by kernel_rfl) (by kernel_rfl) (by kernel_rfl) (fun _ _ _ h => h) (Or.inl ⟨by rfl, by intro w' hSw; (try dsimp only at hSw); go_simp⟩) (by assumption) ?_; (try simp only [List.setIfInBounds_toArray, List.set_cons_zero, List.set_cons_succ])
      refine take17 (i := 3) (d := 60) (v := .map (some mb)) rfl rfl (by kernel_rfl) (by kernel_rfl) (by kernel_rfl) (fun _ _ _ h => h) (Or.inl ⟨by rfl, by intro w' hSw; (try dsimp only at hSw); obtain ⟨s0, s1, s2⟩ := hSw; go_simp⟩) (by assumption) ?_; (try simp only [List.setIfInBounds_toArray, List.set_cons_zero, List.set_cons_succ])
      refine take17 (i := 4) (d := 61) (v := .pointer (some ⟨xb, 1, none⟩)) rfl rfl (by kernel_rfl) (by kernel_rfl) (by kernel_rfl) (fun _ _ _ h => h) (Or.inl ⟨by rfl, by intro w' hSw; (try dsimp only at hSw); go_simp⟩) (by assumption) ?_; (try simp only [List.setIfInBounds_toArray, List.set_cons_zero, List.set_cons_succ])
      refine take17 (i := 5) (d := 62) (v := .int .i64 gr) rfl rfl (by kernel_rfl) (by kernel_rfl) (by kernel_rfl) (fun _ _ _ h => h) (Or.inl ⟨by rfl, by intro w' hSw; (try dsimp only at hSw); obtain ⟨s0, s1, s2⟩ := hSw; have y1 := cell_of s1 1; simp at y1; go_simp⟩) (by assumption) ?_; (try simp only [List.setIfInBounds_toArray, List.set_cons_zero, List.set_cons_succ])
      refine take17 (i := 6) (d := 63) (v := .agg #[.int .i64 tg, .slice sa tn tc, .int .i64 o0, .int .i64 o1, .int .i64 (max o2 off), .int .i64 o3]) rfl rfl (by kernel_rfl) (by kernel_rfl) (by kernel_rfl) (fun _ _ _ h => h) (Or.inl ⟨by rfl, by intro w' hSw; (try dsimp only at hSw); obtain ⟨s0, s1, s2⟩ := hSw; have q0 := cell_of s2 0; have q1 := cell_of s2 1; have q2 := cell_of s2 2; have q3 := cell_of s2 3; have q4 := cell_of s2 4; have q5 := cell_of s2 5; simp at q0 q1 q2 q3 q4 q5; go_simp⟩) (by assumption) ?_; (try simp only [List.setIfInBounds_toArray, List.set_cons_zero, List.set_cons_succ])
      refine wpAnyH_ready (rs := [7]) (by kernel_rfl) (by simp) ?_
      refine AllReadyH.cons rfl (fun K hK => ?_) AllReadyH.nil
      go_simp
      refine hK.out _ _ (unhide S8) (fun hHeld => ?_)
      clear hK K
      (try simp only [Act.put, List.setIfInBounds_toArray])
      refine wpAnyH_done (by kernel_rfl) ?_ _
      clear hHeld hst'
      go_wp2
      go_roundw
      case rel => exact .inr ⟨by go_num, F8⟩
      case measure => simp [intOf]
    · go_wp2
      go_returns
      exact unhide hh
set_option maxRecDepth 100000 in
set_option maxHeartbeats 8000000 in
theorem gold_none_off3 {B : Nat} {w : World} {sb c : Nat} {m : List (Int × Tm)} {A : Int → Ga} {gr gen off : Int} {l : List Int} {v : Value} (h : GP B w sb none m c A) (hv : OneS B w v ⟨2, gr, gen, l, 3, off⟩) (hr : 0 ≤ gr ∧ gr < 8) (hl : l.length ≤ 8) (hc : c < maxLen) (hB : B ≤ w.heap.size) :
    Calls Try.prog 18 #[.pointer (some ⟨sb, 0, none⟩), v] w fun e w' => HdQ B w sb none c A ⟨2, gr, gen, l, 3, off⟩ e w' := by
  obtain ⟨g, cv, og, a, k, ha, rfl, hw, hi, hg⟩ := hv
  have HA := hide ha
  have hi' : IAt w (adr og) l := by have q := hi; rw [ha] at q; exact q
  clear ha
  have y0 : w.cell? ⟨sb, 0, none⟩ = some (.map none) := cell_of h.obj 0
  have f0 : w.frozen? ⟨sb, 0, none⟩ = false := frozen_of h.obj 0
  have y2 : (w.alloc (.map #[] 0)).cell? ⟨sb, 0, none⟩ = some (.map none) := cell_of (heap_old _ h.obj) 0
  have f2 : (w.alloc (.map #[] 0)).frozen? ⟨sb, 0, none⟩ = false := frozen_of (heap_old _ h.obj) 0
  have hmm := @run_makeMap Try.prog
  have H := hide h
  have HW := hide hw
  have HI := hide hi'
  have HB := hide hB
  have HR := hide hr
  have HL := hide hl
  have HC := hide hc

  have hq : ∀ (W : World) (b : Nat), (binOp .eql 49 (.map (some b)) (.map none)).run Try.prog W = .ok (.bool false) W := fun _ _ => by kernel_rfl
  have hq0 : ∀ (W : World), (binOp .eql 49 (.map none) (.map none)).run Try.prog W = .ok (.bool true) W := fun _ => by kernel_rfl
  clear h hw hg hB hi hi' hr hl hc
  go_enter Try.func18, Try.ntmps18
  go_upto_region 2 with fail
  have b1 := (Below.refl w.heap.size w).alloc (Nat.le_refl _) (.map #[] 0)
  have tsb := touch_set (w.alloc (.map #[] 0)) sb 0 (.map (some w.heap.size))
  have hsb := lt_of_heap (unhide H).obj
  have hob := heap_set (heap_old (.map #[] 0) (unhide H).obj) 0 (.map (some w.heap.size))
  have T1 : Hid (Touch (TP sb none w) w ((w.alloc (.map #[] 0)).setCell ⟨sb, 0, none⟩ (.map (some w.heap.size)))) := hide ((Touch.of_below b1).trans (tsb.mono (fun k hk => .inl hk)))
  have H1 : Hid (GP B ((w.alloc (.map #[] 0)).setCell ⟨sb, 0, none⟩ (.map (some w.heap.size))) sb (some w.heap.size) m c A) := hide ⟨hob, .inr ⟨w.heap.size, rfl, by rw [(unhide H).none]; exact (MM.made gK w).keep tsb (fun h => by omega), unhide HB⟩, fun q => ((unhide H).team q).keep (unhide T1) (unhide H).odd, (unhide H).few, (unhide H).hb⟩
  have I1 : Hid (IAt ((w.alloc (.map #[] 0)).setCell ⟨sb, 0, none⟩ (.map (some w.heap.size))) (adr og) l) := hide ((unhide HI).odd (unhide T1) (unhide H).odd)
  have W1 : Hid (Wide ((w.alloc (.map #[] 0)).setCell ⟨sb, 0, none⟩ (.map (some w.heap.size))) 29 6 (.slice (some ⟨g, 0, none⟩) 1 cv) 1 [.int .i64 2, .int .i64 gr, .int .i64 gen, .slice a l.length k, .int .i64 3, .int .i64 off]) := hide (((unhide HW).later b1).keep tsb (fun q hq e => by
      obtain ⟨cs, h1⟩ := (unhide HW).heap hq
      rw [e, (unhide H).obj] at h1
      exact absurd (Obj.cells.inj (Option.some.inj h1)).2.1 (by decide)))
  have HMB : Hid (Grew none w w.heap.size) := hide (.inr (Nat.le_refl _))
  clear y0 y2 f0 f2 hmm b1 tsb hsb hob H HW HI
  generalize (w.alloc (.map #[] 0)).setCell ⟨sb, 0, none⟩ (.map (some w.heap.size)) = w1 at *
  obtain ⟨mb, hmb⟩ : ∃ mb, mb = w.heap.size := ⟨_, rfl⟩
  rw [← hmb] at H1
  have HMB' : Hid (Grew none w mb) := hide (.inr (Nat.le_of_eq hmb.symm))
  clear HMB
  have HMB := HMB'
  clear HMB' hmb
  go_wp2_with fail
  go_loopw [18] (fun iv wr => (iv = .int .i64 0 ∧ wr = w1) ∨ (iv = .int .i64 1 ∧ Hid (HdQ B w sb none c A ⟨2, gr, gen, l, 3, off⟩ (.returned (.tuple #[])) wr))) (fun iv _ => 1 - (intOf iv).toNat)
  case atStart => exact .inl ⟨rfl, rfl⟩
  case round =>
    rcases hrel with ⟨rfl, rfl⟩ | ⟨rfl, hh⟩
    · obtain ⟨a', cap, ev, _, _, _, _, hcx⟩ := (unhide W1).parts
      obtain ⟨g', ea, _, hcell, _⟩ := hcx (by omega)
      injection ev with e1 e2 e3
      rw [ea] at e1
      cases e1
      have z0 := hcell 0 (by omega)
      have z1 := hcell 1 (by omega)
      have z2 := hcell 2 (by omega)
      have z3 := hcell 3 (by omega)
      have z4 := hcell 4 (by omega)
      have z5 := hcell 5 (by omega)
      simp only [List.getElem?_cons_zero, List.getElem?_cons_succ] at z0 z1 z2 z3 z4 z5
      clear hcell hcx ea e2 e3
      go_upto_region 5 with fail
      have b2 := (Below.refl wr.heap.size wr).alloc (Nat.le_refl _) (.cells #[.int .i64 2, .int .i64 gr, .int .i64 gen, .slice a l.length k, .int .i64 3, .int .i64 off] 29)
      have HX := hide (heap_new wr (.cells #[.int .i64 2, .int .i64 gr, .int .i64 gen, .slice a l.length k, .int .i64 3, .int .i64 off] 29))
      have H2 := hide ((unhide H1).later b2)
      have I2 := hide ((unhide I1).later b2)
      have T2 := hide ((unhide T1).trans (Touch.of_below b2))
      clear b2 H1 W1 T1 I1 z0 z1 z2 z3 z4 z5
      change Code.wp _ _ _ _ (wr.alloc (.cells #[.int .i64 2, .int .i64 gr, .int .i64 gen, .slice a l.length k, .int .i64 3, .int .i64 off] 29))
      generalize wr.alloc (.cells #[.int .i64 2, .int .i64 gr, .int .i64 gen, .slice a l.length k, .int .i64 3, .int .i64 off] 29) = w2 at *
      generalize wr.heap.size = xb at *
      obtain ⟨T, hT⟩ : ∃ T, T = mgot gK (matx m gr) := ⟨_, rfl⟩
      have HTA := hide ((unhide H2).team gr)
      have LK : Hid (∀ W, Below w2.heap.size w2 W → (Instr.lookup 49 (.map (some mb)) (.int .i64 gr) false).run Try.prog W = .ok (tmV T) W) := hide (fun W hb => by
        have := ((unhide H2).later hb).look (unhide HR)
        rw [hT]
        exact this)
      rw [← hT] at HTA
      clear hT
      obtain ⟨tg, tgb, tn, tc, o0, o1, o2, o3⟩ := T
      unfold tmV tmC at LK
      simp only at LK
      have KH : Hid (∀ W, Below w2.heap.size w2 W → GP B W sb (some mb) m c A) := hide (fun W hb => (unhide H2).later hb)
      have KX : Hid (∀ W, Below w2.heap.size w2 W → W.heap[xb]? = some (.cells #[.int .i64 2, .int .i64 gr, .int .i64 gen, .slice a l.length k, .int .i64 3, .int .i64 off] 29)) := hide (fun W hb => below_keep hb (unhide HX))
      have KT : Hid (∀ W, Below w2.heap.size w2 W → Touch (TP sb none w) w W) := hide (fun W hb => (unhide T2).trans (Touch.of_below hb))
      have KA : Hid (∀ W, Below w2.heap.size w2 W → TmA W ⟨tg, tgb, tn, tc, o0, o1, o2, o3⟩ (A gr)) := hide (fun W hb => (unhide HTA).keep (Touch.of_below (S := fun _ => False) hb) (fun _ h => h.elim))
      have KI : Hid (∀ W, Below w2.heap.size w2 W → IAt W (adr og) l) := hide (fun W hb => (unhide I2).later hb)
      have HG := hide (unhide HTA).gen
      generalize hsa : Option.map (fun g => (⟨g, 0, none⟩ : Addr)) tgb = sa at *
      have HSA := hide hsa
      clear hsa
      have SK : Hid (∀ W, Below w2.heap.size w2 W → W.cell? ⟨sb, 0, none⟩ = some (.map (some mb)) ∧ W.cell? ⟨xb, 1, none⟩ = some (.int .i64 gr) ∧ (Instr.lookup 49 (.map (some mb)) (.int .i64 gr) false).run Try.prog W = .ok (.agg #[.int .i64 tg, .slice sa tn tc, .int .i64 o0, .int .i64 o1, .int .i64 o2, .int .i64 o3]) W) := hide (fun W hb => ⟨cell_of (below_keep hb (unhide H2).obj) 0, cell_of (below_keep hb (unhide HX)) 1, unhide LK W hb⟩)
      clear LK HTA
      refine wp_region_held_drew (S := fun w' => Below w2.heap.size w2 w') (by kernel_rfl) ((Below.refl _ _).drew) (fun hHeld => ?_)
      refine take17 (i := 0) (d := 22) (v := .pointer (some ⟨sb, 0, none⟩)) rfl rfl (by kernel_rfl) (by kernel_rfl) (by kernel_rfl) (fun _ _ _ h => h) (Or.inl ⟨by rfl, by intro w' hSw; (try dsimp only at hSw); go_simp⟩) (by assumption) ?_; (try simp only [List.setIfInBounds_toArray, List.set_cons_zero, List.set_cons_succ])
      refine take17 (i := 1) (d := 23) (v := .pointer (some ⟨sb, 0, none⟩)) rfl rfl (by kernel_rfl) (by kernel_rfl) (by kernel_rfl) (fun _ _ _ h => h) (Or.inl ⟨by rfl, by intro w' hSw; (try dsimp only at hSw); go_simp⟩) (by assumption) ?_; (try simp only [List.setIfInBounds_toArray, List.set_cons_zero, List.set_cons_succ])
      refine take17 (i := 2) (d := 24) (v := .pointer (some ⟨sb, 0, none⟩)) rfl rfl (by kernel_rfl) (by kernel_rfl) (by kernel_rfl) (fun _ _ _ h => h) (Or.inl ⟨by rfl, by intro w' hSw; (try dsimp only at hSw); go_simp⟩) (by assumption) ?_; (try simp only [List.setIfInBounds_toArray, List.set_cons_zero, List.set_cons_succ])
      refine take17 (i := 3) (d := 25) (v := .map (some mb)) rfl rfl (by kernel_rfl) (by kernel_rfl) (by kernel_rfl) (fun _ _ _ h => h) (Or.inl ⟨by rfl, by intro w' hSw; (try dsimp only at hSw); obtain ⟨s0, s1, sl⟩ := unhide SK w' hSw; go_simp⟩) (by assumption) ?_; (try simp only [List.setIfInBounds_toArray, List.set_cons_zero, List.set_cons_succ])
      refine take17 (i := 4) (d := 26) (v := .pointer (some ⟨xb, 1, none⟩)) rfl rfl (by kernel_rfl) (by kernel_rfl) (by kernel_rfl) (fun _ _ _ h => h) (Or.inl ⟨by rfl, by intro w' hSw; (try dsimp only at hSw); go_simp⟩) (by assumption) ?_; (try simp only [List.setIfInBounds_toArray, List.set_cons_zero, List.set_cons_succ])
      refine take17 (i := 5) (d := 27) (v := .int .i64 gr) rfl rfl (by kernel_rfl) (by kernel_rfl) (by kernel_rfl) (fun _ _ _ h => h) (Or.inl ⟨by rfl, by intro w' hSw; (try dsimp only at hSw); obtain ⟨s0, s1, sl⟩ := unhide SK w' hSw; go_simp⟩) (by assumption) ?_; (try simp only [List.setIfInBounds_toArray, List.set_cons_zero, List.set_cons_succ])
      refine take17 (i := 6) (d := 28) (v := .agg #[.int .i64 tg, .slice sa tn tc, .int .i64 o0, .int .i64 o1, .int .i64 o2, .int .i64 o3]) rfl rfl (by kernel_rfl) (by kernel_rfl) (by kernel_rfl) (fun _ _ _ h => h) (Or.inl ⟨by rfl, by intro w' hSw; (try dsimp only at hSw); obtain ⟨s0, s1, sl⟩ := unhide SK w' hSw; go_simp⟩) (by assumption) ?_; (try simp only [List.setIfInBounds_toArray, List.set_cons_zero, List.set_cons_succ])
      refine wpAnyH_ready (rs := [7]) (by kernel_rfl) (by simp) ?_
      refine AllReadyH.cons rfl (fun K hK => ?_) AllReadyH.nil
      go_simp
      have b3 : Below w2.heap.size w2 (w2.drew.alloc (.cells #[.int .i64 0, .slice none 0 0, .int .i64 0, .int .i64 0, .int .i64 0, .int .i64 0] 61)) := ((Below.refl _ _).drew).alloc (Nat.le_refl _) _
      have HTB := hide (heap_new w2.drew (.cells #[.int .i64 0, .slice none 0 0, .int .i64 0, .int .i64 0, .int .i64 0, .int .i64 0] 61))
      have HB3 := hide b3
      refine hK.out _ _ b3 (fun hHeld => ?_)
      clear hK K b3
      (try simp only [Act.put, List.setIfInBounds_toArray, List.set_cons_zero, List.set_cons_succ])
      change wpAnyH _ _ _ _ _ _ _ _ (w2.drew.alloc (.cells #[.int .i64 0, .slice none 0 0, .int .i64 0, .int .i64 0, .int .i64 0, .int .i64 0] 61))
      have hdz : w2.drew.heap.size = w2.heap.size := rfl
      rw [hdz] at HTB
      clear hdz
      generalize w2.drew.alloc (.cells #[.int .i64 0, .slice none 0 0, .int .i64 0, .int .i64 0, .int .i64 0, .int .i64 0] 61) = w3 at *
      refine wpAnyH_ready (rs := [8]) (by kernel_rfl) (by simp) ?_
      refine AllReadyH.cons rfl (fun K hK => ?_) AllReadyH.nil
      rw [if_pos (by rfl)]
      obtain ⟨q1, q2⟩ := heap_setCells [.int .i64 tg, .slice sa tn tc, .int .i64 o0, .int .i64 o1, .int .i64 o2, .int .i64 o3] 0 w3 _ (unhide HTB)
      have HTB4 : Hid ((w3.setCells w2.heap.size 0 [.int .i64 tg, .slice sa tn tc, .int .i64 o0, .int .i64 o1, .int .i64 o2, .int .i64 o3]).heap[w2.heap.size]? = some (.cells #[.int .i64 tg, .slice sa tn tc, .int .i64 o0, .int .i64 o1, .int .i64 o2, .int .i64 o3] 61)) := hide q1
      have HB4 := hide (below_touch (unhide HB3) q2 (unhide HB3).size (fun k hk => by omega))
      refine wp_store_mid 61 (.tmp 6) (.tmp 28) rfl w2.heap.size 0 #[.int .i64 tg, .slice sa tn tc, .int .i64 o0, .int .i64 o1, .int .i64 o2, .int .i64 o3] rfl rfl (there_of (unhide HTB) (by show 0 + 6 ≤ 6; decide)) (by kernel_rfl) (by simp [Value.oneCell']) ?_
      refine hK.out _ _ (unhide HB4) (fun hHeld => ?_)
      clear hK K q1 q2 HTB HB3
      (try simp only [Act.put, List.setIfInBounds_toArray])
      change wpAnyH _ _ _ _ _ _ _ _ (w3.setCells w2.heap.size 0 [.int .i64 tg, .slice sa tn tc, .int .i64 o0, .int .i64 o1, .int .i64 o2, .int .i64 o3])
      generalize w3.setCells w2.heap.size 0 [.int .i64 tg, .slice sa tn tc, .int .i64 o0, .int .i64 o1, .int .i64 o2, .int .i64 o3] = w4 at *
      refine wpAnyH_done (by kernel_rfl) ?_ _
      have HXT : Hid (xb ≠ w2.heap.size) := hide (by have := lt_of_heap (unhide HX); omega)
      clear hHeld SK H2 HX T2 I2
      generalize hn : w2.heap.size = tb at *
      have HN := hide hn
      clear hn
      have x0 := cell_of (unhide KX _ (unhide HB4)) 0
      have x2 := cell_of (unhide KX _ (unhide HB4)) 2
      have u0 := cell_of (unhide HTB4) 0
      simp at x0 x2 u0
      clear x2 u0
      go_upto_region 7 with fail
      clear x0
      have hd5 : Below w4.heap.size w4 w4.drew := (Below.refl _ _).drew
      have HTB5 := hide (below_keep hd5 (unhide HTB4))
      have HB5 : Hid (Below tb w2 w4.drew) := hide (unhide HB4).drew
      have HX5 := hide (unhide KX _ (unhide HB5))
      clear HTB4 HB4 hd5
      refine wp_region_held_drew (S := fun w' => w'.heap[xb]? = some (.cells #[.int .i64 2, .int .i64 gr, .int .i64 gen, .slice a l.length k, .int .i64 3, .int .i64 off] 29)) (by kernel_rfl) (unhide HX5) (fun hHeld => ?_)
      generalize w4.drew = w5 at *
      refine take17 (i := 0) (d := 33) (v := .pointer (some ⟨xb, 4, none⟩)) rfl rfl (by kernel_rfl) (by kernel_rfl) (by kernel_rfl) (fun _ _ _ h => h) (Or.inl ⟨by rfl, by intro w' hSw; (try dsimp only at hSw); go_simp⟩) (by assumption) ?_; (try simp only [List.setIfInBounds_toArray, List.set_cons_zero, List.set_cons_succ])
      refine take17 (i := 1) (d := 34) (v := .int .i64 3) rfl rfl (by kernel_rfl) (by kernel_rfl) (by kernel_rfl) (fun _ _ _ h => h) (Or.inl ⟨by rfl, by intro w' hSw; (try dsimp only at hSw); have y4 := cell_of hSw 4; simp at y4; go_simp⟩) (by assumption) ?_; (try simp only [List.setIfInBounds_toArray, List.set_cons_zero, List.set_cons_succ])
      refine take17 (i := 2) (d := 35) (v := .pointer (some ⟨xb, 4, none⟩)) rfl rfl (by kernel_rfl) (by kernel_rfl) (by kernel_rfl) (fun _ _ _ h => h) (Or.inl ⟨by rfl, by intro w' hSw; (try dsimp only at hSw); go_simp⟩) (by assumption) ?_; (try simp only [List.setIfInBounds_toArray, List.set_cons_zero, List.set_cons_succ])
      refine take17 (i := 3) (d := 36) (v := .int .i64 3) rfl rfl (by kernel_rfl) (by kernel_rfl) (by kernel_rfl) (fun _ _ _ h => h) (Or.inl ⟨by rfl, by intro w' hSw; (try dsimp only at hSw); have y4 := cell_of hSw 4; simp at y4; go_simp⟩) (by assumption) ?_; (try simp only [List.setIfInBounds_toArray, List.set_cons_zero, List.set_cons_succ])
      refine take17 (i := 4) (d := 37) (v := .pointer (some ⟨tb, 2, none⟩)) rfl rfl (by kernel_rfl) (by kernel_rfl) (by kernel_rfl) (fun _ _ _ h => h) (Or.inl ⟨by rfl, by intro w' hSw; (try dsimp only at hSw); go_simp⟩) (by assumption) ?_; (try simp only [List.setIfInBounds_toArray, List.set_cons_zero, List.set_cons_succ])
      refine take17 (i := 5) (d := 38) (v := .pointer (some ⟨tb, 5, none⟩)) rfl rfl (by kernel_rfl) (by kernel_rfl) (by kernel_rfl) (fun _ _ _ h => h) (Or.inl ⟨by rfl, by intro w' hSw; (try dsimp only at hSw); go_simp⟩) (by assumption) ?_; (try simp only [List.setIfInBounds_toArray, List.set_cons_zero, List.set_cons_succ])
      refine take17 (i := 7) (d := 40) (v := .pointer (some ⟨xb, 5, none⟩)) rfl rfl (by kernel_rfl) (by kernel_rfl) (by kernel_rfl) (fun _ _ _ h => h) (Or.inl ⟨by rfl, by intro w' hSw; (try dsimp only at hSw); go_simp⟩) (by assumption) ?_; (try simp only [List.setIfInBounds_toArray, List.set_cons_zero, List.set_cons_succ])
      refine take17 (i := 8) (d := 41) (v := .int .i64 off) rfl rfl (by kernel_rfl) (by kernel_rfl) (by kernel_rfl) (fun _ _ _ h => h) (Or.inl ⟨by rfl, by intro w' hSw; (try dsimp only at hSw); have y5 := cell_of hSw 5; simp at y5; go_simp⟩) (by assumption) ?_; (try simp only [List.setIfInBounds_toArray, List.set_cons_zero, List.set_cons_succ])
      refine take17 (i := 10) (d := 43) (v := .pointer (some ⟨tb, 2, none⟩)) rfl rfl (by kernel_rfl) (by kernel_rfl) (by kernel_rfl) (fun _ _ _ h => h) (Or.inl ⟨by rfl, by intro w' hSw; (try dsimp only at hSw); go_simp⟩) (by assumption) ?_; (try simp only [List.setIfInBounds_toArray, List.set_cons_zero, List.set_cons_succ])
      have zt : w5.cell? ⟨tb, 5, none⟩ = some (.int .i64 o3) := cell_of (unhide HTB5) 5
      refine wpAnyH_ready (rs := [6]) (by kernel_rfl) (by simp) ?_
      refine AllReadyH.cons rfl (fun K hK => ?_) AllReadyH.nil
      go_simp
      refine hK.out _ _ (by assumption) (fun hHeld => ?_)
      clear hK K
      (try simp only [Act.put, List.setIfInBounds_toArray, List.set_cons_zero, List.set_cons_succ])
      refine take17 (i := 9) (d := 42) (v := .int .i64 (max o3 off)) rfl rfl (by kernel_rfl) (by kernel_rfl) (by kernel_rfl) (fun _ _ _ h => h) (Or.inl ⟨by rfl, by intro w' hSw; (try dsimp only at hSw); go_simp⟩) (by assumption) ?_; (try simp only [List.setIfInBounds_toArray, List.set_cons_zero, List.set_cons_succ])
      refine take17 (i := 11) (d := 44) (v := .pointer (some ⟨tb, 5, none⟩)) rfl rfl (by kernel_rfl) (by kernel_rfl) (by kernel_rfl) (fun _ _ _ h => h) (Or.inl ⟨by rfl, by intro w' hSw; (try dsimp only at hSw); go_simp⟩) (by assumption) ?_; (try simp only [List.setIfInBounds_toArray, List.set_cons_zero, List.set_cons_succ])
      have ft : w5.frozen? ⟨tb, 5, none⟩ = false := frozen_of (unhide HTB5) 5
      have tt := touch_set w5 tb 5 (.int .i64 (max o3 off))
      have HTB6 := hide (heap_set (unhide HTB5) 5 (.int .i64 (max o3 off)))
      have HX6 := hide (tt.keep (unhide HX5) (unhide HXT))
      have HB6 := hide (below_touch (unhide HB5) tt (by have h1 := (unhide HB5).size; have h2 := unhide HN; omega) (fun k hk => by omega))
      clear tt HTB5 HX5 HB5
      refine wpAnyH_ready (rs := [12]) (by kernel_rfl) (by simp) ?_
      refine AllReadyH.cons rfl (fun K hK => ?_) AllReadyH.nil
      go_simp
      refine hK.out _ _ (unhide HX6) (fun hHeld => ?_)
      clear hK K zt ft HX6
      (try simp only [Act.put, List.setIfInBounds_toArray])
      generalize w5.setCell ⟨tb, 5, none⟩ (.int .i64 (max o3 off)) = w6 at *
      refine wpAnyH_done (by kernel_rfl) ?_ _
      clear hHeld
      go_upto_region 10 with fail
      have HB7 : Hid (Below tb w2 w6.drew) := hide (unhide HB6).drew
      have HTB7 := hide (below_keep ((Below.refl w6.heap.size w6).drew) (unhide HTB6))
      have H7 := hide (unhide KH _ (unhide HB7))
      have HX7 := hide (unhide KX _ (unhide HB7))
      clear HB6 HTB6
      obtain ⟨w8, hst, hm8, ht8⟩ := (unhide H7).map1.1.store (M := gK) (s := gr) (Nat.lt_of_le_of_lt (unhide H7).few (unhide HC)) (key_wf (unhide HR)) ⟨tg, tgb, tn, tc, o0, o1, o2, (max o3 off)⟩
      have hst' : (Instr.mapUpdate 49 (.map (some mb)) (.int .i64 gr) (.agg #[.int .i64 tg, .slice sa tn tc, .int .i64 o0, .int .i64 o1, .int .i64 o2, .int .i64 (max o3 off)])).run Try.prog w6.drew = .ok () w8 := by
        rw [← unhide HSA]
        exact hst
      have nsb : sb ≠ mb := fun e => by
        obtain ⟨es, ck, h1⟩ := (unhide H7).map1.1.block
        rw [← e, (unhide H7).obj] at h1
        cases h1
      have nxb : xb ≠ mb := fun e => by
        obtain ⟨es, ck, h1⟩ := (unhide H7).map1.1.block
        rw [← e, unhide HX7] at h1
        cases h1
      have ntb : tb ≠ mb := fun e => by
        obtain ⟨es, ck, h1⟩ := (unhide H7).map1.1.block
        rw [← e, unhide HTB7] at h1
        cases h1
      have TA7 : TmA w6.drew ⟨tg, tgb, tn, tc, o0, o1, o2, (max o3 off)⟩ (gaPut ⟨2, gr, gen, l, 3, off⟩ (A gr)) := by
        have q := unhide KA _ (unhide HB7)
        have qi := unhide KI _ (unhide HB7)
        have e0 := q.o0
        have e1 := q.o1
        have e2 := q.o2
        have e3 := q.o3
        simp only at e0 e1 e2 e3
        unfold gaPut
        simp only [if_true]
        refine ⟨q.gen, q.n, q.l, ?_, ?_, ?_, ?_, q.few⟩ <;> simp [e0, e1, e2, e3]
      have F8 : Hid (HdQ B w sb none c A ⟨2, gr, gen, l, 3, off⟩ (.returned (.tuple #[])) w8) := hide (hd_end (unhide H7) (unhide HMB) (unhide KT _ (unhide HB7)) hm8 ht8 nsb TA7)
      have S8 : Hid (w8.cell? ⟨sb, 0, none⟩ = some (.map (some mb)) ∧ w8.heap[xb]? = some (.cells #[.int .i64 2, .int .i64 gr, .int .i64 gen, .slice a l.length k, .int .i64 3, .int .i64 off] 29) ∧ w8.heap[tb]? = some (.cells #[.int .i64 tg, .slice sa tn tc, .int .i64 o0, .int .i64 o1, .int .i64 o2, .int .i64 (max o3 off)] 61)) := hide ⟨cell_of (ht8.keep (unhide H7).obj nsb) 0, ht8.keep (unhide HX7) nxb, ht8.keep (unhide HTB7) ntb⟩
      have S7 : Hid (w6.drew.cell? ⟨sb, 0, none⟩ = some (.map (some mb)) ∧ w6.drew.heap[xb]? = some (.cells #[.int .i64 2, .int .i64 gr, .int .i64 gen, .slice a l.length k, .int .i64 3, .int .i64 off] 29) ∧ w6.drew.heap[tb]? = some (.cells #[.int .i64 tg, .slice sa tn tc, .int .i64 o0, .int .i64 o1, .int .i64 o2, .int .i64 (max o3 off)] 61)) := hide ⟨cell_of (unhide H7).obj 0, unhide HX7, unhide HTB7⟩
      clear hst hm8 ht8 nsb nxb ntb H7 HX7 HTB7 HB7 TA7 KH KX KT KA KI HMB
      refine wp_region_held_drew (S := fun w' => w'.cell? ⟨sb, 0, none⟩ = some (.map (some mb)) ∧ w'.heap[xb]? = some (.cells #[.int .i64 2, .int .i64 gr, .int .i64 gen, .slice a l.length k, .int .i64 3, .int .i64 off] 29) ∧ w'.heap[tb]? = some (.cells #[.int .i64 tg, .slice sa tn tc, .int .i64 o0, .int .i64 o1, .int .i64 o2, .int .i64 (max o3 off)] 61)) (by kernel_rfl) (unhide S7) (fun hHeld => ?_)
      clear S7
      generalize w6.drew = w7 at *
      refine take17 (i := 0) (d := 57) (v := .pointer (some ⟨sb, 0, none⟩)) rfl rfl (by kernel_rfl) (by kernel_rfl) (by kernel_rfl) (fun _ _ _ h => h) (Or.inl ⟨by rfl, by intro w' hSw; (try dsimp only at hSw); go_simp⟩) (by assumption) ?_; (try simp only [List.setIfInBounds_toArray, List.set_cons_zero, List.set_cons_succ])
      refine take17 (i := 1) (d := 58) (v := .pointer (some ⟨sb, 0, none⟩)) rfl rfl (by kernel_rfl) (by kernel_rfl) (by kernel_rfl) (fun _ _ _ h => h) (Or.inl ⟨by rfl, by intro w' hSw; (try dsimp only at hSw); go_simp⟩) (by assumption) ?_; (try simp only [List.setIfInBounds_toArray, List.set_cons_zero, List.set_cons_succ])
      refine take17 (i := 2) (d := 59) (v := .pointer (some ⟨sb, 0, none⟩)) rfl rfl (by kernel_rfl) (by kernel_rfl) (by kernel_rfl) (fun _ _ _ h => h) (Or.inl ⟨by rfl, by intro w' hSw; (try dsimp only at hSw); go_simp⟩) (by assumption) ?_; (try simp only [List.setIfInBounds_toArray, List.set_cons_zero, List.set_cons_succ])
      refine take17 (i := 3) (d := 60) (v := .map (some mb)) rfl rfl (by kernel_rfl) (by kernel_rfl) (by kernel_rfl) (fun _ _ _ h => h) (Or.inl ⟨by rfl, by intro w' hSw; (try dsimp only at hSw); obtain ⟨s0, s1, s2⟩ := hSw; go_simp⟩) (by assumption) ?_; (try simp only [List.setIfInBounds_toArray, List.set_cons_zero, List.set_cons_succ])
      refine take17 (i := 4) (d := 61) (v := .pointer (some ⟨xb, 1, none⟩)) rfl rfl (by kernel_rfl) (by kernel_rfl) (by kernel_rfl) (fun _ _ _ h => h) (Or.inl ⟨by rfl, by intro w' hSw; (try dsimp only at hSw); go_simp⟩) (by assumption) ?_; (try simp only [List.setIfInBounds_toArray, List.set_cons_zero, List.set_cons_succ])
      refine take17 (i := 5) (d := 62) (v := .int .i64 gr) rfl rfl (by kernel_rfl) (by kernel_rfl) (by kernel_rfl) (fun _ _ _ h => h) (Or.inl ⟨by rfl, by intro w' hSw; (try dsimp only at hSw); obtain ⟨s0, s1, s2⟩ := hSw; have y1 := cell_of s1 1; simp at y1; go_simp⟩) (by assumption) ?_; (try simp only [List.setIfInBounds_toArray, List.set_cons_zero, List.set_cons_succ])
      refine take17 (i := 6) (d := 63) (v := .agg #[.int .i64 tg, .slice sa tn tc, .int .i64 o0, .int .i64 o1, .int .i64 o2, .int .i64 (max o3 off)]) rfl rfl (by kernel_rfl) (by kernel_rfl) (by kernel_rfl) (fun _ _ _ h => h) (Or.inl ⟨by rfl, by intro w' hSw; (try dsimp only at hSw); obtain ⟨s0, s1, s2⟩ := hSw; have q0 := cell_of s2 0; have q1 := cell_of s2 1; have q2 := cell_of s2 2; have q3 := cell_of s2 3; have q4 := cell_of s2 4; have q5 := cell_of s2 5; simp at q0 q1 q2 q3 q4 q5; go_simp⟩) (by assumption) ?_; (try simp only [List.setIfInBounds_toArray, List.set_cons_zero, List.set_cons_succ])
      refine wpAnyH_ready (rs := [7]) (by kernel_rfl) (by simp) ?_
      refine AllReadyH.cons rfl (fun K hK => ?_) AllReadyH.nil
      go_simp
      refine hK.out _ _ (unhide S8) (fun hHeld => ?_)
      clear hK K
      (try simp only [Act.put, List.setIfInBounds_toArray])
      refine wpAnyH_done (by kernel_rfl) ?_ _
      clear hHeld hst'
      go_wp2
      go_roundw
      case rel => exact .inr ⟨by go_num, F8⟩
      case measure => simp [intOf]
    · go_wp2
      go_returns
      exact unhide hh
set_option maxRecDepth 100000 in
set_option maxHeartbeats 8000000 in
theorem gold_none_new {B : Nat} {w : World} {sb c : Nat} {m : List (Int × Tm)} {A : Int → Ga} {gr gen pt off : Int} {l : List Int} {v : Value} (h : GP B w sb none m c A) (hv : OneS B w v ⟨1, gr, gen, l, pt, off⟩) (hr : 0 ≤ gr ∧ gr < 8) (hl : l.length ≤ 8) (hc : c < maxLen) (hB : B ≤ w.heap.size) (hgt : Newer (A gr) gen) :
    Calls Try.prog 18 #[.pointer (some ⟨sb, 0, none⟩), v] w fun e w' => HdQ B w sb none c A ⟨1, gr, gen, l, pt, off⟩ e w' := by
  obtain ⟨g, cv, og, a, k, ha, rfl, hw, hi, hg⟩ := hv
  have HA := hide ha
  have hi' : IAt w (adr og) l := by have q := hi; rw [ha] at q; exact q
  clear ha
  have y0 : w.cell? ⟨sb, 0, none⟩ = some (.map none) := cell_of h.obj 0
  have f0 : w.frozen? ⟨sb, 0, none⟩ = false := frozen_of h.obj 0
  have y2 : (w.alloc (.map #[] 0)).cell? ⟨sb, 0, none⟩ = some (.map none) := cell_of (heap_old _ h.obj) 0
  have f2 : (w.alloc (.map #[] 0)).frozen? ⟨sb, 0, none⟩ = false := frozen_of (heap_old _ h.obj) 0
  have hmm := @run_makeMap Try.prog
  have H := hide h
  have HW := hide hw
  have HI := hide hi'
  have HB := hide hB
  have HR := hide hr
  have HL := hide hl
  have HC := hide hc
  have HGT := hide hgt
  have hq : ∀ (W : World) (b : Nat), (binOp .eql 49 (.map (some b)) (.map none)).run Try.prog W = .ok (.bool false) W := fun _ _ => by kernel_rfl
  have hq0 : ∀ (W : World), (binOp .eql 49 (.map none) (.map none)).run Try.prog W = .ok (.bool true) W := fun _ => by kernel_rfl
  clear h hw hg hB hi hi' hr hl hc hgt
  go_enter Try.func18, Try.ntmps18
  go_upto_region 2 with fail
  have b1 := (Below.refl w.heap.size w).alloc (Nat.le_refl _) (.map #[] 0)
  have tsb := touch_set (w.alloc (.map #[] 0)) sb 0 (.map (some w.heap.size))
  have hsb := lt_of_heap (unhide H).obj
  have hob := heap_set (heap_old (.map #[] 0) (unhide H).obj) 0 (.map (some w.heap.size))
  have T1 : Hid (Touch (TP sb none w) w ((w.alloc (.map #[] 0)).setCell ⟨sb, 0, none⟩ (.map (some w.heap.size)))) := hide ((Touch.of_below b1).trans (tsb.mono (fun k hk => .inl hk)))
  have H1 : Hid (GP B ((w.alloc (.map #[] 0)).setCell ⟨sb, 0, none⟩ (.map (some w.heap.size))) sb (some w.heap.size) m c A) := hide ⟨hob, .inr ⟨w.heap.size, rfl, by rw [(unhide H).none]; exact (MM.made gK w).keep tsb (fun h => by omega), unhide HB⟩, fun q => ((unhide H).team q).keep (unhide T1) (unhide H).odd, (unhide H).few, (unhide H).hb⟩
  have I1 : Hid (IAt ((w.alloc (.map #[] 0)).setCell ⟨sb, 0, none⟩ (.map (some w.heap.size))) (adr og) l) := hide ((unhide HI).odd (unhide T1) (unhide H).odd)
  have W1 : Hid (Wide ((w.alloc (.map #[] 0)).setCell ⟨sb, 0, none⟩ (.map (some w.heap.size))) 29 6 (.slice (some ⟨g, 0, none⟩) 1 cv) 1 [.int .i64 1, .int .i64 gr, .int .i64 gen, .slice a l.length k, .int .i64 pt, .int .i64 off]) := hide (((unhide HW).later b1).keep tsb (fun q hq e => by
      obtain ⟨cs, h1⟩ := (unhide HW).heap hq
      rw [e, (unhide H).obj] at h1
      exact absurd (Obj.cells.inj (Option.some.inj h1)).2.1 (by decide)))
  have HMB : Hid (Grew none w w.heap.size) := hide (.inr (Nat.le_refl _))
  clear y0 y2 f0 f2 hmm b1 tsb hsb hob H HW HI
  generalize (w.alloc (.map #[] 0)).setCell ⟨sb, 0, none⟩ (.map (some w.heap.size)) = w1 at *
  obtain ⟨mb, hmb⟩ : ∃ mb, mb = w.heap.size := ⟨_, rfl⟩
  rw [← hmb] at H1
  have HMB' : Hid (Grew none w mb) := hide (.inr (Nat.le_of_eq hmb.symm))
  clear HMB
  have HMB := HMB'
  clear HMB' hmb
  go_wp2_with fail
  go_loopw [18] (fun iv wr => (iv = .int .i64 0 ∧ wr = w1) ∨ (iv = .int .i64 1 ∧ Hid (HdQ B w sb none c A ⟨1, gr, gen, l, pt, off⟩ (.returned (.tuple #[])) wr))) (fun iv _ => 1 - (intOf iv).toNat)
  case atStart => exact .inl ⟨rfl, rfl⟩
  case round =>
    rcases hrel with ⟨rfl, rfl⟩ | ⟨rfl, hh⟩
    · obtain ⟨a', cap, ev, _, _, _, _, hcx⟩ := (unhide W1).parts
      obtain ⟨g', ea, _, hcell, _⟩ := hcx (by omega)
      injection ev with e1 e2 e3
      rw [ea] at e1
      cases e1
      have z0 := hcell 0 (by omega)
      have z1 := hcell 1 (by omega)
      have z2 := hcell 2 (by omega)
      have z3 := hcell 3 (by omega)
      have z4 := hcell 4 (by omega)
      have z5 := hcell 5 (by omega)
      simp only [List.getElem?_cons_zero, List.getElem?_cons_succ] at z0 z1 z2 z3 z4 z5
      clear hcell hcx ea e2 e3
      go_upto_region 5 with fail
      have b2 := (Below.refl wr.heap.size wr).alloc (Nat.le_refl _) (.cells #[.int .i64 1, .int .i64 gr, .int .i64 gen, .slice a l.length k, .int .i64 pt, .int .i64 off] 29)
      have HX := hide (heap_new wr (.cells #[.int .i64 1, .int .i64 gr, .int .i64 gen, .slice a l.length k, .int .i64 pt, .int .i64 off] 29))
      have H2 := hide ((unhide H1).later b2)
      have I2 := hide ((unhide I1).later b2)
      have T2 := hide ((unhide T1).trans (Touch.of_below b2))
      clear b2 H1 W1 T1 I1 z0 z1 z2 z3 z4 z5
      change Code.wp _ _ _ _ (wr.alloc (.cells #[.int .i64 1, .int .i64 gr, .int .i64 gen, .slice a l.length k, .int .i64 pt, .int .i64 off] 29))
      generalize wr.alloc (.cells #[.int .i64 1, .int .i64 gr, .int .i64 gen, .slice a l.length k, .int .i64 pt, .int .i64 off] 29) = w2 at *
      generalize wr.heap.size = xb at *
      obtain ⟨T, hT⟩ : ∃ T, T = mgot gK (matx m gr) := ⟨_, rfl⟩
      have HTA := hide ((unhide H2).team gr)
      have LK : Hid (∀ W, Below w2.heap.size w2 W → (Instr.lookup 49 (.map (some mb)) (.int .i64 gr) false).run Try.prog W = .ok (tmV T) W) := hide (fun W hb => by
        have := ((unhide H2).later hb).look (unhide HR)
        rw [hT]
        exact this)
      rw [← hT] at HTA
      clear hT
      obtain ⟨tg, tgb, tn, tc, o0, o1, o2, o3⟩ := T
      unfold tmV tmC at LK
      simp only at LK
      have KH : Hid (∀ W, Below w2.heap.size w2 W → GP B W sb (some mb) m c A) := hide (fun W hb => (unhide H2).later hb)
      have KX : Hid (∀ W, Below w2.heap.size w2 W → W.heap[xb]? = some (.cells #[.int .i64 1, .int .i64 gr, .int .i64 gen, .slice a l.length k, .int .i64 pt, .int .i64 off] 29)) := hide (fun W hb => below_keep hb (unhide HX))
      have KT : Hid (∀ W, Below w2.heap.size w2 W → Touch (TP sb none w) w W) := hide (fun W hb => (unhide T2).trans (Touch.of_below hb))
      have KA : Hid (∀ W, Below w2.heap.size w2 W → TmA W ⟨tg, tgb, tn, tc, o0, o1, o2, o3⟩ (A gr)) := hide (fun W hb => (unhide HTA).keep (Touch.of_below (S := fun _ => False) hb) (fun _ h => h.elim))
      have KI : Hid (∀ W, Below w2.heap.size w2 W → IAt W (adr og) l) := hide (fun W hb => (unhide I2).later hb)
      have HG := hide (unhide HTA).gen
      generalize hsa : Option.map (fun g => (⟨g, 0, none⟩ : Addr)) tgb = sa at *
      have HSA := hide hsa
      clear hsa
      have SK : Hid (∀ W, Below w2.heap.size w2 W → W.cell? ⟨sb, 0, none⟩ = some (.map (some mb)) ∧ W.cell? ⟨xb, 1, none⟩ = some (.int .i64 gr) ∧ (Instr.lookup 49 (.map (some mb)) (.int .i64 gr) false).run Try.prog W = .ok (.agg #[.int .i64 tg, .slice sa tn tc, .int .i64 o0, .int .i64 o1, .int .i64 o2, .int .i64 o3]) W) := hide (fun W hb => ⟨cell_of (below_keep hb (unhide H2).obj) 0, cell_of (below_keep hb (unhide HX)) 1, unhide LK W hb⟩)
      clear LK HTA
      refine wp_region_held_drew (S := fun w' => Below w2.heap.size w2 w') (by kernel_rfl) ((Below.refl _ _).drew) (fun hHeld => ?_)
      refine take17 (i := 0) (d := 22) (v := .pointer (some ⟨sb, 0, none⟩)) rfl rfl (by kernel_rfl) (by kernel_rfl) (by kernel_rfl) (fun _ _ _ h => h) (Or.inl ⟨by rfl, by intro w' hSw; (try dsimp only at hSw); go_simp⟩) (by assumption) ?_; (try simp only [List.setIfInBounds_toArray, List.set_cons_zero, List.set_cons_succ])
      refine take17 (i := 1) (d := 23) (v := .pointer (some ⟨sb, 0, none⟩)) rfl rfl (by kernel_rfl) (by kernel_rfl) (by kernel_rfl) (fun _ _ _ h => h) (Or.inl ⟨by rfl, by intro w' hSw; (try dsimp only at hSw); go_simp⟩) (by assumption) ?_; (try simp only [List.setIfInBounds_toArray, List.set_cons_zero, List.set_cons_succ])
      refine take17 (i := 2) (d := 24) (v := .pointer (some ⟨sb, 0, none⟩)) rfl rfl (by kernel_rfl) (by kernel_rfl) (by kernel_rfl) (fun _ _ _ h => h) (Or.inl ⟨by rfl, by intro w' hSw; (try dsimp only at hSw); go_simp⟩) (by assumption) ?_; (try simp only [List.setIfInBounds_toArray, List.set_cons_zero, List.set_cons_succ])
      refine take17 (i := 3) (d := 25) (v := .map (some mb)) rfl rfl (by kernel_rfl) (by kernel_rfl) (by kernel_rfl) (fun _ _ _ h => h) (Or.inl ⟨by rfl, by intro w' hSw; (try dsimp only at hSw); obtain ⟨s0, s1, sl⟩ := unhide SK w' hSw; go_simp⟩) (by assumption) ?_; (try simp only [List.setIfInBounds_toArray, List.set_cons_zero, List.set_cons_succ])
      refine take17 (i := 4) (d := 26) (v := .pointer (some ⟨xb, 1, none⟩)) rfl rfl (by kernel_rfl) (by kernel_rfl) (by kernel_rfl) (fun _ _ _ h => h) (Or.inl ⟨by rfl, by intro w' hSw; (try dsimp only at hSw); go_simp⟩) (by assumption) ?_; (try simp only [List.setIfInBounds_toArray, List.set_cons_zero, List.set_cons_succ])
      refine take17 (i := 5) (d := 27) (v := .int .i64 gr) rfl rfl (by kernel_rfl) (by kernel_rfl) (by kernel_rfl) (fun _ _ _ h => h) (Or.inl ⟨by rfl, by intro w' hSw; (try dsimp only at hSw); obtain ⟨s0, s1, sl⟩ := unhide SK w' hSw; go_simp⟩) (by assumption) ?_; (try simp only [List.setIfInBounds_toArray, List.set_cons_zero, List.set_cons_succ])
      refine take17 (i := 6) (d := 28) (v := .agg #[.int .i64 tg, .slice sa tn tc, .int .i64 o0, .int .i64 o1, .int .i64 o2, .int .i64 o3]) rfl rfl (by kernel_rfl) (by kernel_rfl) (by kernel_rfl) (fun _ _ _ h => h) (Or.inl ⟨by rfl, by intro w' hSw; (try dsimp only at hSw); obtain ⟨s0, s1, sl⟩ := unhide SK w' hSw; go_simp⟩) (by assumption) ?_; (try simp only [List.setIfInBounds_toArray, List.set_cons_zero, List.set_cons_succ])
      refine wpAnyH_ready (rs := [7]) (by kernel_rfl) (by simp) ?_
      refine AllReadyH.cons rfl (fun K hK => ?_) AllReadyH.nil
      go_simp
      have b3 : Below w2.heap.size w2 (w2.drew.alloc (.cells #[.int .i64 0, .slice none 0 0, .int .i64 0, .int .i64 0, .int .i64 0, .int .i64 0] 61)) := ((Below.refl _ _).drew).alloc (Nat.le_refl _) _
      have HTB := hide (heap_new w2.drew (.cells #[.int .i64 0, .slice none 0 0, .int .i64 0, .int .i64 0, .int .i64 0, .int .i64 0] 61))
      have HB3 := hide b3
      refine hK.out _ _ b3 (fun hHeld => ?_)
      clear hK K b3
      (try simp only [Act.put, List.setIfInBounds_toArray, List.set_cons_zero, List.set_cons_succ])
      change wpAnyH _ _ _ _ _ _ _ _ (w2.drew.alloc (.cells #[.int .i64 0, .slice none 0 0, .int .i64 0, .int .i64 0, .int .i64 0, .int .i64 0] 61))
      have hdz : w2.drew.heap.size = w2.heap.size := rfl
      rw [hdz] at HTB
      clear hdz
      generalize w2.drew.alloc (.cells #[.int .i64 0, .slice none 0 0, .int .i64 0, .int .i64 0, .int .i64 0, .int .i64 0] 61) = w3 at *
      refine wpAnyH_ready (rs := [8]) (by kernel_rfl) (by simp) ?_
      refine AllReadyH.cons rfl (fun K hK => ?_) AllReadyH.nil
      rw [if_pos (by rfl)]
      obtain ⟨q1, q2⟩ := heap_setCells [.int .i64 tg, .slice sa tn tc, .int .i64 o0, .int .i64 o1, .int .i64 o2, .int .i64 o3] 0 w3 _ (unhide HTB)
      have HTB4 : Hid ((w3.setCells w2.heap.size 0 [.int .i64 tg, .slice sa tn tc, .int .i64 o0, .int .i64 o1, .int .i64 o2, .int .i64 o3]).heap[w2.heap.size]? = some (.cells #[.int .i64 tg, .slice sa tn tc, .int .i64 o0, .int .i64 o1, .int .i64 o2, .int .i64 o3] 61)) := hide q1
      have HB4 := hide (below_touch (unhide HB3) q2 (unhide HB3).size (fun k hk => by omega))
      refine wp_store_mid 61 (.tmp 6) (.tmp 28) rfl w2.heap.size 0 #[.int .i64 tg, .slice sa tn tc, .int .i64 o0, .int .i64 o1, .int .i64 o2, .int .i64 o3] rfl rfl (there_of (unhide HTB) (by show 0 + 6 ≤ 6; decide)) (by kernel_rfl) (by simp [Value.oneCell']) ?_
      refine hK.out _ _ (unhide HB4) (fun hHeld => ?_)
      clear hK K q1 q2 HTB HB3
      (try simp only [Act.put, List.setIfInBounds_toArray])
      change wpAnyH _ _ _ _ _ _ _ _ (w3.setCells w2.heap.size 0 [.int .i64 tg, .slice sa tn tc, .int .i64 o0, .int .i64 o1, .int .i64 o2, .int .i64 o3])
      generalize w3.setCells w2.heap.size 0 [.int .i64 tg, .slice sa tn tc, .int .i64 o0, .int .i64 o1, .int .i64 o2, .int .i64 o3] = w4 at *
      refine wpAnyH_done (by kernel_rfl) ?_ _
      have HXT : Hid (xb ≠ w2.heap.size) := hide (by have := lt_of_heap (unhide HX); omega)
      clear hHeld SK H2 HX T2 I2
      generalize hn : w2.heap.size = tb at *
      have HN := hide hn
      clear hn
      have x0 := cell_of (unhide KX _ (unhide HB4)) 0
      have x2 := cell_of (unhide KX _ (unhide HB4)) 2
      have u0 := cell_of (unhide HTB4) 0
      simp at x0 x2 u0
      have hdg : decide (tg < gen) = true := decide_eq_true (by have h1 := unhide HGT; unfold Newer at h1; have h2 := unhide HG; simp only at h2; omega)
      go_upto_region 9 with fail
      clear x0 x2 u0 hdg
      have hd5 : Below w4.heap.size w4 w4.drew := (Below.refl _ _).drew
      have HTB5 := hide (below_keep hd5 (unhide HTB4))
      have HB5 : Hid (Below tb w2 w4.drew) := hide (unhide HB4).drew
      have HX5 := hide (unhide KX _ (unhide HB5))
      clear HTB4 HB4 hd5
      refine wp_region_held_drew (S := fun w' => w'.heap[xb]? = some (.cells #[.int .i64 1, .int .i64 gr, .int .i64 gen, .slice a l.length k, .int .i64 pt, .int .i64 off] 29)) (by kernel_rfl) (unhide HX5) (fun hHeld => ?_)
      generalize w4.drew = w5 at *
      have ft0 : w5.frozen? ⟨tb, 0, none⟩ = false := frozen_of (unhide HTB5) 0
      have ft1 : w5.frozen? ⟨tb, 1, none⟩ = false := frozen_of (unhide HTB5) 1
      have zt0 : w5.cell? ⟨tb, 0, none⟩ = some (.int .i64 tg) := cell_of (unhide HTB5) 0
      have zt1 : w5.cell? ⟨tb, 1, none⟩ = some (.slice sa tn tc) := cell_of (unhide HTB5) 1
      refine take17 (i := 0) (d := 51) (v := .pointer (some ⟨xb, 2, none⟩)) rfl rfl (by kernel_rfl) (by kernel_rfl) (by kernel_rfl) (fun _ _ _ h => h) (Or.inl ⟨by rfl, by intro w' hSw; (try dsimp only at hSw); go_simp⟩) (by assumption) ?_; (try simp only [List.setIfInBounds_toArray, List.set_cons_zero, List.set_cons_succ])
      refine take17 (i := 1) (d := 52) (v := .int .i64 gen) rfl rfl (by kernel_rfl) (by kernel_rfl) (by kernel_rfl) (fun _ _ _ h => h) (Or.inl ⟨by rfl, by intro w' hSw; (try dsimp only at hSw); have y4 := cell_of hSw 2; simp at y4; go_simp⟩) (by assumption) ?_; (try simp only [List.setIfInBounds_toArray, List.set_cons_zero, List.set_cons_succ])
      refine take17 (i := 2) (d := 53) (v := .pointer (some ⟨xb, 3, none⟩)) rfl rfl (by kernel_rfl) (by kernel_rfl) (by kernel_rfl) (fun _ _ _ h => h) (Or.inl ⟨by rfl, by intro w' hSw; (try dsimp only at hSw); go_simp⟩) (by assumption) ?_; (try simp only [List.setIfInBounds_toArray, List.set_cons_zero, List.set_cons_succ])
      refine take17 (i := 3) (d := 54) (v := .slice a l.length k) rfl rfl (by kernel_rfl) (by kernel_rfl) (by kernel_rfl) (fun _ _ _ h => h) (Or.inl ⟨by rfl, by intro w' hSw; (try dsimp only at hSw); have y4 := cell_of hSw 3; simp at y4; go_simp⟩) (by assumption) ?_; (try simp only [List.setIfInBounds_toArray, List.set_cons_zero, List.set_cons_succ])
      refine take17 (i := 4) (d := 55) (v := .pointer (some ⟨tb, 0, none⟩)) rfl rfl (by kernel_rfl) (by kernel_rfl) (by kernel_rfl) (fun _ _ _ h => h) (Or.inl ⟨by rfl, by intro w' hSw; (try dsimp only at hSw); go_simp⟩) (by assumption) ?_; (try simp only [List.setIfInBounds_toArray, List.set_cons_zero, List.set_cons_succ])
      refine wpAnyH_ready (rs := [5]) (by kernel_rfl) (by simp) ?_
      refine AllReadyH.cons rfl (fun K hK => ?_) AllReadyH.nil
      have tt := touch_set w5 tb 0 (.int .i64 gen)
      have HTB5b := hide (heap_set (unhide HTB5) 0 (.int .i64 gen))
      have HX5b := hide (tt.keep (unhide HX5) (unhide HXT))
      have HB5b := hide (below_touch (unhide HB5) tt (by have h1 := (unhide HB5).size; have h2 := unhide HN; omega) (fun k hk => by omega))
      clear tt HTB5 HX5 HB5
      go_simp
      refine hK.out _ _ (unhide HX5b) (fun hHeld => ?_)
      clear hK K zt0 zt1 ft0 ft1
      (try simp only [Act.put, List.setIfInBounds_toArray])
      generalize w5.setCell ⟨tb, 0, none⟩ (.int .i64 gen) = w5b at *
      have ftb : w5b.frozen? ⟨tb, 1, none⟩ = false := frozen_of (unhide HTB5b) 1
      have ztb : w5b.cell? ⟨tb, 1, none⟩ = some (.slice sa tn tc) := cell_of (unhide HTB5b) 1
      have tt := touch_set w5b tb 1 (.slice a l.length k)
      have HTB6 := hide (heap_set (unhide HTB5b) 1 (.slice a l.length k))
      have HX6 := hide (tt.keep (unhide HX5b) (unhide HXT))
      have HB6 := hide (below_touch (unhide HB5b) tt (by have h1 := (unhide HB5b).size; have h2 := unhide HN; omega) (fun k hk => by omega))
      clear tt HTB5b HX5b HB5b
      refine take17 (i := 6) (d := 56) (v := .pointer (some ⟨tb, 1, none⟩)) rfl rfl (by kernel_rfl) (by kernel_rfl) (by kernel_rfl) (fun _ _ _ h => h) (Or.inl ⟨by rfl, by intro w' hSw; (try dsimp only at hSw); go_simp⟩) (by assumption) ?_; (try simp only [List.setIfInBounds_toArray, List.set_cons_zero, List.set_cons_succ])
      refine wpAnyH_ready (rs := [7]) (by kernel_rfl) (by simp) ?_
      refine AllReadyH.cons rfl (fun K hK => ?_) AllReadyH.nil
      go_simp
      refine hK.out _ _ (unhide HX6) (fun hHeld => ?_)
      clear hK K ftb ztb HX6
      (try simp only [Act.put, List.setIfInBounds_toArray])
      generalize w5b.setCell ⟨tb, 1, none⟩ (.slice a l.length k) = w6 at *
      refine wpAnyH_done (by kernel_rfl) ?_ _
      clear hHeld
      go_upto_region 10 with fail
      have HB7 : Hid (Below tb w2 w6.drew) := hide (unhide HB6).drew
      have HTB7 := hide (below_keep ((Below.refl w6.heap.size w6).drew) (unhide HTB6))
      have H7 := hide (unhide KH _ (unhide HB7))
      have HX7 := hide (unhide KX _ (unhide HB7))
      clear HB6 HTB6
      obtain ⟨w8, hst, hm8, ht8⟩ := (unhide H7).map1.1.store (M := gK) (s := gr) (Nat.lt_of_le_of_lt (unhide H7).few (unhide HC)) (key_wf (unhide HR)) ⟨gen, og, l.length, k, o0, o1, o2, o3⟩
      have hst' : (Instr.mapUpdate 49 (.map (some mb)) (.int .i64 gr) (.agg #[.int .i64 gen, .slice a l.length k, .int .i64 o0, .int .i64 o1, .int .i64 o2, .int .i64 o3])).run Try.prog w6.drew = .ok () w8 := by
        rw [unhide HA]
        exact hst
      have nsb : sb ≠ mb := fun e => by
        obtain ⟨es, ck, h1⟩ := (unhide H7).map1.1.block
        rw [← e, (unhide H7).obj] at h1
        cases h1
      have nxb : xb ≠ mb := fun e => by
        obtain ⟨es, ck, h1⟩ := (unhide H7).map1.1.block
        rw [← e, unhide HX7] at h1
        cases h1
      have ntb : tb ≠ mb := fun e => by
        obtain ⟨es, ck, h1⟩ := (unhide H7).map1.1.block
        rw [← e, unhide HTB7] at h1
        cases h1
      have TA7 : TmA w6.drew ⟨gen, og, l.length, k, o0, o1, o2, o3⟩ (gaPut ⟨1, gr, gen, l, pt, off⟩ (A gr)) := by
        have q := unhide KA _ (unhide HB7)
        have qi := unhide KI _ (unhide HB7)
        have hng : gen > (A gr).gen := unhide HGT
        unfold gaPut
        rw [if_neg (show ¬ ((1 : Int) = 2) by decide), if_pos hng]
        exact ⟨rfl, rfl, qi, q.o0, q.o1, q.o2, q.o3, unhide HL⟩
      have F8 : Hid (HdQ B w sb none c A ⟨1, gr, gen, l, pt, off⟩ (.returned (.tuple #[])) w8) := hide (hd_end (unhide H7) (unhide HMB) (unhide KT _ (unhide HB7)) hm8 ht8 nsb TA7)
      have S8 : Hid (w8.cell? ⟨sb, 0, none⟩ = some (.map (some mb)) ∧ w8.heap[xb]? = some (.cells #[.int .i64 1, .int .i64 gr, .int .i64 gen, .slice a l.length k, .int .i64 pt, .int .i64 off] 29) ∧ w8.heap[tb]? = some (.cells #[.int .i64 gen, .slice a l.length k, .int .i64 o0, .int .i64 o1, .int .i64 o2, .int .i64 o3] 61)) := hide ⟨cell_of (ht8.keep (unhide H7).obj nsb) 0, ht8.keep (unhide HX7) nxb, ht8.keep (unhide HTB7) ntb⟩
      have S7 : Hid (w6.drew.cell? ⟨sb, 0, none⟩ = some (.map (some mb)) ∧ w6.drew.heap[xb]? = some (.cells #[.int .i64 1, .int .i64 gr, .int .i64 gen, .slice a l.length k, .int .i64 pt, .int .i64 off] 29) ∧ w6.drew.heap[tb]? = some (.cells #[.int .i64 gen, .slice a l.length k, .int .i64 o0, .int .i64 o1, .int .i64 o2, .int .i64 o3] 61)) := hide ⟨cell_of (unhide H7).obj 0, unhide HX7, unhide HTB7⟩
      clear hst hm8 ht8 nsb nxb ntb H7 HX7 HTB7 HB7 TA7 KH KX KT KA KI HMB
      refine wp_region_held_drew (S := fun w' => w'.cell? ⟨sb, 0, none⟩ = some (.map (some mb)) ∧ w'.heap[xb]? = some (.cells #[.int .i64 1, .int .i64 gr, .int .i64 gen, .slice a l.length k, .int .i64 pt, .int .i64 off] 29) ∧ w'.heap[tb]? = some (.cells #[.int .i64 gen, .slice a l.length k, .int .i64 o0, .int .i64 o1, .int .i64 o2, .int .i64 o3] 61)) (by kernel_rfl) (unhide S7) (fun hHeld => ?_)
      clear S7
      generalize w6.drew = w7 at *
      refine take17 (i := 0) (d := 57) (v := .pointer (some ⟨sb, 0, none⟩)) rfl rfl (by kernel_rfl) (by kernel_rfl) (by kernel_rfl) (fun _ _ _ h => h) (Or.inl ⟨by rfl, by intro w' hSw; (try dsimp only at hSw); go_simp⟩) (by assumption) ?_; (try simp only [List.setIfInBounds_toArray, List.set_cons_zero, List.set_cons_succ])
      refine take17 (i := 1) (d := 58) (v := .pointer (some ⟨sb, 0, none⟩)) rfl rfl (by kernel_rfl) (by kernel_rfl) (by kernel_rfl) (fun _ _ _ h => h) (Or.inl ⟨by rfl, by intro w' hSw; (try dsimp only at hSw); go_simp⟩) (by assumption) ?_; (try simp only [List.setIfInBounds_toArray, List.set_cons_zero, List.set_cons_succ])
      refine take17 (i := 2) (d := 59) (v := .pointer (some ⟨sb, 0, none⟩)) rfl rfl (by kernel_rfl) (by kernel_rfl) (by kernel_rfl) (fun _ _ _ h => h) (Or.inl ⟨by rfl, by intro w' hSw; (try dsimp only at hSw); go_simp⟩) (by assumption) ?_; (try simp only [List.setIfInBounds_toArray, List.set_cons_zero, List.set_cons_succ])
      refine take17 (i := 3) (d := 60) (v := .map (some mb)) rfl rfl (by kernel_rfl) (by kernel_rfl) (by kernel_rfl) (fun _ _ _ h => h) (Or.inl ⟨by rfl, by intro w' hSw; (try dsimp only at hSw); obtain ⟨s0, s1, s2⟩ := hSw; go_simp⟩) (by assumption) ?_; (try simp only [List.setIfInBounds_toArray, List.set_cons_zero, List.set_cons_succ])
      refine take17 (i := 4) (d := 61) (v := .pointer (some ⟨xb, 1, none⟩)) rfl rfl (by kernel_rfl) (by kernel_rfl) (by kernel_rfl) (fun _ _ _ h => h) (Or.inl ⟨by rfl, by intro w' hSw; (try dsimp only at hSw); go_simp⟩) (by assumption) ?_; (try simp only [List.setIfInBounds_toArray, List.set_cons_zero, List.set_cons_succ])
      refine take17 (i := 5) (d := 62) (v := .int .i64 gr) rfl rfl (by kernel_rfl) (by kernel_rfl) (by kernel_rfl) (fun _ _ _ h => h) (Or.inl ⟨by rfl, by intro w' hSw; (try dsimp only at hSw); obtain ⟨s0, s1, s2⟩ := hSw; have y1 := cell_of s1 1; simp at y1; go_simp⟩) (by assumption) ?_; (try simp only [List.setIfInBounds_toArray, List.set_cons_zero, List.set_cons_succ])
      refine take17 (i := 6) (d := 63) (v := .agg #[.int .i64 gen, .slice a l.length k, .int .i64 o0, .int .i64 o1, .int .i64 o2, .int .i64 o3]) rfl rfl (by kernel_rfl) (by kernel_rfl) (by kernel_rfl) (fun _ _ _ h => h) (Or.inl ⟨by rfl, by intro w' hSw; (try dsimp only at hSw); obtain ⟨s0, s1, s2⟩ := hSw; have q0 := cell_of s2 0; have q1 := cell_of s2 1; have q2 := cell_of s2 2; have q3 := cell_of s2 3; have q4 := cell_of s2 4; have q5 := cell_of s2 5; simp at q0 q1 q2 q3 q4 q5; go_simp⟩) (by assumption) ?_; (try simp only [List.setIfInBounds_toArray, List.set_cons_zero, List.set_cons_succ])
      refine wpAnyH_ready (rs := [7]) (by kernel_rfl) (by simp) ?_
      refine AllReadyH.cons rfl (fun K hK => ?_) AllReadyH.nil
      go_simp
      refine hK.out _ _ (unhide S8) (fun hHeld => ?_)
      clear hK K
      (try simp only [Act.put, List.setIfInBounds_toArray])
      refine wpAnyH_done (by kernel_rfl) ?_ _
      clear hHeld hst'
      go_wp2
      go_roundw
      case rel => exact .inr ⟨by go_num, F8⟩
      case measure => simp [intOf]
    · go_wp2
      go_returns
      exact unhide hh
set_option maxRecDepth 100000 in
set_option maxHeartbeats 8000000 in
theorem gold_none_old {B : Nat} {w : World} {sb c : Nat} {m : List (Int × Tm)} {A : Int → Ga} {gr gen pt off : Int} {l : List Int} {v : Value} (h : GP B w sb none m c A) (hv : OneS B w v ⟨1, gr, gen, l, pt, off⟩) (hr : 0 ≤ gr ∧ gr < 8) (hl : l.length ≤ 8) (hc : c < maxLen) (hB : B ≤ w.heap.size) (hgt : ¬ Newer (A gr) gen) :
    Calls Try.prog 18 #[.pointer (some ⟨sb, 0, none⟩), v] w fun e w' => HdQ B w sb none c A ⟨1, gr, gen, l, pt, off⟩ e w' := by
  obtain ⟨g, cv, og, a, k, ha, rfl, hw, hi, hg⟩ := hv
  have HA := hide ha
  have hi' : IAt w (adr og) l := by have q := hi; rw [ha] at q; exact q
  clear ha
  have y0 : w.cell? ⟨sb, 0, none⟩ = some (.map none) := cell_of h.obj 0
  have f0 : w.frozen? ⟨sb, 0, none⟩ = false := frozen_of h.obj 0
  have y2 : (w.alloc (.map #[] 0)).cell? ⟨sb, 0, none⟩ = some (.map none) := cell_of (heap_old _ h.obj) 0
  have f2 : (w.alloc (.map #[] 0)).frozen? ⟨sb, 0, none⟩ = false := frozen_of (heap_old _ h.obj) 0
  have hmm := @run_makeMap Try.prog
  have H := hide h
  have HW := hide hw
  have HI := hide hi'
  have HB := hide hB
  have HR := hide hr
  have HL := hide hl
  have HC := hide hc
  have HGT := hide hgt
  have hq : ∀ (W : World) (b : Nat), (binOp .eql 49 (.map (some b)) (.map none)).run Try.prog W = .ok (.bool false) W := fun _ _ => by kernel_rfl
  have hq0 : ∀ (W : World), (binOp .eql 49 (.map none) (.map none)).run Try.prog W = .ok (.bool true) W := fun _ => by kernel_rfl
  clear h hw hg hB hi hi' hr hl hc hgt
  go_enter Try.func18, Try.ntmps18
  go_upto_region 2 with fail
  have b1 := (Below.refl w.heap.size w).alloc (Nat.le_refl _) (.map #[] 0)
  have tsb := touch_set (w.alloc (.map #[] 0)) sb 0 (.map (some w.heap.size))
  have hsb := lt_of_heap (unhide H).obj
  have hob := heap_set (heap_old (.map #[] 0) (unhide H).obj) 0 (.map (some w.heap.size))
  have T1 : Hid (Touch (TP sb none w) w ((w.alloc (.map #[] 0)).setCell ⟨sb, 0, none⟩ (.map (some w.heap.size)))) := hide ((Touch.of_below b1).trans (tsb.mono (fun k hk => .inl hk)))
  have H1 : Hid (GP B ((w.alloc (.map #[] 0)).setCell ⟨sb, 0, none⟩ (.map (some w.heap.size))) sb (some w.heap.size) m c A) := hide ⟨hob, .inr ⟨w.heap.size, rfl, by rw [(unhide H).none]; exact (MM.made gK w).keep tsb (fun h => by omega), unhide HB⟩, fun q => ((unhide H).team q).keep (unhide T1) (unhide H).odd, (unhide H).few, (unhide H).hb⟩
  have I1 : Hid (IAt ((w.alloc (.map #[] 0)).setCell ⟨sb, 0, none⟩ (.map (some w.heap.size))) (adr og) l) := hide ((unhide HI).odd (unhide T1) (unhide H).odd)
  have W1 : Hid (Wide ((w.alloc (.map #[] 0)).setCell ⟨sb, 0, none⟩ (.map (some w.heap.size))) 29 6 (.slice (some ⟨g, 0, none⟩) 1 cv) 1 [.int .i64 1, .int .i64 gr, .int .i64 gen, .slice a l.length k, .int .i64 pt, .int .i64 off]) := hide (((unhide HW).later b1).keep tsb (fun q hq e => by
      obtain ⟨cs, h1⟩ := (unhide HW).heap hq
      rw [e, (unhide H).obj] at h1
      exact absurd (Obj.cells.inj (Option.some.inj h1)).2.1 (by decide)))
  have HMB : Hid (Grew none w w.heap.size) := hide (.inr (Nat.le_refl _))
  clear y0 y2 f0 f2 hmm b1 tsb hsb hob H HW HI
  generalize (w.alloc (.map #[] 0)).setCell ⟨sb, 0, none⟩ (.map (some w.heap.size)) = w1 at *
  obtain ⟨mb, hmb⟩ : ∃ mb, mb = w.heap.size := ⟨_, rfl⟩
  rw [← hmb] at H1
  have HMB' : Hid (Grew none w mb) := hide (.inr (Nat.le_of_eq hmb.symm))
  clear HMB
  have HMB := HMB'
  clear HMB' hmb
  go_wp2_with fail
  go_loopw [18] (fun iv wr => (iv = .int .i64 0 ∧ wr = w1) ∨ (iv = .int .i64 1 ∧ Hid (HdQ B w sb none c A ⟨1, gr, gen, l, pt, off⟩ (.returned (.tuple #[])) wr))) (fun iv _ => 1 - (intOf iv).toNat)
  case atStart => exact .inl ⟨rfl, rfl⟩
  case round =>
    rcases hrel with ⟨rfl, rfl⟩ | ⟨rfl, hh⟩
    · obtain ⟨a', cap, ev, _, _, _, _, hcx⟩ := (unhide W1).parts
      obtain ⟨g', ea, _, hcell, _⟩ := hcx (by omega)
      injection ev with e1 e2 e3
      rw [ea] at e1
      cases e1
      have z0 := hcell 0 (by omega)
      have z1 := hcell 1 (by omega)
      have z2 := hcell 2 (by omega)
      have z3 := hcell 3 (by omega)
      have z4 := hcell 4 (by omega)
      have z5 := hcell 5 (by omega)
      simp only [List.getElem?_cons_zero, List.getElem?_cons_succ] at z0 z1 z2 z3 z4 z5
      clear hcell hcx ea e2 e3
      go_upto_region 5 with fail
      have b2 := (Below.refl wr.heap.size wr).alloc (Nat.le_refl _) (.cells #[.int .i64 1, .int .i64 gr, .int .i64 gen, .slice a l.length k, .int .i64 pt, .int .i64 off] 29)
      have HX := hide (heap_new wr (.cells #[.int .i64 1, .int .i64 gr, .int .i64 gen, .slice a l.length k, .int .i64 pt, .int .i64 off] 29))
      have H2 := hide ((unhide H1).later b2)
      have I2 := hide ((unhide I1).later b2)
      have T2 := hide ((unhide T1).trans (Touch.of_below b2))
      clear b2 H1 W1 T1 I1 z0 z1 z2 z3 z4 z5
      change Code.wp _ _ _ _ (wr.alloc (.cells #[.int .i64 1, .int .i64 gr, .int .i64 gen, .slice a l.length k, .int .i64 pt, .int .i64 off] 29))
      generalize wr.alloc (.cells #[.int .i64 1, .int .i64 gr, .int .i64 gen, .slice a l.length k, .int .i64 pt, .int .i64 off] 29) = w2 at *
      generalize wr.heap.size = xb at *
      obtain ⟨T, hT⟩ : ∃ T, T = mgot gK (matx m gr) := ⟨_, rfl⟩
      have HTA := hide ((unhide H2).team gr)
      have LK : Hid (∀ W, Below w2.heap.size w2 W → (Instr.lookup 49 (.map (some mb)) (.int .i64 gr) false).run Try.prog W = .ok (tmV T) W) := hide (fun W hb => by
        have := ((unhide H2).later hb).look (unhide HR)
        rw [hT]
        exact this)
      rw [← hT] at HTA
      clear hT
      obtain ⟨tg, tgb, tn, tc, o0, o1, o2, o3⟩ := T
      unfold tmV tmC at LK
      simp only at LK
      have KH : Hid (∀ W, Below w2.heap.size w2 W → GP B W sb (some mb) m c A) := hide (fun W hb => (unhide H2).later hb)
      have KX : Hid (∀ W, Below w2.heap.size w2 W → W.heap[xb]? = some (.cells #[.int .i64 1, .int .i64 gr, .int .i64 gen, .slice a l.length k, .int .i64 pt, .int .i64 off] 29)) := hide (fun W hb => below_keep hb (unhide HX))
      have KT : Hid (∀ W, Below w2.heap.size w2 W → Touch (TP sb none w) w W) := hide (fun W hb => (unhide T2).trans (Touch.of_below hb))
      have KA : Hid (∀ W, Below w2.heap.size w2 W → TmA W ⟨tg, tgb, tn, tc, o0, o1, o2, o3⟩ (A gr)) := hide (fun W hb => (unhide HTA).keep (Touch.of_below (S := fun _ => False) hb) (fun _ h => h.elim))
      have KI : Hid (∀ W, Below w2.heap.size w2 W → IAt W (adr og) l) := hide (fun W hb => (unhide I2).later hb)
      have HG := hide (unhide HTA).gen
      generalize hsa : Option.map (fun g => (⟨g, 0, none⟩ : Addr)) tgb = sa at *
      have HSA := hide hsa
      clear hsa
      have SK : Hid (∀ W, Below w2.heap.size w2 W → W.cell? ⟨sb, 0, none⟩ = some (.map (some mb)) ∧ W.cell? ⟨xb, 1, none⟩ = some (.int .i64 gr) ∧ (Instr.lookup 49 (.map (some mb)) (.int .i64 gr) false).run Try.prog W = .ok (.agg #[.int .i64 tg, .slice sa tn tc, .int .i64 o0, .int .i64 o1, .int .i64 o2, .int .i64 o3]) W) := hide (fun W hb => ⟨cell_of (below_keep hb (unhide H2).obj) 0, cell_of (below_keep hb (unhide HX)) 1, unhide LK W hb⟩)
      clear LK HTA
      refine wp_region_held_drew (S := fun w' => Below w2.heap.size w2 w') (by kernel_rfl) ((Below.refl _ _).drew) (fun hHeld => ?_)
      refine take17 (i := 0) (d := 22) (v := .pointer (some ⟨sb, 0, none⟩)) rfl rfl (by kernel_rfl) (by kernel_rfl) (by kernel_rfl) (fun _ _ _ h => h) (Or.inl ⟨by rfl, by intro w' hSw; (try dsimp only at hSw); go_simp⟩) (by assumption) ?_; (try simp only [List.setIfInBounds_toArray, List.set_cons_zero, List.set_cons_succ])
      refine take17 (i := 1) (d := 23) (v := .pointer (some ⟨sb, 0, none⟩)) rfl rfl (by kernel_rfl) (by kernel_rfl) (by kernel_rfl) (fun _ _ _ h => h) (Or.inl ⟨by rfl, by intro w' hSw; (try dsimp only at hSw); go_simp⟩) (by assumption) ?_; (try simp only [List.setIfInBounds_toArray, List.set_cons_zero, List.set_cons_succ])
      refine take17 (i := 2) (d := 24) (v := .pointer (some ⟨sb, 0, none⟩)) rfl rfl (by kernel_rfl) (by kernel_rfl) (by kernel_rfl) (fun _ _ _ h => h) (Or.inl ⟨by rfl, by intro w' hSw; (try dsimp only at hSw); go_simp⟩) (by assumption) ?_; (try simp only [List.setIfInBounds_toArray, List.set_cons_zero, List.set_cons_succ])
      refine take17 (i := 3) (d := 25) (v := .map (some mb)) rfl rfl (by kernel_rfl) (by kernel_rfl) (by kernel_rfl) (fun _ _ _ h => h) (Or.inl ⟨by rfl, by intro w' hSw; (try dsimp only at hSw); obtain ⟨s0, s1, sl⟩ := unhide SK w' hSw; go_simp⟩) (by assumption) ?_; (try simp only [List.setIfInBounds_toArray, List.set_cons_zero, List.set_cons_succ])
      refine take17 (i := 4) (d := 26) (v := .pointer (some ⟨xb, 1, none⟩)) rfl rfl (by kernel_rfl) (by kernel_rfl) (by kernel_rfl) (fun _ _ _ h => h) (Or.inl ⟨by rfl, by intro w' hSw; (try dsimp only at hSw); go_simp⟩) (by assumption) ?_; (try simp only [List.setIfInBounds_toArray, List.set_cons_zero, List.set_cons_succ])
      refine take17 (i := 5) (d := 27) (v := .int .i64 gr) rfl rfl (by kernel_rfl) (by kernel_rfl) (by kernel_rfl) (fun _ _ _ h => h) (Or.inl ⟨by rfl, by intro w' hSw; (try dsimp only at hSw); obtain ⟨s0, s1, sl⟩ := unhide SK w' hSw; go_simp⟩) (by assumption) ?_; (try simp only [List.setIfInBounds_toArray, List.set_cons_zero, List.set_cons_succ])
      refine take17 (i := 6) (d := 28) (v := .agg #[.int .i64 tg, .slice sa tn tc, .int .i64 o0, .int .i64 o1, .int .i64 o2, .int .i64 o3]) rfl rfl (by kernel_rfl) (by kernel_rfl) (by kernel_rfl) (fun _ _ _ h => h) (Or.inl ⟨by rfl, by intro w' hSw; (try dsimp only at hSw); obtain ⟨s0, s1, sl⟩ := unhide SK w' hSw; go_simp⟩) (by assumption) ?_; (try simp only [List.setIfInBounds_toArray, List.set_cons_zero, List.set_cons_succ])
      refine wpAnyH_ready (rs := [7]) (by kernel_rfl) (by simp) ?_
      refine AllReadyH.cons rfl (fun K hK => ?_) AllReadyH.nil
      go_simp
      have b3 : Below w2.heap.size w2 (w2.drew.alloc (.cells #[.int .i64 0, .slice none 0 0, .int .i64 0, .int .i64 0, .int .i64 0, .int .i64 0] 61)) := ((Below.refl _ _).drew).alloc (Nat.le_refl _) _
      have HTB := hide (heap_new w2.drew (.cells #[.int .i64 0, .slice none 0 0, .int .i64 0, .int .i64 0, .int .i64 0, .int .i64 0] 61))
      have HB3 := hide b3
      refine hK.out _ _ b3 (fun hHeld => ?_)
      clear hK K b3
      (try simp only [Act.put, List.setIfInBounds_toArray, List.set_cons_zero, List.set_cons_succ])
      change wpAnyH _ _ _ _ _ _ _ _ (w2.drew.alloc (.cells #[.int .i64 0, .slice none 0 0, .int .i64 0, .int .i64 0, .int .i64 0, .int .i64 0] 61))
      have hdz : w2.drew.heap.size = w2.heap.size := rfl
      rw [hdz] at HTB
      clear hdz
      generalize w2.drew.alloc (.cells #[.int .i64 0, .slice none 0 0, .int .i64 0, .int .i64 0, .int .i64 0, .int .i64 0] 61) = w3 at *
      refine wpAnyH_ready (rs := [8]) (by kernel_rfl) (by simp) ?_
      refine AllReadyH.cons rfl (fun K hK => ?_) AllReadyH.nil
      rw [if_pos (by rfl)]
      obtain ⟨q1, q2⟩ := heap_setCells [.int .i64 tg, .slice sa tn tc, .int .i64 o0, .int .i64 o1, .int .i64 o2, .int .i64 o3] 0 w3 _ (unhide HTB)
      have HTB4 : Hid ((w3.setCells w2.heap.size 0 [.int .i64 tg, .slice sa tn tc, .int .i64 o0, .int .i64 o1, .int .i64 o2, .int .i64 o3]).heap[w2.heap.size]? = some (.cells #[.int .i64 tg, .slice sa tn tc, .int .i64 o0, .int .i64 o1, .int .i64 o2, .int .i64 o3] 61)) := hide q1
      have HB4 := hide (below_touch (unhide HB3) q2 (unhide HB3).size (fun k hk => by omega))
      refine wp_store_mid 61 (.tmp 6) (.tmp 28) rfl w2.heap.size 0 #[.int .i64 tg, .slice sa tn tc, .int .i64 o0, .int .i64 o1, .int .i64 o2, .int .i64 o3] rfl rfl (there_of (unhide HTB) (by show 0 + 6 ≤ 6; decide)) (by kernel_rfl) (by simp [Value.oneCell']) ?_
      refine hK.out _ _ (unhide HB4) (fun hHeld => ?_)
      clear hK K q1 q2 HTB HB3
      (try simp only [Act.put, List.setIfInBounds_toArray])
      change wpAnyH _ _ _ _ _ _ _ _ (w3.setCells w2.heap.size 0 [.int .i64 tg, .slice sa tn tc, .int .i64 o0, .int .i64 o1, .int .i64 o2, .int .i64 o3])
      generalize w3.setCells w2.heap.size 0 [.int .i64 tg, .slice sa tn tc, .int .i64 o0, .int .i64 o1, .int .i64 o2, .int .i64 o3] = w4 at *
      refine wpAnyH_done (by kernel_rfl) ?_ _
      have HXT : Hid (xb ≠ w2.heap.size) := hide (by have := lt_of_heap (unhide HX); omega)
      clear hHeld SK H2 HX T2 I2
      generalize hn : w2.heap.size = tb at *
      have HN := hide hn
      clear hn
      have x0 := cell_of (unhide KX _ (unhide HB4)) 0
      have x2 := cell_of (unhide KX _ (unhide HB4)) 2
      have u0 := cell_of (unhide HTB4) 0
      simp at x0 x2 u0
      have hdg : decide (tg < gen) = false := decide_eq_false (by have h1 := unhide HGT; unfold Newer at h1; have h2 := unhide HG; simp only at h2; omega)
      have HTB6 := HTB4
      have HB6 := HB4
      clear HTB4 HB4
      obtain ⟨w6, hw6⟩ : ∃ w6, w6 = w4 := ⟨_, rfl⟩
      rw [← hw6] at HTB6 HB6 x0 x2 u0 ⊢
      clear hw6
      go_upto_region 10 with fail
      have HB7 : Hid (Below tb w2 w6.drew) := hide (unhide HB6).drew
      have HTB7 := hide (below_keep ((Below.refl w6.heap.size w6).drew) (unhide HTB6))
      have H7 := hide (unhide KH _ (unhide HB7))
      have HX7 := hide (unhide KX _ (unhide HB7))
      clear HB6 HTB6
      obtain ⟨w8, hst, hm8, ht8⟩ := (unhide H7).map1.1.store (M := gK) (s := gr) (Nat.lt_of_le_of_lt (unhide H7).few (unhide HC)) (key_wf (unhide HR)) ⟨tg, tgb, tn, tc, o0, o1, o2, o3⟩
      have hst' : (Instr.mapUpdate 49 (.map (some mb)) (.int .i64 gr) (.agg #[.int .i64 tg, .slice sa tn tc, .int .i64 o0, .int .i64 o1, .int .i64 o2, .int .i64 o3])).run Try.prog w6.drew = .ok () w8 := by
        rw [← unhide HSA]
        exact hst
      have nsb : sb ≠ mb := fun e => by
        obtain ⟨es, ck, h1⟩ := (unhide H7).map1.1.block
        rw [← e, (unhide H7).obj] at h1
        cases h1
      have nxb : xb ≠ mb := fun e => by
        obtain ⟨es, ck, h1⟩ := (unhide H7).map1.1.block
        rw [← e, unhide HX7] at h1
        cases h1
      have ntb : tb ≠ mb := fun e => by
        obtain ⟨es, ck, h1⟩ := (unhide H7).map1.1.block
        rw [← e, unhide HTB7] at h1
        cases h1
      have TA7 : TmA w6.drew ⟨tg, tgb, tn, tc, o0, o1, o2, o3⟩ (gaPut ⟨1, gr, gen, l, pt, off⟩ (A gr)) := by
        have q := unhide KA _ (unhide HB7)
        have qi := unhide KI _ (unhide HB7)
        have hng : ¬ gen > (A gr).gen := unhide HGT
        unfold gaPut
        rw [if_neg (show ¬ ((1 : Int) = 2) by decide), if_neg hng]
        exact q
      have F8 : Hid (HdQ B w sb none c A ⟨1, gr, gen, l, pt, off⟩ (.returned (.tuple #[])) w8) := hide (hd_end (unhide H7) (unhide HMB) (unhide KT _ (unhide HB7)) hm8 ht8 nsb TA7)
      have S8 : Hid (w8.cell? ⟨sb, 0, none⟩ = some (.map (some mb)) ∧ w8.heap[xb]? = some (.cells #[.int .i64 1, .int .i64 gr, .int .i64 gen, .slice a l.length k, .int .i64 pt, .int .i64 off] 29) ∧ w8.heap[tb]? = some (.cells #[.int .i64 tg, .slice sa tn tc, .int .i64 o0, .int .i64 o1, .int .i64 o2, .int .i64 o3] 61)) := hide ⟨cell_of (ht8.keep (unhide H7).obj nsb) 0, ht8.keep (unhide HX7) nxb, ht8.keep (unhide HTB7) ntb⟩
      have S7 : Hid (w6.drew.cell? ⟨sb, 0, none⟩ = some (.map (some mb)) ∧ w6.drew.heap[xb]? = some (.cells #[.int .i64 1, .int .i64 gr, .int .i64 gen, .slice a l.length k, .int .i64 pt, .int .i64 off] 29) ∧ w6.drew.heap[tb]? = some (.cells #[.int .i64 tg, .slice sa tn tc, .int .i64 o0, .int .i64 o1, .int .i64 o2, .int .i64 o3] 61)) := hide ⟨cell_of (unhide H7).obj 0, unhide HX7, unhide HTB7⟩
      clear hst hm8 ht8 nsb nxb ntb H7 HX7 HTB7 HB7 TA7 KH KX KT KA KI HMB
      refine wp_region_held_drew (S := fun w' => w'.cell? ⟨sb, 0, none⟩ = some (.map (some mb)) ∧ w'.heap[xb]? = some (.cells #[.int .i64 1, .int .i64 gr, .int .i64 gen, .slice a l.length k, .int .i64 pt, .int .i64 off] 29) ∧ w'.heap[tb]? = some (.cells #[.int .i64 tg, .slice sa tn tc, .int .i64 o0, .int .i64 o1, .int .i64 o2, .int .i64 o3] 61)) (by kernel_rfl) (unhide S7) (fun hHeld => ?_)
      clear S7
      generalize w6.drew = w7 at *
      refine take17 (i := 0) (d := 57) (v := .pointer (some ⟨sb, 0, none⟩)) rfl rfl (by kernel_rfl) (by kernel_rfl) (by kernel_rfl) (fun _ _ _ h => h) (Or.inl ⟨by rfl, by intro w' hSw; (try dsimp only at hSw); go_simp⟩) (by assumption) ?_; (try simp only [List.setIfInBounds_toArray, List.set_cons_zero, List.set_cons_succ])
      refine take17 (i := 1) (d := 58) (v := .pointer (some ⟨sb, 0, none⟩)) rfl rfl (by kernel_rfl) (by kernel_rfl) (by kernel_rfl) (fun _ _ _ h => h) (Or.inl ⟨by rfl, by intro w' hSw; (try dsimp only at hSw); go_simp⟩) (by assumption) ?_; (try simp only [List.setIfInBounds_toArray, List.set_cons_zero, List.set_cons_succ])
      refine take17 (i := 2) (d := 59) (v := .pointer (some ⟨sb, 0, none⟩)) rfl rfl (by kernel_rfl) (by kernel_rfl) (by kernel_rfl) (fun _ _ _ h => h) (Or.inl ⟨by rfl, by intro w' hSw; (try dsimp only at hSw); go_simp⟩) (by assumption) ?_; (try simp only [List.setIfInBounds_toArray, List.set_cons_zero, List.set_cons_succ])
      refine take17 (i := 3) (d := 60) (v := .map (some mb)) rfl rfl (by kernel_rfl) (by kernel_rfl) (by kernel_rfl) (fun _ _ _ h => h) (Or.inl ⟨by rfl, by intro w' hSw; (try dsimp only at hSw); obtain ⟨s0, s1, s2⟩ := hSw; go_simp⟩) (by assumption) ?_; (try simp only [List.setIfInBounds_toArray, List.set_cons_zero, List.set_cons_succ])
      refine take17 (i := 4) (d := 61) (v := .pointer (some ⟨xb, 1, none⟩)) rfl rfl (by kernel_rfl) (by kernel_rfl) (by kernel_rfl) (fun _ _ _ h => h) (Or.inl ⟨by rfl, by intro w' hSw; (try dsimp only at hSw); go_simp⟩) (by assumption) ?_; (try simp only [List.setIfInBounds_toArray, List.set_cons_zero, List.set_cons_succ])
      refine take17 (i := 5) (d := 62) (v := .int .i64 gr) rfl rfl (by kernel_rfl) (by kernel_rfl) (by kernel_rfl) (fun _ _ _ h => h) (Or.inl ⟨by rfl, by intro w' hSw; (try dsimp only at hSw); obtain ⟨s0, s1, s2⟩ := hSw; have y1 := cell_of s1 1; simp at y1; go_simp⟩) (by assumption) ?_; (try simp only [List.setIfInBounds_toArray, List.set_cons_zero, List.set_cons_succ])
      refine take17 (i := 6) (d := 63) (v := .agg #[.int .i64 tg, .slice sa tn tc, .int .i64 o0, .int .i64 o1, .int .i64 o2, .int .i64 o3]) rfl rfl (by kernel_rfl) (by kernel_rfl) (by kernel_rfl) (fun _ _ _ h => h) (Or.inl ⟨by rfl, by intro w' hSw; (try dsimp only at hSw); obtain ⟨s0, s1, s2⟩ := hSw; have q0 := cell_of s2 0; have q1 := cell_of s2 1; have q2 := cell_of s2 2; have q3 := cell_of s2 3; have q4 := cell_of s2 4; have q5 := cell_of s2 5; simp at q0 q1 q2 q3 q4 q5; go_simp⟩) (by assumption) ?_; (try simp only [List.setIfInBounds_toArray, List.set_cons_zero, List.set_cons_succ])
      refine wpAnyH_ready (rs := [7]) (by kernel_rfl) (by simp) ?_
      refine AllReadyH.cons rfl (fun K hK => ?_) AllReadyH.nil
      go_simp
      refine hK.out _ _ (unhide S8) (fun hHeld => ?_)
      clear hK K
      (try simp only [Act.put, List.setIfInBounds_toArray])
      refine wpAnyH_done (by kernel_rfl) ?_ _
      clear hHeld hst'
      go_wp2
      go_roundw
      case rel => exact .inr ⟨by go_num, F8⟩
      case measure => simp [intOf]
    · go_wp2
      go_returns
      exact unhide hh
set_option maxRecDepth 100000 in
set_option maxHeartbeats 8000000 in
theorem gold_some_off0 {B : Nat} {w : World} {sb c : Nat} {m : List (Int × Tm)} {A : Int → Ga} {gr gen off : Int} {l : List Int} {v : Value} {mb : Nat} (h : GP B w sb (some mb) m c A) (hv : OneS B w v ⟨2, gr, gen, l, 0, off⟩) (hr : 0 ≤ gr ∧ gr < 8) (hl : l.length ≤ 8) (hc : c < maxLen) (hB : B ≤ w.heap.size) :
    Calls Try.prog 18 #[.pointer (some ⟨sb, 0, none⟩), v] w fun e w' => HdQ B w sb (some mb) c A ⟨2, gr, gen, l, 0, off⟩ e w' := by
  obtain ⟨g, cv, og, a, k, ha, rfl, hw, hi, hg⟩ := hv
  have HA := hide ha
  have hi' : IAt w (adr og) l := by have q := hi; rw [ha] at q; exact q
  clear ha
  have y0 : w.cell? ⟨sb, 0, none⟩ = some (.map (some mb)) := cell_of h.obj 0
  have H := hide h
  have HW := hide hw
  have HI := hide hi'
  have HB := hide hB
  have HR := hide hr
  have HL := hide hl
  have HC := hide hc

  have hq : ∀ (W : World) (b : Nat), (binOp .eql 49 (.map (some b)) (.map none)).run Try.prog W = .ok (.bool false) W := fun _ _ => by kernel_rfl
  have hq0 : ∀ (W : World), (binOp .eql 49 (.map none) (.map none)).run Try.prog W = .ok (.bool true) W := fun _ => by kernel_rfl
  clear h hw hg hB hi hi' hr hl hc
  go_enter Try.func18, Try.ntmps18
  go_upto_region 2 with fail
  have HMB : Hid (Grew (some mb) w mb) := hide (.inl rfl)
  obtain ⟨w1, hw1⟩ : ∃ w1, w1 = w := ⟨_, rfl⟩
  have H1 : Hid (GP B w1 sb (some mb) m c A) := by rw [hw1]; exact H
  have W1 : Hid (Wide w1 29 6 (.slice (some ⟨g, 0, none⟩) 1 cv) 1 [.int .i64 2, .int .i64 gr, .int .i64 gen, .slice a l.length k, .int .i64 0, .int .i64 off]) := by rw [hw1]; exact HW
  have I1 : Hid (IAt w1 (adr og) l) := by rw [hw1]; exact HI
  have T1 : Hid (Touch (TP sb (some mb) w) w w1) := by rw [hw1]; exact hide (Touch.refl _ _)
  clear y0 H HW HI
  rw [← hw1]
  clear hw1
  go_wp2_with fail
  go_loopw [18] (fun iv wr => (iv = .int .i64 0 ∧ wr = w1) ∨ (iv = .int .i64 1 ∧ Hid (HdQ B w sb (some mb) c A ⟨2, gr, gen, l, 0, off⟩ (.returned (.tuple #[])) wr))) (fun iv _ => 1 - (intOf iv).toNat)
  case atStart => exact .inl ⟨rfl, rfl⟩
  case round =>
    rcases hrel with ⟨rfl, rfl⟩ | ⟨rfl, hh⟩
    · obtain ⟨a', cap, ev, _, _, _, _, hcx⟩ := (unhide W1).parts
      obtain ⟨g', ea, _, hcell, _⟩ := hcx (by omega)
      injection ev with e1 e2 e3
      rw [ea] at e1
      cases e1
      have z0 := hcell 0 (by omega)
      have z1 := hcell 1 (by omega)
      have z2 := hcell 2 (by omega)
      have z3 := hcell 3 (by omega)
      have z4 := hcell 4 (by omega)
      have z5 := hcell 5 (by omega)
      simp only [List.getElem?_cons_zero, List.getElem?_cons_succ] at z0 z1 z2 z3 z4 z5
      clear hcell hcx ea e2 e3
      go_upto_region 5 with fail
      have b2 := (Below.refl wr.heap.size wr).alloc (Nat.le_refl _) (.cells #[.int .i64 2, .int .i64 gr, .int .i64 gen, .slice a l.length k, .int .i64 0, .int .i64 off] 29)
      have HX := hide (heap_new wr (.cells #[.int .i64 2, .int .i64 gr, .int .i64 gen, .slice a l.length k, .int .i64 0, .int .i64 off] 29))
      have H2 := hide ((unhide H1).later b2)
      have I2 := hide ((unhide I1).later b2)
      have T2 := hide ((unhide T1).trans (Touch.of_below b2))
      clear b2 H1 W1 T1 I1 z0 z1 z2 z3 z4 z5
      change Code.wp _ _ _ _ (wr.alloc (.cells #[.int .i64 2, .int .i64 gr, .int .i64 gen, .slice a l.length k, .int .i64 0, .int .i64 off] 29))
      generalize wr.alloc (.cells #[.int .i64 2, .int .i64 gr, .int .i64 gen, .slice a l.length k, .int .i64 0, .int .i64 off] 29) = w2 at *
      generalize wr.heap.size = xb at *
      obtain ⟨T, hT⟩ : ∃ T, T = mgot gK (matx m gr) := ⟨_, rfl⟩
      have HTA := hide ((unhide H2).team gr)
      have LK : Hid (∀ W, Below w2.heap.size w2 W → (Instr.lookup 49 (.map (some mb)) (.int .i64 gr) false).run Try.prog W = .ok (tmV T) W) := hide (fun W hb => by
        have := ((unhide H2).later hb).look (unhide HR)
        rw [hT]
        exact this)
      rw [← hT] at HTA
      clear hT
      obtain ⟨tg, tgb, tn, tc, o0, o1, o2, o3⟩ := T
      unfold tmV tmC at LK
      simp only at LK
      have KH : Hid (∀ W, Below w2.heap.size w2 W → GP B W sb (some mb) m c A) := hide (fun W hb => (unhide H2).later hb)
      have KX : Hid (∀ W, Below w2.heap.size w2 W → W.heap[xb]? = some (.cells #[.int .i64 2, .int .i64 gr, .int .i64 gen, .slice a l.length k, .int .i64 0, .int .i64 off] 29)) := hide (fun W hb => below_keep hb (unhide HX))
      have KT : Hid (∀ W, Below w2.heap.size w2 W → Touch (TP sb (some mb) w) w W) := hide (fun W hb => (unhide T2).trans (Touch.of_below hb))
      have KA : Hid (∀ W, Below w2.heap.size w2 W → TmA W ⟨tg, tgb, tn, tc, o0, o1, o2, o3⟩ (A gr)) := hide (fun W hb => (unhide HTA).keep (Touch.of_below (S := fun _ => False) hb) (fun _ h => h.elim))
      have KI : Hid (∀ W, Below w2.heap.size w2 W → IAt W (adr og) l) := hide (fun W hb => (unhide I2).later hb)
      have HG := hide (unhide HTA).gen
      generalize hsa : Option.map (fun g => (⟨g, 0, none⟩ : Addr)) tgb = sa at *
      have HSA := hide hsa
      clear hsa
      have SK : Hid (∀ W, Below w2.heap.size w2 W → W.cell? ⟨sb, 0, none⟩ = some (.map (some mb)) ∧ W.cell? ⟨xb, 1, none⟩ = some (.int .i64 gr) ∧ (Instr.lookup 49 (.map (some mb)) (.int .i64 gr) false).run Try.prog W = .ok (.agg #[.int .i64 tg, .slice sa tn tc, .int .i64 o0, .int .i64 o1, .int .i64 o2, .int .i64 o3]) W) := hide (fun W hb => ⟨cell_of (below_keep hb (unhide H2).obj) 0, cell_of (below_keep hb (unhide HX)) 1, unhide LK W hb⟩)
      clear LK HTA
      refine wp_region_held_drew (S := fun w' => Below w2.heap.size w2 w') (by kernel_rfl) ((Below.refl _ _).drew) (fun hHeld => ?_)
      refine take17 (i := 0) (d := 22) (v := .pointer (some ⟨sb, 0, none⟩)) rfl rfl (by kernel_rfl) (by kernel_rfl) (by kernel_rfl) (fun _ _ _ h => h) (Or.inl ⟨by rfl, by intro w' hSw; (try dsimp only at hSw); go_simp⟩) (by assumption) ?_; (try simp only [List.setIfInBounds_toArray, List.set_cons_zero, List.set_cons_succ])
      refine take17 (i := 1) (d := 23) (v := .pointer (some ⟨sb, 0, none⟩)) rfl rfl (by kernel_rfl) (by kernel_rfl) (by kernel_rfl) (fun _ _ _ h => h) (Or.inl ⟨by rfl, by intro w' hSw; (try dsimp only at hSw); go_simp⟩) (by assumption) ?_; (try simp only [List.setIfInBounds_toArray, List.set_cons_zero, List.set_cons_succ])
      refine take17 (i := 2) (d := 24) (v := .pointer (some ⟨sb, 0, none⟩)) rfl rfl (by kernel_rfl) (by kernel_rfl) (by kernel_rfl) (fun _ _ _ h => h) (Or.inl ⟨by rfl, by intro w' hSw; (try dsimp only at hSw); go_simp⟩) (by assumption) ?_; (try simp only [List.setIfInBounds_toArray, List.set_cons_zero, List.set_cons_succ])
      refine take17 (i := 3) (d := 25) (v := .map (some mb)) rfl rfl (by kernel_rfl) (by kernel_rfl) (by kernel_rfl) (fun _ _ _ h => h) (Or.inl ⟨by rfl, by intro w' hSw; (try dsimp only at hSw); obtain ⟨s0, s1, sl⟩ := unhide SK w' hSw; go_simp⟩) (by assumption) ?_; (try simp only [List.setIfInBounds_toArray, List.set_cons_zero, List.set_cons_succ])
      refine take17 (i := 4) (d := 26) (v := .pointer (some ⟨xb, 1, none⟩)) rfl rfl (by kernel_rfl) (by kernel_rfl) (by kernel_rfl) (fun _ _ _ h => h) (Or.inl ⟨by rfl, by intro w' hSw; (try dsimp only at hSw); go_simp⟩) (by assumption) ?_; (try simp only [List.setIfInBounds_toArray, List.set_cons_zero, List.set_cons_succ])
      refine take17 (i := 5) (d := 27) (v := .int .i64 gr) rfl rfl (by kernel_rfl) (by kernel_rfl) (by kernel_rfl) (fun _ _ _ h => h) (Or.inl ⟨by rfl, by intro w' hSw; (try dsimp only at hSw); obtain ⟨s0, s1, sl⟩ := unhide SK w' hSw; go_simp⟩) (by assumption) ?_; (try simp only [List.setIfInBounds_toArray, List.set_cons_zero, List.set_cons_succ])
      refine take17 (i := 6) (d := 28) (v := .agg #[.int .i64 tg, .slice sa tn tc, .int .i64 o0, .int .i64 o1, .int .i64 o2, .int .i64 o3]) rfl rfl (by kernel_rfl) (by kernel_rfl) (by kernel_rfl) (fun _ _ _ h => h) (Or.inl ⟨by rfl, by intro w' hSw; (try dsimp only at hSw); obtain ⟨s0, s1, sl⟩ := unhide SK w' hSw; go_simp⟩) (by assumption) ?_; (try simp only [List.setIfInBounds_toArray, List.set_cons_zero, List.set_cons_succ])
      refine wpAnyH_ready (rs := [7]) (by kernel_rfl) (by simp) ?_
      refine AllReadyH.cons rfl (fun K hK => ?_) AllReadyH.nil
      go_simp
      have b3 : Below w2.heap.size w2 (w2.drew.alloc (.cells #[.int .i64 0, .slice none 0 0, .int .i64 0, .int .i64 0, .int .i64 0, .int .i64 0] 61)) := ((Below.refl _ _).drew).alloc (Nat.le_refl _) _
      have HTB := hide (heap_new w2.drew (.cells #[.int .i64 0, .slice none 0 0, .int .i64 0, .int .i64 0, .int .i64 0, .int .i64 0] 61))
      have HB3 := hide b3
      refine hK.out _ _ b3 (fun hHeld => ?_)
      clear hK K b3
      (try simp only [Act.put, List.setIfInBounds_toArray, List.set_cons_zero, List.set_cons_succ])
      change wpAnyH _ _ _ _ _ _ _ _ (w2.drew.alloc (.cells #[.int .i64 0, .slice none 0 0, .int .i64 0, .int .i64 0, .int .i64 0, .int .i64 0] 61))
      have hdz : w2.drew.heap.size = w2.heap.size := rfl
      rw [hdz] at HTB
      clear hdz
      generalize w2.drew.alloc (.cells #[.int .i64 0, .slice none 0 0, .int .i64 0, .int .i64 0, .int .i64 0, .int .i64 0] 61) = w3 at *
      refine wpAnyH_ready (rs := [8]) (by kernel_rfl) (by simp) ?_
      refine AllReadyH.cons rfl (fun K hK => ?_) AllReadyH.nil
      rw [if_pos (by rfl)]
      obtain ⟨q1, q2⟩ := heap_setCells [.int .i64 tg, .slice sa tn tc, .int .i64 o0, .int .i64 o1, .int .i64 o2, .int .i64 o3] 0 w3 _ (unhide HTB)
      have HTB4 : Hid ((w3.setCells w2.heap.size 0 [.int .i64 tg, .slice sa tn tc, .int .i64 o0, .int .i64 o1, .int .i64 o2, .int .i64 o3]).heap[w2.heap.size]? = some (.cells #[.int .i64 tg, .slice sa tn tc, .int .i64 o0, .int .i64 o1, .int .i64 o2, .int .i64 o3] 61)) := hide q1
      have HB4 := hide (below_touch (unhide HB3) q2 (unhide HB3).size (fun k hk => by omega))
      refine wp_store_mid 61 (.tmp 6) (.tmp 28) rfl w2.heap.size 0 #[.int .i64 tg, .slice sa tn tc, .int .i64 o0, .int .i64 o1, .int .i64 o2, .int .i64 o3] rfl rfl (there_of (unhide HTB) (by show 0 + 6 ≤ 6; decide)) (by kernel_rfl) (by simp [Value.oneCell']) ?_
      refine hK.out _ _ (unhide HB4) (fun hHeld => ?_)
      clear hK K q1 q2 HTB HB3
      (try simp only [Act.put, List.setIfInBounds_toArray])
      change wpAnyH _ _ _ _ _ _ _ _ (w3.setCells w2.heap.size 0 [.int .i64 tg, .slice sa tn tc, .int .i64 o0, .int .i64 o1, .int .i64 o2, .int .i64 o3])
      generalize w3.setCells w2.heap.size 0 [.int .i64 tg, .slice sa tn tc, .int .i64 o0, .int .i64 o1, .int .i64 o2, .int .i64 o3] = w4 at *
      refine wpAnyH_done (by kernel_rfl) ?_ _
      have HXT : Hid (xb ≠ w2.heap.size) := hide (by have := lt_of_heap (unhide HX); omega)
      clear hHeld SK H2 HX T2 I2
      generalize hn : w2.heap.size = tb at *
      have HN := hide hn
      clear hn
      have x0 := cell_of (unhide KX _ (unhide HB4)) 0
      have x2 := cell_of (unhide KX _ (unhide HB4)) 2
      have u0 := cell_of (unhide HTB4) 0
      simp at x0 x2 u0
      clear x2 u0
      go_upto_region 7 with fail
      clear x0
      have hd5 : Below w4.heap.size w4 w4.drew := (Below.refl _ _).drew
      have HTB5 := hide (below_keep hd5 (unhide HTB4))
      have HB5 : Hid (Below tb w2 w4.drew) := hide (unhide HB4).drew
      have HX5 := hide (unhide KX _ (unhide HB5))
      clear HTB4 HB4 hd5
      refine wp_region_held_drew (S := fun w' => w'.heap[xb]? = some (.cells #[.int .i64 2, .int .i64 gr, .int .i64 gen, .slice a l.length k, .int .i64 0, .int .i64 off] 29)) (by kernel_rfl) (unhide HX5) (fun hHeld => ?_)
      generalize w4.drew = w5 at *
      refine take17 (i := 0) (d := 33) (v := .pointer (some ⟨xb, 4, none⟩)) rfl rfl (by kernel_rfl) (by kernel_rfl) (by kernel_rfl) (fun _ _ _ h => h) (Or.inl ⟨by rfl, by intro w' hSw; (try dsimp only at hSw); go_simp⟩) (by assumption) ?_; (try simp only [List.setIfInBounds_toArray, List.set_cons_zero, List.set_cons_succ])
      refine take17 (i := 1) (d := 34) (v := .int .i64 0) rfl rfl (by kernel_rfl) (by kernel_rfl) (by kernel_rfl) (fun _ _ _ h => h) (Or.inl ⟨by rfl, by intro w' hSw; (try dsimp only at hSw); have y4 := cell_of hSw 4; simp at y4; go_simp⟩) (by assumption) ?_; (try simp only [List.setIfInBounds_toArray, List.set_cons_zero, List.set_cons_succ])
      refine take17 (i := 2) (d := 35) (v := .pointer (some ⟨xb, 4, none⟩)) rfl rfl (by kernel_rfl) (by kernel_rfl) (by kernel_rfl) (fun _ _ _ h => h) (Or.inl ⟨by rfl, by intro w' hSw; (try dsimp only at hSw); go_simp⟩) (by assumption) ?_; (try simp only [List.setIfInBounds_toArray, List.set_cons_zero, List.set_cons_succ])
      refine take17 (i := 3) (d := 36) (v := .int .i64 0) rfl rfl (by kernel_rfl) (by kernel_rfl) (by kernel_rfl) (fun _ _ _ h => h) (Or.inl ⟨by rfl, by intro w' hSw; (try dsimp only at hSw); have y4 := cell_of hSw 4; simp at y4; go_simp⟩) (by assumption) ?_; (try simp only [List.setIfInBounds_toArray, List.set_cons_zero, List.set_cons_succ])
      refine take17 (i := 4) (d := 37) (v := .pointer (some ⟨tb, 2, none⟩)) rfl rfl (by kernel_rfl) (by kernel_rfl) (by kernel_rfl) (fun _ _ _ h => h) (Or.inl ⟨by rfl, by intro w' hSw; (try dsimp only at hSw); go_simp⟩) (by assumption) ?_; (try simp only [List.setIfInBounds_toArray, List.set_cons_zero, List.set_cons_succ])
      refine take17 (i := 5) (d := 38) (v := .pointer (some ⟨tb, 2, none⟩)) rfl rfl (by kernel_rfl) (by kernel_rfl) (by kernel_rfl) (fun _ _ _ h => h) (Or.inl ⟨by rfl, by intro w' hSw; (try dsimp only at hSw); go_simp⟩) (by assumption) ?_; (try simp only [List.setIfInBounds_toArray, List.set_cons_zero, List.set_cons_succ])
      refine take17 (i := 7) (d := 40) (v := .pointer (some ⟨xb, 5, none⟩)) rfl rfl (by kernel_rfl) (by kernel_rfl) (by kernel_rfl) (fun _ _ _ h => h) (Or.inl ⟨by rfl, by intro w' hSw; (try dsimp only at hSw); go_simp⟩) (by assumption) ?_; (try simp only [List.setIfInBounds_toArray, List.set_cons_zero, List.set_cons_succ])
      refine take17 (i := 8) (d := 41) (v := .int .i64 off) rfl rfl (by kernel_rfl) (by kernel_rfl) (by kernel_rfl) (fun _ _ _ h => h) (Or.inl ⟨by rfl, by intro w' hSw; (try dsimp only at hSw); have y5 := cell_of hSw 5; simp at y5; go_simp⟩) (by assumption) ?_; (try simp only [List.setIfInBounds_toArray, List.set_cons_zero, List.set_cons_succ])
      refine take17 (i := 10) (d := 43) (v := .pointer (some ⟨tb, 2, none⟩)) rfl rfl (by kernel_rfl) (by kernel_rfl) (by kernel_rfl) (fun _ _ _ h => h) (Or.inl ⟨by rfl, by intro w' hSw; (try dsimp only at hSw); go_simp⟩) (by assumption) ?_; (try simp only [List.setIfInBounds_toArray, List.set_cons_zero, List.set_cons_succ])
      have zt : w5.cell? ⟨tb, 2, none⟩ = some (.int .i64 o0) := cell_of (unhide HTB5) 2
      refine wpAnyH_ready (rs := [6]) (by kernel_rfl) (by simp) ?_
      refine AllReadyH.cons rfl (fun K hK => ?_) AllReadyH.nil
      go_simp
      refine hK.out _ _ (by assumption) (fun hHeld => ?_)
      clear hK K
      (try simp only [Act.put, List.setIfInBounds_toArray, List.set_cons_zero, List.set_cons_succ])
      refine take17 (i := 9) (d := 42) (v := .int .i64 (max o0 off)) rfl rfl (by kernel_rfl) (by kernel_rfl) (by kernel_rfl) (fun _ _ _ h => h) (Or.inl ⟨by rfl, by intro w' hSw; (try dsimp only at hSw); go_simp⟩) (by assumption) ?_; (try simp only [List.setIfInBounds_toArray, List.set_cons_zero, List.set_cons_succ])
      refine take17 (i := 11) (d := 44) (v := .pointer (some ⟨tb, 2, none⟩)) rfl rfl (by kernel_rfl) (by kernel_rfl) (by kernel_rfl) (fun _ _ _ h => h) (Or.inl ⟨by rfl, by intro w' hSw; (try dsimp only at hSw); go_simp⟩) (by assumption) ?_; (try simp only [List.setIfInBounds_toArray, List.set_cons_zero, List.set_cons_succ])
      have ft : w5.frozen? ⟨tb, 2, none⟩ = false := frozen_of (unhide HTB5) 2
      have tt := touch_set w5 tb 2 (.int .i64 (max o0 off))
      have HTB6 := hide (heap_set (unhide HTB5) 2 (.int .i64 (max o0 off)))
      have HX6 := hide (tt.keep (unhide HX5) (unhide HXT))
      have HB6 := hide (below_touch (unhide HB5) tt (by have h1 := (unhide HB5).size; have h2 := unhide HN; omega) (fun k hk => by omega))
      clear tt HTB5 HX5 HB5
      refine wpAnyH_ready (rs := [12]) (by kernel_rfl) (by simp) ?_
      refine AllReadyH.cons rfl (fun K hK => ?_) AllReadyH.nil
      go_simp
      refine hK.out _ _ (unhide HX6) (fun hHeld => ?_)
      clear hK K zt ft HX6
      (try simp only [Act.put, List.setIfInBounds_toArray])
      generalize w5.setCell ⟨tb, 2, none⟩ (.int .i64 (max o0 off)) = w6 at *
      refine wpAnyH_done (by kernel_rfl) ?_ _
      clear hHeld
      go_upto_region 10 with fail
      have HB7 : Hid (Below tb w2 w6.drew) := hide (unhide HB6).drew
      have HTB7 := hide (below_keep ((Below.refl w6.heap.size w6).drew) (unhide HTB6))
      have H7 := hide (unhide KH _ (unhide HB7))
      have HX7 := hide (unhide KX _ (unhide HB7))
      clear HB6 HTB6
      obtain ⟨w8, hst, hm8, ht8⟩ := (unhide H7).map1.1.store (M := gK) (s := gr) (Nat.lt_of_le_of_lt (unhide H7).few (unhide HC)) (key_wf (unhide HR)) ⟨tg, tgb, tn, tc, (max o0 off), o1, o2, o3⟩
      have hst' : (Instr.mapUpdate 49 (.map (some mb)) (.int .i64 gr) (.agg #[.int .i64 tg, .slice sa tn tc, .int .i64 (max o0 off), .int .i64 o1, .int .i64 o2, .int .i64 o3])).run Try.prog w6.drew = .ok () w8 := by
        rw [← unhide HSA]
        exact hst
      have nsb : sb ≠ mb := fun e => by
        obtain ⟨es, ck, h1⟩ := (unhide H7).map1.1.block
        rw [← e, (unhide H7).obj] at h1
        cases h1
      have nxb : xb ≠ mb := fun e => by
        obtain ⟨es, ck, h1⟩ := (unhide H7).map1.1.block
        rw [← e, unhide HX7] at h1
        cases h1
      have ntb : tb ≠ mb := fun e => by
        obtain ⟨es, ck, h1⟩ := (unhide H7).map1.1.block
        rw [← e, unhide HTB7] at h1
        cases h1
      have TA7 : TmA w6.drew ⟨tg, tgb, tn, tc, (max o0 off), o1, o2, o3⟩ (gaPut ⟨2, gr, gen, l, 0, off⟩ (A gr)) := by
        have q := unhide KA _ (unhide HB7)
        have qi := unhide KI _ (unhide HB7)
        have e0 := q.o0
        have e1 := q.o1
        have e2 := q.o2
        have e3 := q.o3
        simp only at e0 e1 e2 e3
        unfold gaPut
        simp only [if_true]
        refine ⟨q.gen, q.n, q.l, ?_, ?_, ?_, ?_, q.few⟩ <;> simp [e0, e1, e2, e3]
      have F8 : Hid (HdQ B w sb (some mb) c A ⟨2, gr, gen, l, 0, off⟩ (.returned (.tuple #[])) w8) := hide (hd_end (unhide H7) (unhide HMB) (unhide KT _ (unhide HB7)) hm8 ht8 nsb TA7)
      have S8 : Hid (w8.cell? ⟨sb, 0, none⟩ = some (.map (some mb)) ∧ w8.heap[xb]? = some (.cells #[.int .i64 2, .int .i64 gr, .int .i64 gen, .slice a l.length k, .int .i64 0, .int .i64 off] 29) ∧ w8.heap[tb]? = some (.cells #[.int .i64 tg, .slice sa tn tc, .int .i64 (max o0 off), .int .i64 o1, .int .i64 o2, .int .i64 o3] 61)) := hide ⟨cell_of (ht8.keep (unhide H7).obj nsb) 0, ht8.keep (unhide HX7) nxb, ht8.keep (unhide HTB7) ntb⟩
      have S7 : Hid (w6.drew.cell? ⟨sb, 0, none⟩ = some (.map (some mb)) ∧ w6.drew.heap[xb]? = some (.cells #[.int .i64 2, .int .i64 gr, .int .i64 gen, .slice a l.length k, .int .i64 0, .int .i64 off] 29) ∧ w6.drew.heap[tb]? = some (.cells #[.int .i64 tg, .slice sa tn tc, .int .i64 (max o0 off), .int .i64 o1, .int .i64 o2, .int .i64 o3] 61)) := hide ⟨cell_of (unhide H7).obj 0, unhide HX7, unhide HTB7⟩
      clear hst hm8 ht8 nsb nxb ntb H7 HX7 HTB7 HB7 TA7 KH KX KT KA KI HMB
      refine wp_region_held_drew (S := fun w' => w'.cell? ⟨sb, 0, none⟩ = some (.map (some mb)) ∧ w'.heap[xb]? = some (.cells #[.int .i64 2, .int .i64 gr, .int .i64 gen, .slice a l.length k, .int .i64 0, .int .i64 off] 29) ∧ w'.heap[tb]? = some (.cells #[.int .i64 tg, .slice sa tn tc, .int .i64 (max o0 off), .int .i64 o1, .int .i64 o2, .int .i64 o3] 61)) (by kernel_rfl) (unhide S7) (fun hHeld => ?_)
      clear S7
      generalize w6.drew = w7 at *
      refine take17 (i := 0) (d := 57) (v := .pointer (some ⟨sb, 0, none⟩)) rfl rfl (by kernel_rfl) (by kernel_rfl) (by kernel_rfl) (fun _ _ _ h => h) (Or.inl ⟨by rfl, by intro w' hSw; (try dsimp only at hSw); go_simp⟩) (by assumption) ?_; (try simp only [List.setIfInBounds_toArray, List.set_cons_zero, List.set_cons_succ])
      refine take17 (i := 1) (d := 58) (v := .pointer (some ⟨sb, 0, none⟩)) rfl rfl (by kernel_rfl) (by kernel_rfl) (by kernel_rfl) (fun _ _ _ h => h) (Or.inl ⟨by rfl, by intro w' hSw; (try dsimp only at hSw); go_simp⟩) (by assumption) ?_; (try simp only [List.setIfInBounds_toArray, List.set_cons_zero, List.set_cons_succ])
      refine take17 (i := 2) (d := 59) (v := .pointer (some ⟨sb, 0, none⟩)) rfl rfl (by kernel_rfl) (by kernel_rfl) (by kernel_rfl) (fun _ _ _ h => h) (Or.inl ⟨by rfl, by intro w' hSw; (try dsimp only at hSw); go_simp⟩) (by assumption) ?_; (try simp only [List.setIfInBounds_toArray, List.set_cons_zero, List.set_cons_succ])
      refine take17 (i := 3) (d := 60) (v := .map (some mb)) rfl rfl (by kernel_rfl) (by kernel_rfl) (by kernel_rfl) (fun _ _ _ h => h) (Or.inl ⟨by rfl, by intro w' hSw; (try dsimp only at hSw); obtain ⟨s0, s1, s2⟩ := hSw; go_simp⟩) (by assumption) ?_; (try simp only [List.setIfInBounds_toArray, List.set_cons_zero, List.set_cons_succ])
      refine take17 (i := 4) (d := 61) (v := .pointer (some ⟨xb, 1, none⟩)) rfl rfl (by kernel_rfl) (by kernel_rfl) (by kernel_rfl) (fun _ _ _ h => h) (Or.inl ⟨by rfl, by intro w' hSw; (try dsimp only at hSw); go_simp⟩) (by assumption) ?_; (try simp only [List.setIfInBounds_toArray, List.set_cons_zero, List.set_cons_succ])
      refine take17 (i := 5) (d := 62) (v := .int .i64 gr) rfl rfl (by kernel_rfl) (by kernel_rfl) (by kernel_rfl) (fun _ _ _ h => h) (Or.inl ⟨by rfl, by intro w' hSw; (try dsimp only at hSw); obtain ⟨s0, s1, s2⟩ := hSw; have y1 := cell_of s1 1; simp at y1; go_simp⟩) (by assumption) ?_; (try simp only [List.setIfInBounds_toArray, List.set_cons_zero, List.set_cons_succ])
      refine take17 (i := 6) (d := 63) (v := .agg #[.int .i64 tg, .slice sa tn tc, .int .i64 (max o0 off), .int .i64 o1, .int .i64 o2, .int .i64 o3]) rfl rfl (by kernel_rfl) (by kernel_rfl) (by kernel_rfl) (fun _ _ _ h => h) (Or.inl ⟨by rfl, by intro w' hSw; (try dsimp only at hSw); obtain ⟨s0, s1, s2⟩ := hSw; have q0 := cell_of s2 0; have q1 := cell_of s2 1; have q2 := cell_of s2 2; have q3 := cell_of s2 3; have q4 := cell_of s2 4; have q5 := cell_of s2 5; simp at q0 q1 q2 q3 q4 q5; go_simp⟩) (by assumption) ?_; (try simp only [List.setIfInBounds_toArray, List.set_cons_zero, List.set_cons_succ])
      refine wpAnyH_ready (rs := [7]) (by kernel_rfl) (by simp) ?_
      refine AllReadyH.cons rfl (fun K hK => ?_) AllReadyH.nil
      go_simp
      refine hK.out _ _ (unhide S8) (fun hHeld => ?_)
      clear hK K
      (try simp only [Act.put, List.setIfInBounds_toArray])
      refine wpAnyH_done (by kernel_rfl) ?_ _
      clear hHeld hst'
      go_wp2
      go_roundw
      case rel => exact .inr ⟨by go_num, F8⟩
      case measure => simp [intOf]
    · go_wp2
      go_returns
      exact unhide hh
set_option maxRecDepth 100000 in
set_option maxHeartbeats 8000000 in
theorem gold_some_off1 {B : Nat} {w : World} {sb c : Nat} {m : List (Int × Tm)} {A : Int → Ga} {gr gen off : Int} {l : List Int} {v : Value} {mb : Nat} (h : GP B w sb (some mb) m c A) (hv : OneS B w v ⟨2, gr, gen, l, 1, off⟩) (hr : 0 ≤ gr ∧ gr < 8) (hl : l.length ≤ 8) (hc : c < maxLen) (hB : B ≤ w.heap.size) :
    Calls Try.prog 18 #[.pointer (some ⟨sb, 0, none⟩), v] w fun e w' => HdQ B w sb (some mb) c A ⟨2, gr, gen, l, 1, off⟩ e w' := by
  obtain ⟨g, cv, og, a, k, ha, rfl, hw, hi, hg⟩ := hv
  have HA := hide ha
  have hi' : IAt w (adr og) l := by have q := hi; rw [ha] at q; exact q
  clear ha
  have y0 : w.cell? ⟨sb, 0, none⟩ = some (.map (some mb)) := cell_of h.obj 0
  have H := hide h
  have HW := hide hw
  have HI := hide hi'
  have HB := hide hB
  have HR := hide hr
  have HL := hide hl
  have HC := hide hc

  have hq : ∀ (W : World) (b : Nat), (binOp .eql 49 (.map (some b)) (.map none)).run Try.prog W = .ok (.bool false) W := fun _ _ => by kernel_rfl
  have hq0 : ∀ (W : World), (binOp .eql 49 (.map none) (.map none)).run Try.prog W = .ok (.bool true) W := fun _ => by kernel_rfl
  clear h hw hg hB hi hi' hr hl hc
  go_enter Try.func18, Try.ntmps18
  go_upto_region 2 with fail
  have HMB : Hid (Grew (some mb) w mb) := hide (.inl rfl)
  obtain ⟨w1, hw1⟩ : ∃ w1, w1 = w := ⟨_, rfl⟩
  have H1 : Hid (GP B w1 sb (some mb) m c A) := by rw [hw1]; exact H
  have W1 : Hid (Wide w1 29 6 (.slice (some ⟨g, 0, none⟩) 1 cv) 1 [.int .i64 2, .int .i64 gr, .int .i64 gen, .slice a l.length k, .int .i64 1, .int .i64 off]) := by rw [hw1]; exact HW
  have I1 : Hid (IAt w1 (adr og) l) := by rw [hw1]; exact HI
  have T1 : Hid (Touch (TP sb (some mb) w) w w1) := by rw [hw1]; exact hide (Touch.refl _ _)
  clear y0 H HW HI
  rw [← hw1]
  clear hw1
  go_wp2_with fail
  go_loopw [18] (fun iv wr => (iv = .int .i64 0 ∧ wr = w1) ∨ (iv = .int .i64 1 ∧ Hid (HdQ B w sb (some mb) c A ⟨2, gr, gen, l, 1, off⟩ (.returned (.tuple #[])) wr))) (fun iv _ => 1 - (intOf iv).toNat)
  case atStart => exact .inl ⟨rfl, rfl⟩
  case round =>
    rcases hrel with ⟨rfl, rfl⟩ | ⟨rfl, hh⟩
    · obtain ⟨a', cap, ev, _, _, _, _, hcx⟩ := (unhide W1).parts
      obtain ⟨g', ea, _, hcell, _⟩ := hcx (by omega)
      injection ev with e1 e2 e3
      rw [ea] at e1
      cases e1
      have z0 := hcell 0 (by omega)
      have z1 := hcell 1 (by omega)
      have z2 := hcell 2 (by omega)
      have z3 := hcell 3 (by omega)
      have z4 := hcell 4 (by omega)
      have z5 := hcell 5 (by omega)
      simp only [List.getElem?_cons_zero, List.getElem?_cons_succ] at z0 z1 z2 z3 z4 z5
      clear hcell hcx ea e2 e3
      go_upto_region 5 with fail
      have b2 := (Below.refl wr.heap.size wr).alloc (Nat.le_refl _) (.cells #[.int .i64 2, .int .i64 gr, .int .i64 gen, .slice a l.length k, .int .i64 1, .int .i64 off] 29)
      have HX := hide (heap_new wr (.cells #[.int .i64 2, .int .i64 gr, .int .i64 gen, .slice a l.length k, .int .i64 1, .int .i64 off] 29))
      have H2 := hide ((unhide H1).later b2)
      have I2 := hide ((unhide I1).later b2)
      have T2 := hide ((unhide T1).trans (Touch.of_below b2))
      clear b2 H1 W1 T1 I1 z0 z1 z2 z3 z4 z5
      change Code.wp _ _ _ _ (wr.alloc (.cells #[.int .i64 2, .int .i64 gr, .int .i64 gen, .slice a l.length k, .int .i64 1, .int .i64 off] 29))
      generalize wr.alloc (.cells #[.int .i64 2, .int .i64 gr, .int .i64 gen, .slice a l.length k, .int .i64 1, .int .i64 off] 29) = w2 at *
      generalize wr.heap.size = xb at *
      obtain ⟨T, hT⟩ : ∃ T, T = mgot gK (matx m gr) := ⟨_, rfl⟩
      have HTA := hide ((unhide H2).team gr)
      have LK : Hid (∀ W, Below w2.heap.size w2 W → (Instr.lookup 49 (.map (some mb)) (.int .i64 gr) false).run Try.prog W = .ok (tmV T) W) := hide (fun W hb => by
        have := ((unhide H2).later hb).look (unhide HR)
        rw [hT]
        exact this)
      rw [← hT] at HTA
      clear hT
      obtain ⟨tg, tgb, tn, tc, o0, o1, o2, o3⟩ := T
      unfold tmV tmC at LK
      simp only at LK
      have KH : Hid (∀ W, Below w2.heap.size w2 W → GP B W sb (some mb) m c A) := hide (fun W hb => (unhide H2).later hb)
      have KX : Hid (∀ W, Below w2.heap.size w2 W → W.heap[xb]? = some (.cells #[.int .i64 2, .int .i64 gr, .int .i64 gen, .slice a l.length k, .int .i64 1, .int .i64 off] 29)) := hide (fun W hb => below_keep hb (unhide HX))
      have KT : Hid (∀ W, Below w2.heap.size w2 W → Touch (TP sb (some mb) w) w W) := hide (fun W hb => (unhide T2).trans (Touch.of_below hb))
      have KA : Hid (∀ W, Below w2.heap.size w2 W → TmA W ⟨tg, tgb, tn, tc, o0, o1, o2, o3⟩ (A gr)) := hide (fun W hb => (unhide HTA).keep (Touch.of_below (S := fun _ => False) hb) (fun _ h => h.elim))
      have KI : Hid (∀ W, Below w2.heap.size w2 W → IAt W (adr og) l) := hide (fun W hb => (unhide I2).later hb)
      have HG := hide (unhide HTA).gen
      generalize hsa : Option.map (fun g => (⟨g, 0, none⟩ : Addr)) tgb = sa at *
      have HSA := hide hsa
      clear hsa
      have SK : Hid (∀ W, Below w2.heap.size w2 W → W.cell? ⟨sb, 0, none⟩ = some (.map (some mb)) ∧ W.cell? ⟨xb, 1, none⟩ = some (.int .i64 gr) ∧ (Instr.lookup 49 (.map (some mb)) (.int .i64 gr) false).run Try.prog W = .ok (.agg #[.int .i64 tg, .slice sa tn tc, .int .i64 o0, .int .i64 o1, .int .i64 o2, .int .i64 o3]) W) := hide (fun W hb => ⟨cell_of (below_keep hb (unhide H2).obj) 0, cell_of (below_keep hb (unhide HX)) 1, unhide LK W hb⟩)
      clear LK HTA
      refine wp_region_held_drew (S := fun w' => Below w2.heap.size w2 w') (by kernel_rfl) ((Below.refl _ _).drew) (fun hHeld => ?_)
      refine take17 (i := 0) (d := 22) (v := .pointer (some ⟨sb, 0, none⟩)) rfl rfl (by kernel_rfl) (by kernel_rfl) (by kernel_rfl) (fun _ _ _ h => h) (Or.inl ⟨by rfl, by intro w' hSw; (try dsimp only at hSw); go_simp⟩) (by assumption) ?_; (try simp only [List.setIfInBounds_toArray, List.set_cons_zero, List.set_cons_succ])
      refine take17 (i := 1) (d := 23) (v := .pointer (some ⟨sb, 0, none⟩)) rfl rfl (by kernel_rfl) (by kernel_rfl) (by kernel_rfl) (fun _ _ _ h => h) (Or.inl ⟨by rfl, by intro w' hSw; (try dsimp only at hSw); go_simp⟩) (by assumption) ?_; (try simp only [List.setIfInBounds_toArray, List.set_cons_zero, List.set_cons_succ])
      refine take17 (i := 2) (d := 24) (v := .pointer (some ⟨sb, 0, none⟩)) rfl rfl (by kernel_rfl) (by kernel_rfl) (by kernel_rfl) (fun _ _ _ h => h) (Or.inl ⟨by rfl, by intro w' hSw; (try dsimp only at hSw); go_simp⟩) (by assumption) ?_; (try simp only [List.setIfInBounds_toArray, List.set_cons_zero, List.set_cons_succ])
      refine take17 (i := 3) (d := 25) (v := .map (some mb)) rfl rfl (by kernel_rfl) (by kernel_rfl) (by kernel_rfl) (fun _ _ _ h => h) (Or.inl ⟨by rfl, by intro w' hSw; (try dsimp only at hSw); obtain ⟨s0, s1, sl⟩ := unhide SK w' hSw; go_simp⟩) (by assumption) ?_; (try simp only [List.setIfInBounds_toArray, List.set_cons_zero, List.set_cons_succ])
      refine take17 (i := 4) (d := 26) (v := .pointer (some ⟨xb, 1, none⟩)) rfl rfl (by kernel_rfl) (by kernel_rfl) (by kernel_rfl) (fun _ _ _ h => h) (Or.inl ⟨by rfl, by intro w' hSw; (try dsimp only at hSw); go_simp⟩) (by assumption) ?_; (try simp only [List.setIfInBounds_toArray, List.set_cons_zero, List.set_cons_succ])
      refine take17 (i := 5) (d := 27) (v := .int .i64 gr) rfl rfl (by kernel_rfl) (by kernel_rfl) (by kernel_rfl) (fun _ _ _ h => h) (Or.inl ⟨by rfl, by intro w' hSw; (try dsimp only at hSw); obtain ⟨s0, s1, sl⟩ := unhide SK w' hSw; go_simp⟩) (by assumption) ?_; (try simp only [List.setIfInBounds_toArray, List.set_cons_zero, List.set_cons_succ])
      refine take17 (i := 6) (d := 28) (v := .agg #[.int .i64 tg, .slice sa tn tc, .int .i64 o0, .int .i64 o1, .int .i64 o2, .int .i64 o3]) rfl rfl (by kernel_rfl) (by kernel_rfl) (by kernel_rfl) (fun _ _ _ h => h) (Or.inl ⟨by rfl, by intro w' hSw; (try dsimp only at hSw); obtain ⟨s0, s1, sl⟩ := unhide SK w' hSw; go_simp⟩) (by assumption) ?_; (try simp only [List.setIfInBounds_toArray, List.set_cons_zero, List.set_cons_succ])
      refine wpAnyH_ready (rs := [7]) (by kernel_rfl) (by simp) ?_
      refine AllReadyH.cons rfl (fun K hK => ?_) AllReadyH.nil
      go_simp
      have b3 : Below w2.heap.size w2 (w2.drew.alloc (.cells #[.int .i64 0, .slice none 0 0, .int .i64 0, .int .i64 0, .int .i64 0, .int .i64 0] 61)) := ((Below.refl _ _).drew).alloc (Nat.le_refl _) _
      have HTB := hide (heap_new w2.drew (.cells #[.int .i64 0, .slice none 0 0, .int .i64 0, .int .i64 0, .int .i64 0, .int .i64 0] 61))
      have HB3 := hide b3
      refine hK.out _ _ b3 (fun hHeld => ?_)
      clear hK K b3
      (try simp only [Act.put, List.setIfInBounds_toArray, List.set_cons_zero, List.set_cons_succ])
      change wpAnyH _ _ _ _ _ _ _ _ (w2.drew.alloc (.cells #[.int .i64 0, .slice none 0 0, .int .i64 0, .int .i64 0, .int .i64 0, .int .i64 0] 61))
      have hdz : w2.drew.heap.size = w2.heap.size := rfl
      rw [hdz] at HTB
      clear hdz
      generalize w2.drew.alloc (.cells #[.int .i64 0, .slice none 0 0, .int .i64 0, .int .i64 0, .int .i64 0, .int .i64 0] 61) = w3 at *
      refine wpAnyH_ready (rs := [8]) (by kernel_rfl) (by simp) ?_
      refine AllReadyH.cons rfl (fun K hK => ?_) AllReadyH.nil
      rw [if_pos (by rfl)]
      obtain ⟨q1, q2⟩ := heap_setCells [.int .i64 tg, .slice sa tn tc, .int .i64 o0, .int .i64 o1, .int .i64 o2, .int .i64 o3] 0 w3 _ (unhide HTB)
      have HTB4 : Hid ((w3.setCells w2.heap.size 0 [.int .i64 tg, .slice sa tn tc, .int .i64 o0, .int .i64 o1, .int .i64 o2, .int .i64 o3]).heap[w2.heap.size]? = some (.cells #[.int .i64 tg, .slice sa tn tc, .int .i64 o0, .int .i64 o1, .int .i64 o2, .int .i64 o3] 61)) := hide q1
      have HB4 := hide (below_touch (unhide HB3) q2 (unhide HB3).size (fun k hk => by omega))
      refine wp_store_mid 61 (.tmp 6) (.tmp 28) rfl w2.heap.size 0 #[.int .i64 tg, .slice sa tn tc, .int .i64 o0, .int .i64 o1, .int .i64 o2, .int .i64 o3] rfl rfl (there_of (unhide HTB) (by show 0 + 6 ≤ 6; decide)) (by kernel_rfl) (by simp [Value.oneCell']) ?_
      refine hK.out _ _ (unhide HB4) (fun hHeld => ?_)
      clear hK K q1 q2 HTB HB3
      (try simp only [Act.put, List.setIfInBounds_toArray])
      change wpAnyH _ _ _ _ _ _ _ _ (w3.setCells w2.heap.size 0 [.int .i64 tg, .slice sa tn tc, .int .i64 o0, .int .i64 o1, .int .i64 o2, .int .i64 o3])
      generalize w3.setCells w2.heap.size 0 [.int .i64 tg, .slice sa tn tc, .int .i64 o0, .int .i64 o1, .int .i64 o2, .int .i64 o3] = w4 at *
      refine wpAnyH_done (by kernel_rfl) ?_ _
      have HXT : Hid (xb ≠ w2.heap.size) := hide (by have := lt_of_heap (unhide HX); omega)
      clear hHeld SK H2 HX T2 I2
      generalize hn : w2.heap.size = tb at *
      have HN := hide hn
      clear hn
      have x0 := cell_of (unhide KX _ (unhide HB4)) 0
      have x2 := cell_of (unhide KX _ (unhide HB4)) 2
      have u0 := cell_of (unhide HTB4) 0
      simp at x0 x2 u0
      clear x2 u0
      go_upto_region 7 with fail
      clear x0
      have hd5 : Below w4.heap.size w4 w4.drew := (Below.refl _ _).drew
      have HTB5 := hide (below_keep hd5 (unhide HTB4))
      have HB5 : Hid (Below tb w2 w4.drew) := hide (unhide HB4).drew
      have HX5 := hide (unhide KX _ (unhide HB5))
      clear HTB4 HB4 hd5
      refine wp_region_held_drew (S := fun w' => w'.heap[xb]? = some (.cells #[.int .i64 2, .int .i64 gr, .int .i64 gen, .slice a l.length k, .int .i64 1, .int .i64 off] 29)) (by kernel_rfl) (unhide HX5) (fun hHeld => ?_)
      generalize w4.drew = w5 at *
      refine take17 (i := 0) (d := 33) (v := .pointer (some ⟨xb, 4, none⟩)) rfl rfl (by kernel_rfl) (by kernel_rfl) (by kernel_rfl) (fun _ _ _ h => h) (Or.inl ⟨by rfl, by intro w' hSw; (try dsimp only at hSw); go_simp⟩) (by assumption) ?_; (try simp only [List.setIfInBounds_toArray, List.set_cons_zero, List.set_cons_succ])
      refine take17 (i := 1) (d := 34) (v := .int .i64 1) rfl rfl (by kernel_rfl) (by kernel_rfl) (by kernel_rfl) (fun _ _ _ h => h) (Or.inl ⟨by rfl, by intro w' hSw; (try dsimp only at hSw); have y4 := cell_of hSw 4; simp at y4; go_simp⟩) (by assumption) ?_; (try simp only [List.setIfInBounds_toArray, List.set_cons_zero, List.set_cons_succ])
      refine take17 (i := 2) (d := 35) (v := .pointer (some ⟨xb, 4, none⟩)) rfl rfl (by kernel_rfl) (by kernel_rfl) (by kernel_rfl) (fun _ _ _ h => h) (Or.inl ⟨by rfl, by intro w' hSw; (try dsimp only at hSw); go_simp⟩) (by assumption) ?_; (try simp only [List.setIfInBounds_toArray, List.set_cons_zero, List.set_cons_succ])
      refine take17 (i := 3) (d := 36) (v := .int .i64 1) rfl rfl (by kernel_rfl) (by kernel_rfl) (by kernel_rfl) (fun _ _ _ h => h) (Or.inl ⟨by rfl, by intro w' hSw; (try dsimp only at hSw); have y4 := cell_of hSw 4; simp at y4; go_simp⟩) (by assumption) ?_; (try simp only [List.setIfInBounds_toArray, List.set_cons_zero, List.set_cons_succ])
      refine take17 (i := 4) (d := 37) (v := .pointer (some ⟨tb, 2, none⟩)) rfl rfl (by kernel_rfl) (by kernel_rfl) (by kernel_rfl) (fun _ _ _ h => h) (Or.inl ⟨by rfl, by intro w' hSw; (try dsimp only at hSw); go_simp⟩) (by assumption) ?_; (try simp only [List.setIfInBounds_toArray, List.set_cons_zero, List.set_cons_succ])
      refine take17 (i := 5) (d := 38) (v := .pointer (some ⟨tb, 3, none⟩)) rfl rfl (by kernel_rfl) (by kernel_rfl) (by kernel_rfl) (fun _ _ _ h => h) (Or.inl ⟨by rfl, by intro w' hSw; (try dsimp only at hSw); go_simp⟩) (by assumption) ?_; (try simp only [List.setIfInBounds_toArray, List.set_cons_zero, List.set_cons_succ])
      refine take17 (i := 7) (d := 40) (v := .pointer (some ⟨xb, 5, none⟩)) rfl rfl (by kernel_rfl) (by kernel_rfl) (by kernel_rfl) (fun _ _ _ h => h) (Or.inl ⟨by rfl, by intro w' hSw; (try dsimp only at hSw); go_simp⟩) (by assumption) ?_; (try simp only [List.setIfInBounds_toArray, List.set_cons_zero, List.set_cons_succ])
      refine take17 (i := 8) (d := 41) (v := .int .i64 off) rfl rfl (by kernel_rfl) (by kernel_rfl) (by kernel_rfl) (fun _ _ _ h => h) (Or.inl ⟨by rfl, by intro w' hSw; (try dsimp only at hSw); have y5 := cell_of hSw 5; simp at y5; go_simp⟩) (by assumption) ?_; (try simp only [List.setIfInBounds_toArray, List.set_cons_zero, List.set_cons_succ])
      refine take17 (i := 10) (d := 43) (v := .pointer (some ⟨tb, 2, none⟩)) rfl rfl (by kernel_rfl) (by kernel_rfl) (by kernel_rfl) (fun _ _ _ h => h) (Or.inl ⟨by rfl, by intro w' hSw; (try dsimp only at hSw); go_simp⟩) (by assumption) ?_; (try simp only [List.setIfInBounds_toArray, List.set_cons_zero, List.set_cons_succ])
      have zt : w5.cell? ⟨tb, 3, none⟩ = some (.int .i64 o1) := cell_of (unhide HTB5) 3
      refine wpAnyH_ready (rs := [6]) (by kernel_rfl) (by simp) ?_
      refine AllReadyH.cons rfl (fun K hK => ?_) AllReadyH.nil
      go_simp
      refine hK.out _ _ (by assumption) (fun hHeld => ?_)
      clear hK K
      (try simp only [Act.put, List.setIfInBounds_toArray, List.set_cons_zero, List.set_cons_succ])
      refine take17 (i := 9) (d := 42) (v := .int .i64 (max o1 off)) rfl rfl (by kernel_rfl) (by kernel_rfl) (by kernel_rfl) (fun _ _ _ h => h) (Or.inl ⟨by rfl, by intro w' hSw; (try dsimp only at hSw); go_simp⟩) (by assumption) ?_; (try simp only [List.setIfInBounds_toArray, List.set_cons_zero, List.set_cons_succ])
      refine take17 (i := 11) (d := 44) (v := .pointer (some ⟨tb, 3, none⟩)) rfl rfl (by kernel_rfl) (by kernel_rfl) (by kernel_rfl) (fun _ _ _ h => h) (Or.inl ⟨by rfl, by intro w' hSw; (try dsimp only at hSw); go_simp⟩) (by assumption) ?_; (try simp only [List.setIfInBounds_toArray, List.set_cons_zero, List.set_cons_succ])
      have ft : w5.frozen? ⟨tb, 3, none⟩ = false := frozen_of (unhide HTB5) 3
      have tt := touch_set w5 tb 3 (.int .i64 (max o1 off))
      have HTB6 := hide (heap_set (unhide HTB5) 3 (.int .i64 (max o1 off)))
      have HX6 := hide (tt.keep (unhide HX5) (unhide HXT))
      have HB6 := hide (below_touch (unhide HB5) tt (by have h1 := (unhide HB5).size; have h2 := unhide HN; omega) (fun k hk => by omega))
      clear tt HTB5 HX5 HB5
      refine wpAnyH_ready (rs := [12]) (by kernel_rfl) (by simp) ?_
      refine AllReadyH.cons rfl (fun K hK => ?_) AllReadyH.nil
      go_simp
      refine hK.out _ _ (unhide HX6) (fun hHeld => ?_)
      clear hK K zt ft HX6
      (try simp only [Act.put, List.setIfInBounds_toArray])
      generalize w5.setCell ⟨tb, 3, none⟩ (.int .i64 (max o1 off)) = w6 at *
      refine wpAnyH_done (by kernel_rfl) ?_ _
      clear hHeld
      go_upto_region 10 with fail
      have HB7 : Hid (Below tb w2 w6.drew) := hide (unhide HB6).drew
      have HTB7 := hide (below_keep ((Below.refl w6.heap.size w6).drew) (unhide HTB6))
      have H7 := hide (unhide KH _ (unhide HB7))
      have HX7 := hide (unhide KX _ (unhide HB7))
      clear HB6 HTB6
      obtain ⟨w8, hst, hm8, ht8⟩ := (unhide H7).map1.1.store (M := gK) (s := gr) (Nat.lt_of_le_of_lt (unhide H7).few (unhide HC)) (key_wf (unhide HR)) ⟨tg, tgb, tn, tc, o0, (max o1 off), o2, o3⟩
      have hst' : (Instr.mapUpdate 49 (.map (some mb)) (.int .i64 gr) (.agg #[.int .i64 tg, .slice sa tn tc, .int .i64 o0, .int .i64 (max o1 off), .int .i64 o2, .int .i64 o3])).run Try.prog w6.drew = .ok () w8 := by
        rw [← unhide HSA]
        exact hst
      have nsb : sb ≠ mb := fun e => by
        obtain ⟨es, ck, h1⟩ := (unhide H7).map1.1.block
        rw [← e, (unhide H7).obj] at h1
        cases h1
      have nxb : xb ≠ mb := fun e => by
        obtain ⟨es, ck, h1⟩ := (unhide H7).map1.1.block
        rw [← e, unhide HX7] at h1
        cases h1
      have ntb : tb ≠ mb := fun e => by
        obtain ⟨es, ck, h1⟩ := (unhide H7).map1.1.block
        rw [← e, unhide HTB7] at h1
        cases h1
      have TA7 : TmA w6.drew ⟨tg, tgb, tn, tc, o0, (max o1 off), o2, o3⟩ (gaPut ⟨2, gr, gen, l, 1, off⟩ (A gr)) := by
        have q := unhide KA _ (unhide HB7)
        have qi := unhide KI _ (unhide HB7)
        have e0 := q.o0
        have e1 := q.o1
        have e2 := q.o2
        have e3 := q.o3
        simp only at e0 e1 e2 e3
        unfold gaPut
        simp only [if_true]
        refine ⟨q.gen, q.n, q.l, ?_, ?_, ?_, ?_, q.few⟩ <;> simp [e0, e1, e2, e3]
      have F8 : Hid (HdQ B w sb (some mb) c A ⟨2, gr, gen, l, 1, off⟩ (.returned (.tuple #[])) w8) := hide (hd_end (unhide H7) (unhide HMB) (unhide KT _ (unhide HB7)) hm8 ht8 nsb TA7)
      have S8 : Hid (w8.cell? ⟨sb, 0, none⟩ = some (.map (some mb)) ∧ w8.heap[xb]? = some (.cells #[.int .i64 2, .int .i64 gr, .int .i64 gen, .slice a l.length k, .int .i64 1, .int .i64 off] 29) ∧ w8.heap[tb]? = some (.cells #[.int .i64 tg, .slice sa tn tc, .int .i64 o0, .int .i64 (max o1 off), .int .i64 o2, .int .i64 o3] 61)) := hide ⟨cell_of (ht8.keep (unhide H7).obj nsb) 0, ht8.keep (unhide HX7) nxb, ht8.keep (unhide HTB7) ntb⟩
      have S7 : Hid (w6.drew.cell? ⟨sb, 0, none⟩ = some (.map (some mb)) ∧ w6.drew.heap[xb]? = some (.cells #[.int .i64 2, .int .i64 gr, .int .i64 gen, .slice a l.length k, .int .i64 1, .int .i64 off] 29) ∧ w6.drew.heap[tb]? = some (.cells #[.int .i64 tg, .slice sa tn tc, .int .i64 o0, .int .i64 (max o1 off), .int .i64 o2, .int .i64 o3] 61)) := hide ⟨cell_of (unhide H7).obj 0, unhide HX7, unhide HTB7⟩
      clear hst hm8 ht8 nsb nxb ntb H7 HX7 HTB7 HB7 TA7 KH KX KT KA KI HMB
      refine wp_region_held_drew (S := fun w' => w'.cell? ⟨sb, 0, none⟩ = some (.map (some mb)) ∧ w'.heap[xb]? = some (.cells #[.int .i64 2, .int .i64 gr, .int .i64 gen, .slice a l.length k, .int .i64 1, .int .i64 off] 29) ∧ w'.heap[tb]? = some (.cells #[.int .i64 tg, .slice sa tn tc, .int .i64 o0, .int .i64 (max o1 off), .int .i64 o2, .int .i64 o3] 61)) (by kernel_rfl) (unhide S7) (fun hHeld => ?_)
      clear S7
      generalize w6.drew = w7 at *
      refine take17 (i := 0) (d := 57) (v := .pointer (some ⟨sb, 0, none⟩)) rfl rfl (by kernel_rfl) (by kernel_rfl) (by kernel_rfl) (fun _ _ _ h => h) (Or.inl ⟨by rfl, by intro w' hSw; (try dsimp only at hSw); go_simp⟩) (by assumption) ?_; (try simp only [List.setIfInBounds_toArray, List.set_cons_zero, List.set_cons_succ])
      refine take17 (i := 1) (d := 58) (v := .pointer (some ⟨sb, 0, none⟩)) rfl rfl (by kernel_rfl) (by kernel_rfl) (by kernel_rfl) (fun _ _ _ h => h) (Or.inl ⟨by rfl, by intro w' hSw; (try dsimp only at hSw); go_simp⟩) (by assumption) ?_; (try simp only [List.setIfInBounds_toArray, List.set_cons_zero, List.set_cons_succ])
      refine take17 (i := 2) (d := 59) (v := .pointer (some ⟨sb, 0, none⟩)) rfl rfl (by kernel_rfl) (by kernel_rfl) (by kernel_rfl) (fun _ _ _ h => h) (Or.inl ⟨by rfl, by intro w' hSw; (try dsimp only at hSw); go_simp⟩) (by assumption) ?_; (try simp only [List.setIfInBounds_toArray, List.set_cons_zero, List.set_cons_succ])
      refine take17 (i := 3) (d := 60) (v := .map (some mb)) rfl rfl (by kernel_rfl) (by kernel_rfl) (by kernel_rfl) (fun _ _ _ h => h) (Or.inl ⟨by rfl, by intro w' hSw; (try dsimp only at hSw); obtain ⟨s0, s1, s2⟩ := hSw; go_simp⟩) (by assumption) ?_; (try simp only [List.setIfInBounds_toArray, List.set_cons_zero, List.set_cons_succ])
      refine take17 (i := 4) (d := 61) (v := .pointer (some ⟨xb, 1, none⟩)) rfl rfl (by kernel_rfl) (by kernel_rfl) (by kernel_rfl) (fun _ _ _ h => h) (Or.inl ⟨by rfl, by intro w' hSw; (try dsimp only at hSw); go_simp⟩) (by assumption) ?_; (try simp only [List.setIfInBounds_toArray, List.set_cons_zero, List.set_cons_succ])
      refine take17 (i := 5) (d := 62) (v := .int .i64 gr) rfl rfl (by kernel_rfl) (by kernel_rfl) (by kernel_rfl) (fun _ _ _ h => h) (Or.inl ⟨by rfl, by intro w' hSw; (try dsimp only at hSw); obtain ⟨s0, s1, s2⟩ := hSw; have y1 := cell_of s1 1; simp at y1; go_simp⟩) (by assumption) ?_; (try simp only [List.setIfInBounds_toArray, List.set_cons_zero, List.set_cons_succ])
      refine take17 (i := 6) (d := 63) (v := .agg #[.int .i64 tg, .slice sa tn tc, .int .i64 o0, .int .i64 (max o1 off), .int .i64 o2, .int .i64 o3]) rfl rfl (by kernel_rfl) (by kernel_rfl) (by kernel_rfl) (fun _ _ _ h => h) (Or.inl ⟨by rfl, by intro w' hSw; (try dsimp only at hSw); obtain ⟨s0, s1, s2⟩ := hSw; have q0 := cell_of s2 0; have q1 := cell_of s2 1; have q2 := cell_of s2 2; have q3 := cell_of s2 3; have q4 := cell_of s2 4; have q5 := cell_of s2 5; simp at q0 q1 q2 q3 q4 q5; go_simp⟩) (by assumption) ?_; (try simp only [List.setIfInBounds_toArray, List.set_cons_zero, List.set_cons_succ])
      refine wpAnyH_ready (rs := [7]) (by kernel_rfl) (by simp) ?_
      refine AllReadyH.cons rfl (fun K hK => ?_) AllReadyH.nil
      go_simp
      refine hK.out _ _ (unhide S8) (fun hHeld => ?_)
      clear hK K
      (try simp only [Act.put, List.setIfInBounds_toArray])
      refine wpAnyH_done (by kernel_rfl) ?_ _
      clear hHeld hst'
      go_wp2
      go_roundw
      case rel => exact .inr ⟨by go_num, F8⟩
      case measure => simp [intOf]
    · go_wp2
      go_returns
      exact unhide hh
set_option maxRecDepth 100000 in
set_option maxHeartbeats 8000000 in
theorem gold_some_off2 {B : Nat} {w : World} {sb c : Nat} {m : List (Int × Tm)} {A : Int → Ga} {gr gen off : Int} {l : List Int} {v : Value} {mb : Nat} (h : GP B w sb (some mb) m c A) (hv : OneS B w v ⟨2, gr, gen, l, 2, off⟩) (hr : 0 ≤ gr ∧ gr < 8) (hl : l.length ≤ 8) (hc : c < maxLen) (hB : B ≤ w.heap.size) :
    Calls Try.prog 18 #[.pointer (some ⟨sb, 0, none⟩), v] w fun e w' => HdQ B w sb (some mb) c A ⟨2, gr, gen, l, 2, off⟩ e w' := by
  obtain ⟨g, cv, og, a, k, ha, rfl, hw, hi, hg⟩ := hv
  have HA := hide ha
  have hi' : IAt w (adr og) l := by have q := hi; rw [ha] at q; exact q
  clear ha
  have y0 : w.cell? ⟨sb, 0, none⟩ = some (.map (some mb)) := cell_of h.obj 0
  have H := hide h
  have HW := hide hw
  have HI := hide hi'
  have HB := hide hB
  have HR := hide hr
  have HL := hide hl
  have HC := hide hc

  have hq : ∀ (W : World) (b : Nat), (binOp .eql 49 (.map (some b)) (.map none)).run Try.prog W = .ok (.bool false) W := fun _ _ => by kernel_rfl
  have hq0 : ∀ (W : World), (binOp .eql 49 (.map none) (.map none)).run Try.prog W = .ok (.bool true) W := fun _ => by kernel_rfl
  clear h hw hg hB hi hi' hr hl hc
  go_enter Try.func18, Try.ntmps18
  go_upto_region 2 with fail
  have HMB : Hid (Grew (some mb) w mb) := hide (.inl rfl)
  obtain ⟨w1, hw1⟩ : ∃ w1, w1 = w := ⟨_, rfl⟩
  have H1 : Hid (GP B w1 sb (some mb) m c A) := by rw [hw1]; exact H
  have W1 : Hid (Wide w1 29 6 (.slice (some ⟨g, 0, none⟩) 1 cv) 1 [.int .i64 2, .int .i64 gr, .int .i64 gen, .slice a l.length k, .int .i64 2, .int .i64 off]) := by rw [hw1]; exact HW
  have I1 : Hid (IAt w1 (adr og) l) := by rw [hw1]; exact HI
  have T1 : Hid (Touch (TP sb (some mb) w) w w1) := by rw [hw1]; exact hide (Touch.refl _ _)
  clear y0 H HW HI
  rw [← hw1]
  clear hw1
  go_wp2_with fail
  go_loopw [18] (fun iv wr => (iv = .int .i64 0 ∧ wr = w1) ∨ (iv = .int .i64 1 ∧ Hid (HdQ B w sb (some mb) c A ⟨2, gr, gen, l, 2, off⟩ (.returned (.tuple #[])) wr))) (fun iv _ => 1 - (intOf iv).toNat)
  case atStart => exact .inl ⟨rfl, rfl⟩
  case round =>
    rcases hrel with ⟨rfl, rfl⟩ | ⟨rfl, hh⟩
    · obtain ⟨a', cap, ev, _, _, _, _, hcx⟩ := (unhide W1).parts
      obtain ⟨g', ea, _, hcell, _⟩ := hcx (by omega)
      injection ev with e1 e2 e3
      rw [ea] at e1
      cases e1
      have z0 := hcell 0 (by omega)
      have z1 := hcell 1 (by omega)
      have z2 := hcell 2 (by omega)
      have z3 := hcell 3 (by omega)
      have z4 := hcell 4 (by omega)
      have z5 := hcell 5 (by omega)
      simp only [List.getElem?_cons_zero, List.getElem?_cons_succ] at z0 z1 z2 z3 z4 z5
      clear hcell hcx ea e2 e3
      go_upto_region 5 with fail
      have b2 := (Below.refl wr.heap.size wr).alloc (Nat.le_refl _) (.cells #[.int .i64 2, .int .i64 gr, .int .i64 gen, .slice a l.length k, .int .i64 2, .int .i64 off] 29)
      have HX := hide (heap_new wr (.cells #[.int .i64 2, .int .i64 gr, .int .i64 gen, .slice a l.length k, .int .i64 2, .int .i64 off] 29))
      have H2 := hide ((unhide H1).later b2)
      have I2 := hide ((unhide I1).later b2)
      have T2 := hide ((unhide T1).trans (Touch.of_below b2))
      clear b2 H1 W1 T1 I1 z0 z1 z2 z3 z4 z5
      change Code.wp _ _ _ _ (wr.alloc (.cells #[.int .i64 2, .int .i64 gr, .int .i64 gen, .slice a l.length k, .int .i64 2, .int .i64 off] 29))
      generalize wr.alloc (.cells #[.int .i64 2, .int .i64 gr, .int .i64 gen, .slice a l.length k, .int .i64 2, .int .i64 off] 29) = w2 at *
      generalize wr.heap.size = xb at *
      obtain ⟨T, hT⟩ : ∃ T, T = mgot gK (matx m gr) := ⟨_, rfl⟩
      have HTA := hide ((unhide H2).team gr)
      have LK : Hid (∀ W, Below w2.heap.size w2 W → (Instr.lookup 49 (.map (some mb)) (.int .i64 gr) false).run Try.prog W = .ok (tmV T) W) := hide (fun W hb => by
        have := ((unhide H2).later hb).look (unhide HR)
        rw [hT]
        exact this)
      rw [← hT] at HTA
      clear hT
      obtain ⟨tg, tgb, tn, tc, o0, o1, o2, o3⟩ := T
      unfold tmV tmC at LK
      simp only at LK
      have KH : Hid (∀ W, Below w2.heap.size w2 W → GP B W sb (some mb) m c A) := hide (fun W hb => (unhide H2).later hb)
      have KX : Hid (∀ W, Below w2.heap.size w2 W → W.heap[xb]? = some (.cells #[.int .i64 2, .int .i64 gr, .int .i64 gen, .slice a l.length k, .int .i64 2, .int .i64 off] 29)) := hide (fun W hb => below_keep hb (unhide HX))
      have KT : Hid (∀ W, Below w2.heap.size w2 W → Touch (TP sb (some mb) w) w W) := hide (fun W hb => (unhide T2).trans (Touch.of_below hb))
      have KA : Hid (∀ W, Below w2.heap.size w2 W → TmA W ⟨tg, tgb, tn, tc, o0, o1, o2, o3⟩ (A gr)) := hide (fun W hb => (unhide HTA).keep (Touch.of_below (S := fun _ => False) hb) (fun _ h => h.elim))
      have KI : Hid (∀ W, Below w2.heap.size w2 W → IAt W (adr og) l) := hide (fun W hb => (unhide I2).later hb)
      have HG := hide (unhide HTA).gen
      generalize hsa : Option.map (fun g => (⟨g, 0, none⟩ : Addr)) tgb = sa at *
      have HSA := hide hsa
      clear hsa
      have SK : Hid (∀ W, Below w2.heap.size w2 W → W.cell? ⟨sb, 0, none⟩ = some (.map (some mb)) ∧ W.cell? ⟨xb, 1, none⟩ = some (.int .i64 gr) ∧ (Instr.lookup 49 (.map (some mb)) (.int .i64 gr) false).run Try.prog W = .ok (.agg #[.int .i64 tg, .slice sa tn tc, .int .i64 o0, .int .i64 o1, .int .i64 o2, .int .i64 o3]) W) := hide (fun W hb => ⟨cell_of (below_keep hb (unhide H2).obj) 0, cell_of (below_keep hb (unhide HX)) 1, unhide LK W hb⟩)
      clear LK HTA
      refine wp_region_held_drew (S := fun w' => Below w2.heap.size w2 w') (by kernel_rfl) ((Below.refl _ _).drew) (fun hHeld => ?_)
      refine take17 (i := 0) (d := 22) (v := .pointer (some ⟨sb, 0, none⟩)) rfl rfl (by kernel_rfl) (by kernel_rfl) (by kernel_rfl) (fun _ _ _ h => h) (Or.inl ⟨by rfl, by intro w' hSw; (try dsimp only at hSw); go_simp⟩) (by assumption) ?_; (try simp only [List.setIfInBounds_toArray, List.set_cons_zero, List.set_cons_succ])
      refine take17 (i := 1) (d := 23) (v := .pointer (some ⟨sb, 0, none⟩)) rfl rfl (by kernel_rfl) (by kernel_rfl) (by kernel_rfl) (fun _ _ _ h => h) (Or.inl ⟨by rfl, by intro w' hSw; (try dsimp only at hSw); go_simp⟩) (by assumption) ?_; (try simp only [List.setIfInBounds_toArray, List.set_cons_zero, List.set_cons_succ])
      refine take17 (i := 2) (d := 24) (v := .pointer (some ⟨sb, 0, none⟩)) rfl rfl (by kernel_rfl) (by kernel_rfl) (by kernel_rfl) (fun _ _ _ h => h) (Or.inl ⟨by rfl, by intro w' hSw; (try dsimp only at hSw); go_simp⟩) (by assumption) ?_; (try simp only [List.setIfInBounds_toArray, List.set_cons_zero, List.set_cons_succ])
      refine take17 (i := 3) (d := 25) (v := .map (some mb)) rfl rfl (by kernel_rfl) (by kernel_rfl) (by kernel_rfl) (fun _ _ _ h => h) (Or.inl ⟨by rfl, by intro w' hSw; (try dsimp only at hSw); obtain ⟨s0, s1, sl⟩ := unhide SK w' hSw; go_simp⟩) (by assumption) ?_; (try simp only [List.setIfInBounds_toArray, List.set_cons_zero, List.set_cons_succ])
      refine take17 (i := 4) (d := 26) (v := .pointer (some ⟨xb, 1, none⟩)) rfl rfl (by kernel_rfl) (by kernel_rfl) (by kernel_rfl) (fun _ _ _ h => h) (Or.inl ⟨by rfl, by intro w' hSw; (try dsimp only at hSw); go_simp⟩) (by assumption) ?_; (try simp only [List.setIfInBounds_toArray, List.set_cons_zero, List.set_cons_succ])
      refine take17 (i := 5) (d := 27) (v := .int .i64 gr) rfl rfl (by kernel_rfl) (by kernel_rfl) (by kernel_rfl) (fun _ _ _ h => h) (Or.inl ⟨by rfl, by intro w' hSw; (try dsimp only at hSw); obtain ⟨s0, s1, sl⟩ := unhide SK w' hSw; go_simp⟩) (by assumption) ?_; (try simp only [List.setIfInBounds_toArray, List.set_cons_zero, List.set_cons_succ])
      refine take17 (i := 6) (d := 28) (v := .agg #[.int .i64 tg, .slice sa tn tc, .int .i64 o0, .int .i64 o1, .int .i64 o2, .int .i64 o3]) rfl rfl (by kernel_rfl) (by kernel_rfl) (by kernel_rfl) (fun _ _ _ h => h) (Or.inl ⟨by rfl, by intro w' hSw; (try dsimp only at hSw); obtain ⟨s0, s1, sl⟩ := unhide SK w' hSw; go_simp⟩) (by assumption) ?_; (try simp only [List.setIfInBounds_toArray, List.set_cons_zero, List.set_cons_succ])
      refine wpAnyH_ready (rs := [7]) (by kernel_rfl) (by simp) ?_
      refine AllReadyH.cons rfl (fun K hK => ?_) AllReadyH.nil
      go_simp
      have b3 : Below w2.heap.size w2 (w2.drew.alloc (.cells #[.int .i64 0, .slice none 0 0, .int .i64 0, .int .i64 0, .int .i64 0, .int .i64 0] 61)) := ((Below.refl _ _).drew).alloc (Nat.le_refl _) _
      have HTB := hide (heap_new w2.drew (.cells #[.int .i64 0, .slice none 0 0, .int .i64 0, .int .i64 0, .int .i64 0, .int .i64 0] 61))
      have HB3 := hide b3
      refine hK.out _ _ b3 (fun hHeld => ?_)
      clear hK K b3
      (try simp only [Act.put, List.setIfInBounds_toArray, List.set_cons_zero, List.set_cons_succ])
      change wpAnyH _ _ _ _ _ _ _ _ (w2.drew.alloc (.cells #[.int .i64 0, .slice none 0 0, .int .i64 0, .int .i64 0, .int .i64 0, .int .i64 0] 61))
      have hdz : w2.drew.heap.size = w2.heap.size := rfl
      rw [hdz] at HTB
      clear hdz
      generalize w2.drew.alloc (.cells #[.int .i64 0, .slice none 0 0, .int .i64 0, .int .i64 0, .int .i64 0, .int .i64 0] 61) = w3 at *
      refine wpAnyH_ready (rs := [8]) (by kernel_rfl) (by simp) ?_
      refine AllReadyH.cons rfl (fun K hK => ?_) AllReadyH.nil
      rw [if_pos (by rfl)]
      obtain ⟨q1, q2⟩ := heap_setCells [.int .i64 tg, .slice sa tn tc, .int .i64 o0, .int .i64 o1, .int .i64 o2, .int .i64 o3] 0 w3 _ (unhide HTB)
      have HTB4 : Hid ((w3.setCells w2.heap.size 0 [.int .i64 tg, .slice sa tn tc, .int .i64 o0, .int .i64 o1, .int .i64 o2, .int .i64 o3]).heap[w2.heap.size]? = some (.cells #[.int .i64 tg, .slice sa tn tc, .int .i64 o0, .int .i64 o1, .int .i64 o2, .int .i64 o3] 61)) := hide q1
      have HB4 := hide (below_touch (unhide HB3) q2 (unhide HB3).size (fun k hk => by omega))
      refine wp_store_mid 61 (.tmp 6) (.tmp 28) rfl w2.heap.size 0 #[.int .i64 tg, .slice sa tn tc, .int .i64 o0, .int .i64 o1, .int .i64 o2, .int .i64 o3] rfl rfl (there_of (unhide HTB) (by show 0 + 6 ≤ 6; decide)) (by kernel_rfl) (by simp [Value.oneCell']) ?_
      refine hK.out _ _ (unhide HB4) (fun hHeld => ?_)
      clear hK K q1 q2 HTB HB3
      (try simp only [Act.put, List.setIfInBounds_toArray])
      change wpAnyH _ _ _ _ _ _ _ _ (w3.setCells w2.heap.size 0 [.int .i64 tg, .slice sa tn tc, .int .i64 o0, .int .i64 o1, .int .i64 o2, .int .i64 o3])
      generalize w3.setCells w2.heap.size 0 [.int .i64 tg, .slice sa tn tc, .int .i64 o0, .int .i64 o1, .int .i64 o2, .int .i64 o3] = w4 at *
      refine wpAnyH_done (by kernel_rfl) ?_ _
      have HXT : Hid (xb ≠ w2.heap.size) := hide (by have := lt_of_heap (unhide HX); omega)
      clear hHeld SK H2 HX T2 I2
      generalize hn : w2.heap.size = tb at *
      have HN := hide hn
      clear hn
      have x0 := cell_of (unhide KX _ (unhide HB4)) 0
      have x2 := cell_of (unhide KX _ (unhide HB4)) 2
      have u0 := cell_of (unhide HTB4) 0
      simp at x0 x2 u0
      clear x2 u0
      go_upto_region 7 with fail
      clear x0
      have hd5 : Below w4.heap.size w4 w4.drew := (Below.refl _ _).drew
      have HTB5 := hide (below_keep hd5 (unhide HTB4))
      have HB5 : Hid (Below tb w2 w4.drew) := hide (unhide HB4).drew
      have HX5 := hide (unhide KX _ (unhide HB5))
      clear HTB4 HB4 hd5
      refine wp_region_held_drew (S := fun w' => w'.heap[xb]? = some (.cells #[.int .i64 2, .int .i64 gr, .int .i64 gen, .slice a l.length k, .int .i64 2, .int .i64 off] 29)) (by kernel_rfl) (unhide HX5) (fun hHeld => ?_)
      generalize w4.drew = w5 at *
      refine take17 (i := 0) (d := 33) (v := .pointer (some ⟨xb, 4, none⟩)) rfl rfl (by kernel_rfl) (by kernel_rfl) (by kernel_rfl) (fun _ _ _ h => h) (Or.inl ⟨by rfl, by intro w' hSw; (try dsimp only at hSw); go_simp⟩) (by assumption) ?_; (try simp only [List.setIfInBounds_toArray, List.set_cons_zero, List.set_cons_succ])
      refine take17 (i := 1) (d := 34) (v := .int .i64 2) rfl rfl (by kernel_rfl) (by kernel_rfl) (by kernel_rfl) (fun _ _ _ h => h) (Or.inl ⟨by rfl, by intro w' hSw; (try dsimp only at hSw); have y4 := cell_of hSw 4; simp at y4; go_simp⟩) (by assumption) ?_; (try simp only [List.setIfInBounds_toArray, List.set_cons_zero, List.set_cons_succ])
      refine take17 (i := 2) (d := 35) (v := .pointer (some ⟨xb, 4, none⟩)) rfl rfl (by kernel_rfl) (by kernel_rfl) (by kernel_rfl) (fun _ _ _ h => h) (Or.inl ⟨by rfl, by intro w' hSw; (try dsimp only at hSw); go_simp⟩) (by assumption) ?_; (try simp only [List.setIfInBounds_toArray, List.set_cons_zero, List.set_cons_succ])
      refine take17 (i := 3) (d := 36) (v := .int .i64 2) rfl rfl (by kernel_rfl) (by kernel_rfl) (by kernel_rfl) (fun _ _ _ h => h) (Or.inl ⟨by rfl, by intro w' hSw; (try dsimp only at hSw); have y4 := cell_of hSw 4; simp at y4; go_simp⟩) (by assumption) ?_; (try simp only [List.setIfInBounds_toArray, List.set_cons_zero, List.set_cons_succ])
      refine take17 (i := 4) (d := 37) (v := .pointer (some ⟨tb, 2, none⟩)) rfl rfl (by kernel_rfl) (by kernel_rfl) (by kernel_rfl) (fun _ _ _ h => h) (Or.inl ⟨by rfl, by intro w' hSw; (try dsimp only at hSw); go_simp⟩) (by assumption) ?_; (try simp only [List.setIfInBounds_toArray, List.set_cons_zero, List.set_cons_succ])
      refine take17 (i := 5) (d := 38) (v := .pointer (some ⟨tb, 4, none⟩)) rfl rfl (by kernel_rfl) (by kernel_rfl) (by kernel_rfl) (fun _ _ _ h => h) (Or.inl ⟨by rfl, by intro w' hSw; (try dsimp only at hSw); go_simp⟩) (by assumption) ?_; (try simp only [List.setIfInBounds_toArray, List.set_cons_zero, List.set_cons_succ])
      refine take17 (i := 7) (d := 40) (v := .pointer (some ⟨xb, 5, none⟩)) rfl rfl (by kernel_rfl) (by kernel_rfl) (by kernel_rfl) (fun _ _ _ h => h) (Or.inl ⟨by rfl, by intro w' hSw; (try dsimp only at hSw); go_simp⟩) (by assumption) ?_; (try simp only [List.setIfInBounds_toArray, List.set_cons_zero, List.set_cons_succ])
      refine take17 (i := 8) (d := 41) (v := .int .i64 off) rfl rfl (by kernel_rfl) (by kernel_rfl) (by kernel_rfl) (fun _ _ _ h => h) (Or.inl ⟨by rfl, by intro w' hSw; (try dsimp only at hSw); have y5 := cell_of hSw 5; simp at y5; go_simp⟩) (by assumption) ?_; (try simp only [List.setIfInBounds_toArray, List.set_cons_zero, List.set_cons_succ])
      refine take17 (i := 10) (d := 43) (v := .pointer (some ⟨tb, 2, none⟩)) rfl rfl (by kernel_rfl) (by kernel_rfl) (by kernel_rfl) (fun _ _ _ h => h) (Or.inl ⟨by rfl, by intro w' hSw; (try dsimp only at hSw); go_simp⟩) (by assumption) ?_; (try simp only [List.setIfInBounds_toArray, List.set_cons_zero, List.set_cons_succ])
      have zt : w5.cell? ⟨tb, 4, none⟩ = some (.int .i64 o2) := cell_of (unhide HTB5) 4
      refine wpAnyH_ready (rs := [6]) (by kernel_rfl) (by simp) ?_
      refine AllReadyH.cons rfl (fun K hK => ?_) AllReadyH.nil
      go_simp
      refine hK.out _ _ (by assumption) (fun hHeld => ?_)
      clear hK K
      (try simp only [Act.put, List.setIfInBounds_toArray, List.set_cons_zero, List.set_cons_succ])
      refine take17 (i := 9) (d := 42) (v := .int .i64 (max o2 off)) rfl rfl (by kernel_rfl) (by kernel_rfl) (by kernel_rfl) (fun _ _ _ h => h) (Or.inl ⟨by rfl, by intro w' hSw; (try dsimp only at hSw); go_simp⟩) (by assumption) ?_; (try simp only [List.setIfInBounds_toArray, List.set_cons_zero, List.set_cons_succ])
      refine take17 (i := 11) (d := 44) (v := .pointer (some ⟨tb, 4, none⟩)) rfl rfl (by kernel_rfl) (by kernel_rfl) (by kernel_rfl) (fun _ _ _ h => h) (Or.inl ⟨by rfl, by intro w' hSw; (try dsimp only at hSw); go_simp⟩) (by assumption) ?_; (try simp only [List.setIfInBounds_toArray, List.set_cons_zero, List.set_cons_succ])
      have ft : w5.frozen? ⟨tb, 4, none⟩ = false := frozen_of (unhide HTB5) 4
      have tt := touch_set w5 tb 4 (.int .i64 (max o2 off))
      have HTB6 := hide (heap_set (unhide HTB5) 4 (.int .i64 (max o2 off)))
      have HX6 := hide (tt.keep (unhide HX5) (unhide HXT))
      have HB6 := hide (below_touch (unhide HB5) tt (by have h1 := (unhide HB5).size; have h2 := unhide HN; omega) (fun k hk => by omega))
      clear tt HTB5 HX5 HB5
      refine wpAnyH_ready (rs := [12]) (by kernel_rfl) (by simp) ?_
      refine AllReadyH.cons rfl (fun K hK => ?_) AllReadyH.nil
      go_simp
      refine hK.out _ _ (unhide HX6) (fun hHeld => ?_)
      clear hK K zt ft HX6
      (try simp only [Act.put, List.setIfInBounds_toArray])
      generalize w5.setCell ⟨tb, 4, none⟩ (.int .i64 (max o2 off)) = w6 at *
      refine wpAnyH_done (by kernel_rfl) ?_ _
      clear hHeld
      go_upto_region 10 with fail
      have HB7 : Hid (Below tb w2 w6.drew) := hide (unhide HB6).drew
      have HTB7 := hide (below_keep ((Below.refl w6.heap.size w6).drew) (unhide HTB6))
      have H7 := hide (unhide KH _ (unhide HB7))
      have HX7 := hide (unhide KX _ (unhide HB7))
      clear HB6 HTB6
      obtain ⟨w8, hst, hm8, ht8⟩ := (unhide H7).map1.1.store (M := gK) (s := gr) (Nat.lt_of_le_of_lt (unhide H7).few (unhide HC)) (key_wf (unhide HR)) ⟨tg, tgb, tn, tc, o0, o1, (max o2 off), o3⟩
      have hst' : (Instr.mapUpdate 49 (.map (some mb)) (.int .i64 gr) (.agg #[.int .i64 tg, .slice sa tn tc, .int .i64 o0, .int .i64 o1, .int .i64 (max o2 off), .int .i64 o3])).run Try.prog w6.drew = .ok () w8 := by
        rw [← unhide HSA]
        exact hst
      have nsb : sb ≠ mb := fun e => by
        obtain ⟨es, ck, h1⟩ := (unhide H7).map1.1.block
        rw [← e, (unhide H7).obj] at h1
        cases h1
      have nxb : xb ≠ mb := fun e => by
        obtain ⟨es, ck, h1⟩ := (unhide H7).map1.1.block
        rw [← e, unhide HX7] at h1
        cases h1
      have ntb : tb ≠ mb := fun e => by
        obtain ⟨es, ck, h1⟩ := (unhide H7).map1.1.block
        rw [← e, unhide HTB7] at h1
        cases h1
      have TA7 : TmA w6.drew ⟨tg, tgb, tn, tc, o0, o1, (max o2 off), o3⟩ (gaPut ⟨2, gr, gen, l, 2, off⟩ (A gr)) := by
        have q := unhide KA _ (unhide HB7)
        have qi := unhide KI _ (unhide HB7)
        have e0 := q.o0
        have e1 := q.o1
        have e2 := q.o2
        have e3 := q.o3
        simp only at e0 e1 e2 e3
        unfold gaPut
        simp only [if_true]
        refine ⟨q.gen, q.n, q.l, ?_, ?_, ?_, ?_, q.few⟩ <;> simp [e0, e1, e2, e3]
      have F8 : Hid (HdQ B w sb (some mb) c A ⟨2, gr, gen, l, 2, off⟩ (.returned (.tuple #[])) w8) := hide (hd_end (unhide H7) (unhide HMB) (unhide KT _ (unhide HB7)) hm8 ht8 nsb TA7)
      have S8 : Hid (w8.cell? ⟨sb, 0, none⟩ = some (.map (some mb)) ∧ w8.heap[xb]? = some (.cells #[.int .i64 2, .int .i64 gr, .int .i64 gen, .slice a l.length k, .int .i64 2, .int .i64 off] 29) ∧ w8.heap[tb]? = some (.cells #[.int .i64 tg, .slice sa tn tc, .int .i64 o0, .int .i64 o1, .int .i64 (max o2 off), .int .i64 o3] 61)) := hide ⟨cell_of (ht8.keep (unhide H7).obj nsb) 0, ht8.keep (unhide HX7) nxb, ht8.keep (unhide HTB7) ntb⟩
      have S7 : Hid (w6.drew.cell? ⟨sb, 0, none⟩ = some (.map (some mb)) ∧ w6.drew.heap[xb]? = some (.cells #[.int .i64 2, .int .i64 gr, .int .i64 gen, .slice a l.length k, .int .i64 2, .int .i64 off] 29) ∧ w6.drew.heap[tb]? = some (.cells #[.int .i64 tg, .slice sa tn tc, .int .i64 o0, .int .i64 o1, .int .i64 (max o2 off), .int .i64 o3] 61)) := hide ⟨cell_of (unhide H7).obj 0, unhide HX7, unhide HTB7⟩
      clear hst hm8 ht8 nsb nxb ntb H7 HX7 HTB7 HB7 TA7 KH KX KT KA KI HMB
      refine wp_region_held_drew (S := fun w' => w'.cell? ⟨sb, 0, none⟩ = some (.map (some mb)) ∧ w'.heap[xb]? = some (.cells #[.int .i64 2, .int .i64 gr, .int .i64 gen, .slice a l.length k, .int .i64 2, .int .i64 off] 29) ∧ w'.heap[tb]? = some (.cells #[.int .i64 tg, .slice sa tn tc, .int .i64 o0, .int .i64 o1, .int .i64 (max o2 off), .int .i64 o3] 61)) (by kernel_rfl) (unhide S7) (fun hHeld => ?_)
      clear S7
      generalize w6.drew = w7 at *
      refine take17 (i := 0) (d := 57) (v := .pointer (some ⟨sb, 0, none⟩)) rfl rfl (by kernel_rfl) (by kernel_rfl) (by kernel_rfl) (fun _ _ _ h => h) (Or.inl ⟨by rfl, by intro w' hSw; (try dsimp only at hSw); go_simp⟩) (by assumption) ?_; (try simp only [List.setIfInBounds_toArray, List.set_cons_zero, List.set_cons_succ])
      refine take17 (i := 1) (d := 58) (v := .pointer (some ⟨sb, 0, none⟩)) rfl rfl (by kernel_rfl) (by kernel_rfl) (by kernel_rfl) (fun _ _ _ h => h) (Or.inl ⟨by rfl, by intro w' hSw; (try dsimp only at hSw); go_simp⟩) (by assumption) ?_; (try simp only [List.setIfInBounds_toArray, List.set_cons_zero, List.set_cons_succ])
      refine take17 (i := 2) (d := 59) (v := .pointer (some ⟨sb, 0, none⟩)) rfl rfl (by kernel_rfl) (by kernel_rfl) (by kernel_rfl) (fun _ _ _ h => h) (Or.inl ⟨by rfl, by intro w' hSw; (try dsimp only at hSw); go_simp⟩) (by assumption) ?_; (try simp only [List.setIfInBounds_toArray, List.set_cons_zero, List.set_cons_succ])
      refine take17 (i := 3) (d := 60) (v := .map (some mb)) rfl rfl (by kernel_rfl) (by kernel_rfl) (by kernel_rfl) (fun _ _ _ h => h) (Or.inl ⟨by rfl, by intro w' hSw; (try dsimp only at hSw); obtain ⟨s0, s1, s2⟩ := hSw; go_simp⟩) (by assumption) ?_; (try simp only [List.setIfInBounds_toArray, List.set_cons_zero, List.set_cons_succ])
      refine take17 (i := 4) (d := 61) (v := .pointer (some ⟨xb, 1, none⟩)) rfl rfl (by kernel_rfl) (by kernel_rfl) (by kernel_rfl) (fun _ _ _ h => h) (Or.inl ⟨by rfl, by intro w' hSw; (try dsimp only at hSw); go_simp⟩) (by assumption) ?_; (try simp only [List.setIfInBounds_toArray, List.set_cons_zero, List.set_cons_succ])
      refine take17 (i := 5) (d := 62) (v := .int .i64 gr) rfl rfl (by kernel_rfl) (by kernel_rfl) (by kernel_rfl) (fun _ _ _ h => h) (Or.inl ⟨by rfl, by intro w' hSw; (try dsimp only at hSw); obtain ⟨s0, s1, s2⟩ := hSw; have y1 := cell_of s1 1; simp at y1; go_simp⟩) (by assumption) ?_; (try simp only [List.setIfInBounds_toArray, List.set_cons_zero, List.set_cons_succ])
      refine take17 (i := 6) (d := 63) (v := .agg #[.int .i64 tg, .slice sa tn tc, .int .i64 o0, .int .i64 o1, .int .i64 (max o2 off), .int .i64 o3]) rfl rfl (by kernel_rfl) (by kernel_rfl) (by kernel_rfl) (fun _ _ _ h => h) (Or.inl ⟨by rfl, by intro w' hSw; (try dsimp only at hSw); obtain ⟨s0, s1, s2⟩ := hSw; have q0 := cell_of s2 0; have q1 := cell_of s2 1; have q2 := cell_of s2 2; have q3 := cell_of s2 3; have q4 := cell_of s2 4; have q5 := cell_of s2 5; simp at q0 q1 q2 q3 q4 q5; go_simp⟩) (by assumption) ?_; (try simp only [List.setIfInBounds_toArray, List.set_cons_zero, List.set_cons_succ])
      refine wpAnyH_ready (rs := [7]) (by kernel_rfl) (by simp) ?_
      refine AllReadyH.cons rfl (fun K hK => ?_) AllReadyH.nil
      go_simp
      refine hK.out _ _ (unhide S8) (fun hHeld => ?_)
      clear hK K
      (try simp only [Act.put, List.setIfInBounds_toArray])
      refine wpAnyH_done (by kernel_rfl) ?_ _
      clear hHeld hst'
      go_wp2
      go_roundw
      case rel => exact .inr ⟨by go_num, F8⟩
      case measure => simp [intOf]
    · go_wp2
      go_returns
      exact unhide hh
set_option maxRecDepth 100000 in
set_option maxHeartbeats 8000000 in
theorem gold_some_off3 {B : Nat} {w : World} {sb c : Nat} {m : List (Int × Tm)} {A : Int → Ga} {gr gen off : Int} {l : List Int} {v : Value} {mb : Nat} (h : GP B w sb (some mb) m c A) (hv : OneS B w v ⟨2, gr, gen, l, 3, off⟩) (hr : 0 ≤ gr ∧ gr < 8) (hl : l.length ≤ 8) (hc : c < maxLen) (hB : B ≤ w.heap.size) :
    Calls Try.prog 18 #[.pointer (some ⟨sb, 0, none⟩), v] w fun e w' => HdQ B w sb (some mb) c A ⟨2, gr, gen, l, 3, off⟩ e w' := by
  obtain ⟨g, cv, og, a, k, ha, rfl, hw, hi, hg⟩ := hv
  have HA := hide ha
  have hi' : IAt w (adr og) l := by have q := hi; rw [ha] at q; exact q
  clear ha
  have y0 : w.cell? ⟨sb, 0, none⟩ = some (.map (some mb)) := cell_of h.obj 0
  have H := hide h
  have HW := hide hw
  have HI := hide hi'
  have HB := hide hB
  have HR := hide hr
  have HL := hide hl
  have HC := hide hc

  have hq : ∀ (W : World) (b : Nat), (binOp .eql 49 (.map (some b)) (.map none)).run Try.prog W = .ok (.bool false) W := fun _ _ => by kernel_rfl
  have hq0 : ∀ (W : World), (binOp .eql 49 (.map none) (.map none)).run Try.prog W = .ok (.bool true) W := fun _ => by kernel_rfl
  clear h hw hg hB hi hi' hr hl hc
  go_enter Try.func18, Try.ntmps18
  go_upto_region 2 with fail
  have HMB : Hid (Grew (some mb) w mb) := hide (.inl rfl)
  obtain ⟨w1, hw1⟩ : ∃ w1, w1 = w := ⟨_, rfl⟩
  have H1 : Hid (GP B w1 sb (some mb) m c A) := by rw [hw1]; exact H
  have W1 : Hid (Wide w1 29 6 (.slice (some ⟨g, 0, none⟩) 1 cv) 1 [.int .i64 2, .int .i64 gr, .int .i64 gen, .slice a l.length k, .int .i64 3, .int .i64 off]) := by rw [hw1]; exact HW
  have I1 : Hid (IAt w1 (adr og) l) := by rw [hw1]; exact HI
  have T1 : Hid (Touch (TP sb (some mb) w) w w1) := by rw [hw1]; exact hide (Touch.refl _ _)
  clear y0 H HW HI
  rw [← hw1]
  clear hw1
  go_wp2_with fail
  go_loopw [18] (fun iv wr => (iv = .int .i64 0 ∧ wr = w1) ∨ (iv = .int .i64 1 ∧ Hid (HdQ B w sb (some mb) c A ⟨2, gr, gen, l, 3, off⟩ (.returned (.tuple #[])) wr))) (fun iv _ => 1 - (intOf iv).toNat)
  case atStart => exact .inl ⟨rfl, rfl⟩
  case round =>
    rcases hrel with ⟨rfl, rfl⟩ | ⟨rfl, hh⟩
    · obtain ⟨a', cap, ev, _, _, _, _, hcx⟩ := (unhide W1).parts
      obtain ⟨g', ea, _, hcell, _⟩ := hcx (by omega)
      injection ev with e1 e2 e3
      rw [ea] at e1
      cases e1
      have z0 := hcell 0 (by omega)
      have z1 := hcell 1 (by omega)
      have z2 := hcell 2 (by omega)
      have z3 := hcell 3 (by omega)
      have z4 := hcell 4 (by omega)
      have z5 := hcell 5 (by omega)
      simp only [List.getElem?_cons_zero, List.getElem?_cons_succ] at z0 z1 z2 z3 z4 z5
      clear hcell hcx ea e2 e3
      go_upto_region 5 with fail
      have b2 := (Below.refl wr.heap.size wr).alloc (Nat.le_refl _) (.cells #[.int .i64 2, .int .i64 gr, .int .i64 gen, .slice a l.length k, .int .i64 3, .int .i64 off] 29)
      have HX := hide (heap_new wr (.cells #[.int .i64 2, .int .i64 gr, .int .i64 gen, .slice a l.length k, .int .i64 3, .int .i64 off] 29))
      have H2 := hide ((unhide H1).later b2)
      have I2 := hide ((unhide I1).later b2)
      have T2 := hide ((unhide T1).trans (Touch.of_below b2))
      clear b2 H1 W1 T1 I1 z0 z1 z2 z3 z4 z5
      change Code.wp _ _ _ _ (wr.alloc (.cells #[.int .i64 2, .int .i64 gr, .int .i64 gen, .slice a l.length k, .int .i64 3, .int .i64 off] 29))
      generalize wr.alloc (.cells #[.int .i64 2, .int .i64 gr, .int .i64 gen, .slice a l.length k, .int .i64 3, .int .i64 off] 29) = w2 at *
      generalize wr.heap.size = xb at *
      obtain ⟨T, hT⟩ : ∃ T, T = mgot gK (matx m gr) := ⟨_, rfl⟩
      have HTA := hide ((unhide H2).team gr)
      have LK : Hid (∀ W, Below w2.heap.size w2 W → (Instr.lookup 49 (.map (some mb)) (.int .i64 gr) false).run Try.prog W = .ok (tmV T) W) := hide (fun W hb => by
        have := ((unhide H2).later hb).look (unhide HR)
        rw [hT]
        exact this)
      rw [← hT] at HTA
      clear hT
      obtain ⟨tg, tgb, tn, tc, o0, o1, o2, o3⟩ := T
      unfold tmV tmC at LK
      simp only at LK
      have KH : Hid (∀ W, Below w2.heap.size w2 W → GP B W sb (some mb) m c A) := hide (fun W hb => (unhide H2).later hb)
      have KX : Hid (∀ W, Below w2.heap.size w2 W → W.heap[xb]? = some (.cells #[.int .i64 2, .int .i64 gr, .int .i64 gen, .slice a l.length k, .int .i64 3, .int .i64 off] 29)) := hide (fun W hb => below_keep hb (unhide HX))
      have KT : Hid (∀ W, Below w2.heap.size w2 W → Touch (TP sb (some mb) w) w W) := hide (fun W hb => (unhide T2).trans (Touch.of_below hb))
      have KA : Hid (∀ W, Below w2.heap.size w2 W → TmA W ⟨tg, tgb, tn, tc, o0, o1, o2, o3⟩ (A gr)) := hide (fun W hb => (unhide HTA).keep (Touch.of_below (S := fun _ => False) hb) (fun _ h => h.elim))
      have KI : Hid (∀ W, Below w2.heap.size w2 W → IAt W (adr og) l) := hide (fun W hb => (unhide I2).later hb)
      have HG := hide (unhide HTA).gen
      generalize hsa : Option.map (fun g => (⟨g, 0, none⟩ : Addr)) tgb = sa at *
      have HSA := hide hsa
      clear hsa
      have SK : Hid (∀ W, Below w2.heap.size w2 W → W.cell? ⟨sb, 0, none⟩ = some (.map (some mb)) ∧ W.cell? ⟨xb, 1, none⟩ = some (.int .i64 gr) ∧ (Instr.lookup 49 (.map (some mb)) (.int .i64 gr) false).run Try.prog W = .ok (.agg #[.int .i64 tg, .slice sa tn tc, .int .i64 o0, .int .i64 o1, .int .i64 o2, .int .i64 o3]) W) := hide (fun W hb => ⟨cell_of (below_keep hb (unhide H2).obj) 0, cell_of (below_keep hb (unhide HX)) 1, unhide LK W hb⟩)
      clear LK HTA
      refine wp_region_held_drew (S := fun w' => Below w2.heap.size w2 w') (by kernel_rfl) ((Below.refl _ _).drew) (fun hHeld => ?_)
      refine take17 (i := 0) (d := 22) (v := .pointer (some ⟨sb, 0, none⟩)) rfl rfl (by kernel_rfl) (by kernel_rfl) (by kernel_rfl) (fun _ _ _ h => h) (Or.inl ⟨by rfl, by intro w' hSw; (try dsimp only at hSw); go_simp⟩) (by assumption) ?_; (try simp only [List.setIfInBounds_toArray, List.set_cons_zero, List.set_cons_succ])
      refine take17 (i := 1) (d := 23) (v := .pointer (some ⟨sb, 0, none⟩)) rfl rfl (by kernel_rfl) (by kernel_rfl) (by kernel_rfl) (fun _ _ _ h => h) (Or.inl ⟨by rfl, by intro w' hSw; (try dsimp only at hSw); go_simp⟩) (by assumption) ?_; (try simp only [List.setIfInBounds_toArray, List.set_cons_zero, List.set_cons_succ])
      refine take17 (i := 2) (d := 24) (v := .pointer (some ⟨sb, 0, none⟩)) rfl rfl (by kernel_rfl) (by kernel_rfl) (by kernel_rfl) (fun _ _ _ h => h) (Or.inl ⟨by rfl, by intro w' hSw; (try dsimp only at hSw); go_simp⟩) (by assumption) ?_; (try simp only [List.setIfInBounds_toArray, List.set_cons_zero, List.set_cons_succ])
      refine take17 (i := 3) (d := 25) (v := .map (some mb)) rfl rfl (by kernel_rfl) (by kernel_rfl) (by kernel_rfl) (fun _ _ _ h => h) (Or.inl ⟨by rfl, by intro w' hSw; (try dsimp only at hSw); obtain ⟨s0, s1, sl⟩ := unhide SK w' hSw; go_simp⟩) (by assumption) ?_; (try simp only [List.setIfInBounds_toArray, List.set_cons_zero, List.set_cons_succ])
      refine take17 (i := 4) (d := 26) (v := .pointer (some ⟨xb, 1, none⟩)) rfl rfl (by kernel_rfl) (by kernel_rfl) (by kernel_rfl) (fun _ _ _ h => h) (Or.inl ⟨by rfl, by intro w' hSw; (try dsimp only at hSw); go_simp⟩) (by assumption) ?_; (try simp only [List.setIfInBounds_toArray, List.set_cons_zero, List.set_cons_succ])
      refine take17 (i := 5) (d := 27) (v := .int .i64 gr) rfl rfl (by kernel_rfl) (by kernel_rfl) (by kernel_rfl) (fun _ _ _ h => h) (Or.inl ⟨by rfl, by intro w' hSw; (try dsimp only at hSw); obtain ⟨s0, s1, sl⟩ := unhide SK w' hSw; go_simp⟩) (by assumption) ?_; (try simp only [List.setIfInBounds_toArray, List.set_cons_zero, List.set_cons_succ])
      refine take17 (i := 6) (d := 28) (v := .agg #[.int .i64 tg, .slice sa tn tc, .int .i64 o0, .int .i64 o1, .int .i64 o2, .int .i64 o3]) rfl rfl (by kernel_rfl) (by kernel_rfl) (by kernel_rfl) (fun _ _ _ h => h) (Or.inl ⟨by rfl, by intro w' hSw; (try dsimp only at hSw); obtain ⟨s0, s1, sl⟩ := unhide SK w' hSw; go_simp⟩) (by assumption) ?_; (try simp only [List.setIfInBounds_toArray, List.set_cons_zero, List.set_cons_succ])
      refine wpAnyH_ready (rs := [7]) (by kernel_rfl) (by simp) ?_
      refine AllReadyH.cons rfl (fun K hK => ?_) AllReadyH.nil
      go_simp
      have b3 : Below w2.heap.size w2 (w2.drew.alloc (.cells #[.int .i64 0, .slice none 0 0, .int .i64 0, .int .i64 0, .int .i64 0, .int .i64 0] 61)) := ((Below.refl _ _).drew).alloc (Nat.le_refl _) _
      have HTB := hide (heap_new w2.drew (.cells #[.int .i64 0, .slice none 0 0, .int .i64 0, .int .i64 0, .int .i64 0, .int .i64 0] 61))
      have HB3 := hide b3
      refine hK.out _ _ b3 (fun hHeld => ?_)
      clear hK K b3
      (try simp only [Act.put, List.setIfInBounds_toArray, List.set_cons_zero, List.set_cons_succ])
      change wpAnyH _ _ _ _ _ _ _ _ (w2.drew.alloc (.cells #[.int .i64 0, .slice none 0 0, .int .i64 0, .int .i64 0, .int .i64 0, .int .i64 0] 61))
      have hdz : w2.drew.heap.size = w2.heap.size := rfl
      rw [hdz] at HTB
      clear hdz
      generalize w2.drew.alloc (.cells #[.int .i64 0, .slice none 0 0, .int .i64 0, .int .i64 0, .int .i64 0, .int .i64 0] 61) = w3 at *
      refine wpAnyH_ready (rs := [8]) (by kernel_rfl) (by simp) ?_
      refine AllReadyH.cons rfl (fun K hK => ?_) AllReadyH.nil
      rw [if_pos (by rfl)]
      obtain ⟨q1, q2⟩ := heap_setCells [.int .i64 tg, .slice sa tn tc, .int .i64 o0, .int .i64 o1, .int .i64 o2, .int .i64 o3] 0 w3 _ (unhide HTB)
      have HTB4 : Hid ((w3.setCells w2.heap.size 0 [.int .i64 tg, .slice sa tn tc, .int .i64 o0, .int .i64 o1, .int .i64 o2, .int .i64 o3]).heap[w2.heap.size]? = some (.cells #[.int .i64 tg, .slice sa tn tc, .int .i64 o0, .int .i64 o1, .int .i64 o2, .int .i64 o3] 61)) := hide q1
      have HB4 := hide (below_touch (unhide HB3) q2 (unhide HB3).size (fun k hk => by omega))
      refine wp_store_mid 61 (.tmp 6) (.tmp 28) rfl w2.heap.size 0 #[.int .i64 tg, .slice sa tn tc, .int .i64 o0, .int .i64 o1, .int .i64 o2, .int .i64 o3] rfl rfl (there_of (unhide HTB) (by show 0 + 6 ≤ 6; decide)) (by kernel_rfl) (by simp [Value.oneCell']) ?_
      refine hK.out _ _ (unhide HB4) (fun hHeld => ?_)
      clear hK K q1 q2 HTB HB3
      (try simp only [Act.put, List.setIfInBounds_toArray])
      change wpAnyH _ _ _ _ _ _ _ _ (w3.setCells w2.heap.size 0 [.int .i64 tg, .slice sa tn tc, .int .i64 o0, .int .i64 o1, .int .i64 o2, .int .i64 o3])
      generalize w3.setCells w2.heap.size 0 [.int .i64 tg, .slice sa tn tc, .int .i64 o0, .int .i64 o1, .int .i64 o2, .int .i64 o3] = w4 at *
      refine wpAnyH_done (by kernel_rfl) ?_ _
      have HXT : Hid (xb ≠ w2.heap.size) := hide (by have := lt_of_heap (unhide HX); omega)
      clear hHeld SK H2 HX T2 I2
      generalize hn : w2.heap.size = tb at *
      have HN := hide hn
      clear hn
      have x0 := cell_of (unhide KX _ (unhide HB4)) 0
      have x2 := cell_of (unhide KX _ (unhide HB4)) 2
      have u0 := cell_of (unhide HTB4) 0
      simp at x0 x2 u0
      clear x2 u0
      go_upto_region 7 with fail
      clear x0
      have hd5 : Below w4.heap.size w4 w4.drew := (Below.refl _ _).drew
      have HTB5 := hide (below_keep hd5 (unhide HTB4))
      have HB5 : Hid (Below tb w2 w4.drew) := hide (unhide HB4).drew
      have HX5 := hide (unhide KX _ (unhide HB5))
      clear HTB4 HB4 hd5
      refine wp_region_held_drew (S := fun w' => w'.heap[xb]? = some (.cells #[.int .i64 2, .int .i64 gr, .int .i64 gen, .slice a l.length k, .int .i64 3, .int .i64 off] 29)) (by kernel_rfl) (unhide HX5) (fun hHeld => ?_)
      generalize w4.drew = w5 at *
      refine take17 (i := 0) (d := 33) (v := .pointer (some ⟨xb, 4, none⟩)) rfl rfl (by kernel_rfl) (by kernel_rfl) (by kernel_rfl) (fun _ _ _ h => h) (Or.inl ⟨by rfl, by intro w' hSw; (try dsimp only at hSw); go_simp⟩) (by assumption) ?_; (try simp only [List.setIfInBounds_toArray, List.set_cons_zero, List.set_cons_succ])
      refine take17 (i := 1) (d := 34) (v := .int .i64 3) rfl rfl (by kernel_rfl) (by kernel_rfl) (by kernel_rfl) (fun _ _ _ h => h) (Or.inl ⟨by rfl, by intro w' hSw; (try dsimp only at hSw); have y4 := cell_of hSw 4; simp at y4; go_simp⟩) (by assumption) ?_; (try simp only [List.setIfInBounds_toArray, List.set_cons_zero, List.set_cons_succ])
      refine take17 (i := 2) (d := 35) (v := .pointer (some ⟨xb, 4, none⟩)) rfl rfl (by kernel_rfl) (by kernel_rfl) (by kernel_rfl) (fun _ _ _ h => h) (Or.inl ⟨by rfl, by intro w' hSw; (try dsimp only at hSw); go_simp⟩) (by assumption) ?_; (try simp only [List.setIfInBounds_toArray, List.set_cons_zero, List.set_cons_succ])
      refine take17 (i := 3) (d := 36) (v := .int .i64 3) rfl rfl (by kernel_rfl) (by kernel_rfl) (by kernel_rfl) (fun _ _ _ h => h) (Or.inl ⟨by rfl, by intro w' hSw; (try dsimp only at hSw); have y4 := cell_of hSw 4; simp at y4; go_simp⟩) (by assumption) ?_; (try simp only [List.setIfInBounds_toArray, List.set_cons_zero, List.set_cons_succ])
      refine take17 (i := 4) (d := 37) (v := .pointer (some ⟨tb, 2, none⟩)) rfl rfl (by kernel_rfl) (by kernel_rfl) (by kernel_rfl) (fun _ _ _ h => h) (Or.inl ⟨by rfl, by intro w' hSw; (try dsimp only at hSw); go_simp⟩) (by assumption) ?_; (try simp only [List.setIfInBounds_toArray, List.set_cons_zero, List.set_cons_succ])
      refine take17 (i := 5) (d := 38) (v := .pointer (some ⟨tb, 5, none⟩)) rfl rfl (by kernel_rfl) (by kernel_rfl) (by kernel_rfl) (fun _ _ _ h => h) (Or.inl ⟨by rfl, by intro w' hSw; (try dsimp only at hSw); go_simp⟩) (by assumption) ?_; (try simp only [List.setIfInBounds_toArray, List.set_cons_zero, List.set_cons_succ])
      refine take17 (i := 7) (d := 40) (v := .pointer (some ⟨xb, 5, none⟩)) rfl rfl (by kernel_rfl) (by kernel_rfl) (by kernel_rfl) (fun _ _ _ h => h) (Or.inl ⟨by rfl, by intro w' hSw; (try dsimp only at hSw); go_simp⟩) (by assumption) ?_; (try simp only [List.setIfInBounds_toArray, List.set_cons_zero, List.set_cons_succ])
      refine take17 (i := 8) (d := 41) (v := .int .i64 off) rfl rfl (by kernel_rfl) (by kernel_rfl) (by kernel_rfl) (fun _ _ _ h => h) (Or.inl ⟨by rfl, by intro w' hSw; (try dsimp only at hSw); have y5 := cell_of hSw 5; simp at y5; go_simp⟩) (by assumption) ?_; (try simp only [List.setIfInBounds_toArray, List.set_cons_zero, List.set_cons_succ])
      refine take17 (i := 10) (d := 43) (v := .pointer (some ⟨tb, 2, none⟩)) rfl rfl (by kernel_rfl) (by kernel_rfl) (by kernel_rfl) (fun _ _ _ h => h) (Or.inl ⟨by rfl, by intro w' hSw; (try dsimp only at hSw); go_simp⟩) (by assumption) ?_; (try simp only [List.setIfInBounds_toArray, List.set_cons_zero, List.set_cons_succ])
      have zt : w5.cell? ⟨tb, 5, none⟩ = some (.int .i64 o3) := cell_of (unhide HTB5) 5
      refine wpAnyH_ready (rs := [6]) (by kernel_rfl) (by simp) ?_
      refine AllReadyH.cons rfl (fun K hK => ?_) AllReadyH.nil
      go_simp
      refine hK.out _ _ (by assumption) (fun hHeld => ?_)
      clear hK K
      (try simp only [Act.put, List.setIfInBounds_toArray, List.set_cons_zero, List.set_cons_succ])
      refine take17 (i := 9) (d := 42) (v := .int .i64 (max o3 off)) rfl rfl (by kernel_rfl) (by kernel_rfl) (by kernel_rfl) (fun _ _ _ h => h) (Or.inl ⟨by rfl, by intro w' hSw; (try dsimp only at hSw); go_simp⟩) (by assumption) ?_; (try simp only [List.setIfInBounds_toArray, List.set_cons_zero, List.set_cons_succ])
      refine take17 (i := 11) (d := 44) (v := .pointer (some ⟨tb, 5, none⟩)) rfl rfl (by kernel_rfl) (by kernel_rfl) (by kernel_rfl) (fun _ _ _ h => h) (Or.inl ⟨by rfl, by intro w' hSw; (try dsimp only at hSw); go_simp⟩) (by assumption) ?_; (try simp only [List.setIfInBounds_toArray, List.set_cons_zero, List.set_cons_succ])
      have ft : w5.frozen? ⟨tb, 5, none⟩ = false := frozen_of (unhide HTB5) 5
      have tt := touch_set w5 tb 5 (.int .i64 (max o3 off))
      have HTB6 := hide (heap_set (unhide HTB5) 5 (.int .i64 (max o3 off)))
      have HX6 := hide (tt.keep (unhide HX5) (unhide HXT))
      have HB6 := hide (below_touch (unhide HB5) tt (by have h1 := (unhide HB5).size; have h2 := unhide HN; omega) (fun k hk => by omega))
      clear tt HTB5 HX5 HB5
      refine wpAnyH_ready (rs := [12]) (by kernel_rfl) (by simp) ?_
      refine AllReadyH.cons rfl (fun K hK => ?_) AllReadyH.nil
      go_simp
      refine hK.out _ _ (unhide HX6) (fun hHeld => ?_)
      clear hK K zt ft HX6
      (try simp only [Act.put, List.setIfInBounds_toArray])
      generalize w5.setCell ⟨tb, 5, none⟩ (.int .i64 (max o3 off)) = w6 at *
      refine wpAnyH_done (by kernel_rfl) ?_ _
      clear hHeld
      go_upto_region 10 with fail
      have HB7 : Hid (Below tb w2 w6.drew) := hide (unhide HB6).drew
      have HTB7 := hide (below_keep ((Below.refl w6.heap.size w6).drew) (unhide HTB6))
      have H7 := hide (unhide KH _ (unhide HB7))
      have HX7 := hide (unhide KX _ (unhide HB7))
      clear HB6 HTB6
      obtain ⟨w8, hst, hm8, ht8⟩ := (unhide H7).map1.1.store (M := gK) (s := gr) (Nat.lt_of_le_of_lt (unhide H7).few (unhide HC)) (key_wf (unhide HR)) ⟨tg, tgb, tn, tc, o0, o1, o2, (max o3 off)⟩
      have hst' : (Instr.mapUpdate 49 (.map (some mb)) (.int .i64 gr) (.agg #[.int .i64 tg, .slice sa tn tc, .int .i64 o0, .int .i64 o1, .int .i64 o2, .int .i64 (max o3 off)])).run Try.prog w6.drew = .ok () w8 := by
        rw [← unhide HSA]
        exact hst
      have nsb : sb ≠ mb := fun e => by
        obtain ⟨es, ck, h1⟩ := (unhide H7).map1.1.block
        rw [← e, (unhide H7).obj] at h1
        cases h1
      have nxb : xb ≠ mb := fun e => by
        obtain ⟨es, ck, h1⟩ := (unhide H7).map1.1.block
        rw [← e, unhide HX7] at h1
        cases h1
      have ntb : tb ≠ mb := fun e => by
        obtain ⟨es, ck, h1⟩ := (unhide H7).map1.1.block
        rw [← e, unhide HTB7] at h1
        cases h1
      have TA7 : TmA w6.drew ⟨tg, tgb, tn, tc, o0, o1, o2, (max o3 off)⟩ (gaPut ⟨2, gr, gen, l, 3, off⟩ (A gr)) := by
        have q := unhide KA _ (unhide HB7)
        have qi := unhide KI _ (unhide HB7)
        have e0 := q.o0
        have e1 := q.o1
        have e2 := q.o2
        have e3 := q.o3
        simp only at e0 e1 e2 e3
        unfold gaPut
        simp only [if_true]
        refine ⟨q.gen, q.n, q.l, ?_, ?_, ?_, ?_, q.few⟩ <;> simp [e0, e1, e2, e3]
      have F8 : Hid (HdQ B w sb (some mb) c A ⟨2, gr, gen, l, 3, off⟩ (.returned (.tuple #[])) w8) := hide (hd_end (unhide H7) (unhide HMB) (unhide KT _ (unhide HB7)) hm8 ht8 nsb TA7)
      have S8 : Hid (w8.cell? ⟨sb, 0, none⟩ = some (.map (some mb)) ∧ w8.heap[xb]? = some (.cells #[.int .i64 2, .int .i64 gr, .int .i64 gen, .slice a l.length k, .int .i64 3, .int .i64 off] 29) ∧ w8.heap[tb]? = some (.cells #[.int .i64 tg, .slice sa tn tc, .int .i64 o0, .int .i64 o1, .int .i64 o2, .int .i64 (max o3 off)] 61)) := hide ⟨cell_of (ht8.keep (unhide H7).obj nsb) 0, ht8.keep (unhide HX7) nxb, ht8.keep (unhide HTB7) ntb⟩
      have S7 : Hid (w6.drew.cell? ⟨sb, 0, none⟩ = some (.map (some mb)) ∧ w6.drew.heap[xb]? = some (.cells #[.int .i64 2, .int .i64 gr, .int .i64 gen, .slice a l.length k, .int .i64 3, .int .i64 off] 29) ∧ w6.drew.heap[tb]? = some (.cells #[.int .i64 tg, .slice sa tn tc, .int .i64 o0, .int .i64 o1, .int .i64 o2, .int .i64 (max o3 off)] 61)) := hide ⟨cell_of (unhide H7).obj 0, unhide HX7, unhide HTB7⟩
      clear hst hm8 ht8 nsb nxb ntb H7 HX7 HTB7 HB7 TA7 KH KX KT KA KI HMB
      refine wp_region_held_drew (S := fun w' => w'.cell? ⟨sb, 0, none⟩ = some (.map (some mb)) ∧ w'.heap[xb]? = some (.cells #[.int .i64 2, .int .i64 gr, .int .i64 gen, .slice a l.length k, .int .i64 3, .int .i64 off] 29) ∧ w'.heap[tb]? = some (.cells #[.int .i64 tg, .slice sa tn tc, .int .i64 o0, .int .i64 o1, .int .i64 o2, .int .i64 (max o3 off)] 61)) (by kernel_rfl) (unhide S7) (fun hHeld => ?_)
      clear S7
      generalize w6.drew = w7 at *
      refine take17 (i := 0) (d := 57) (v := .pointer (some ⟨sb, 0, none⟩)) rfl rfl (by kernel_rfl) (by kernel_rfl) (by kernel_rfl) (fun _ _ _ h => h) (Or.inl ⟨by rfl, by intro w' hSw; (try dsimp only at hSw); go_simp⟩) (by assumption) ?_; (try simp only [List.setIfInBounds_toArray, List.set_cons_zero, List.set_cons_succ])
      refine take17 (i := 1) (d := 58) (v := .pointer (some ⟨sb, 0, none⟩)) rfl rfl (by kernel_rfl) (by kernel_rfl) (by kernel_rfl) (fun _ _ _ h => h) (Or.inl ⟨by rfl, by intro w' hSw; (try dsimp only at hSw); go_simp⟩) (by assumption) ?_; (try simp only [List.setIfInBounds_toArray, List.set_cons_zero, List.set_cons_succ])
      refine take17 (i := 2) (d := 59) (v := .pointer (some ⟨sb, 0, none⟩)) rfl rfl (by kernel_rfl) (by kernel_rfl) (by kernel_rfl) (fun _ _ _ h => h) (Or.inl ⟨by rfl, by intro w' hSw; (try dsimp only at hSw); go_simp⟩) (by assumption) ?_; (try simp only [List.setIfInBounds_toArray, List.set_cons_zero, List.set_cons_succ])
      refine take17 (i := 3) (d := 60) (v := .map (some mb)) rfl rfl (by kernel_rfl) (by kernel_rfl) (by kernel_rfl) (fun _ _ _ h => h) (Or.inl ⟨by rfl, by intro w' hSw; (try dsimp only at hSw); obtain ⟨s0, s1, s2⟩ := hSw; go_simp⟩) (by assumption) ?_; (try simp only [List.setIfInBounds_toArray, List.set_cons_zero, List.set_cons_succ])
      refine take17 (i := 4) (d := 61) (v := .pointer (some ⟨xb, 1, none⟩)) rfl rfl (by kernel_rfl) (by kernel_rfl) (by kernel_rfl) (fun _ _ _ h => h) (Or.inl ⟨by rfl, by intro w' hSw; (try dsimp only at hSw); go_simp⟩) (by assumption) ?_; (try simp only [List.setIfInBounds_toArray, List.set_cons_zero, List.set_cons_succ])
      refine take17 (i := 5) (d := 62) (v := .int .i64 gr) rfl rfl (by kernel_rfl) (by kernel_rfl) (by kernel_rfl) (fun _ _ _ h => h) (Or.inl ⟨by rfl, by intro w' hSw; (try dsimp only at hSw); obtain ⟨s0, s1, s2⟩ := hSw; have y1 := cell_of s1 1; simp at y1; go_simp⟩) (by assumption) ?_; (try simp only [List.setIfInBounds_toArray, List.set_cons_zero, List.set_cons_succ])
      refine take17 (i := 6) (d := 63) (v := .agg #[.int .i64 tg, .slice sa tn tc, .int .i64 o0, .int .i64 o1, .int .i64 o2, .int .i64 (max o3 off)]) rfl rfl (by kernel_rfl) (by kernel_rfl) (by kernel_rfl) (fun _ _ _ h => h) (Or.inl ⟨by rfl, by intro w' hSw; (try dsimp only at hSw); obtain ⟨s0, s1, s2⟩ := hSw; have q0 := cell_of s2 0; have q1 := cell_of s2 1; have q2 := cell_of s2 2; have q3 := cell_of s2 3; have q4 := cell_of s2 4; have q5 := cell_of s2 5; simp at q0 q1 q2 q3 q4 q5; go_simp⟩) (by assumption) ?_; (try simp only [List.setIfInBounds_toArray, List.set_cons_zero, List.set_cons_succ])
      refine wpAnyH_ready (rs := [7]) (by kernel_rfl) (by simp) ?_
      refine AllReadyH.cons rfl (fun K hK => ?_) AllReadyH.nil
      go_simp
      refine hK.out _ _ (unhide S8) (fun hHeld => ?_)
      clear hK K
      (try simp only [Act.put, List.setIfInBounds_toArray])
      refine wpAnyH_done (by kernel_rfl) ?_ _
      clear hHeld hst'
      go_wp2
      go_roundw
      case rel => exact .inr ⟨by go_num, F8⟩
      case measure => simp [intOf]
    · go_wp2
      go_returns
      exact unhide hh
set_option maxRecDepth 100000 in
set_option maxHeartbeats 8000000 in
theorem gold_some_new {B : Nat} {w : World} {sb c : Nat} {m : List (Int × Tm)} {A : Int → Ga} {gr gen pt off : Int} {l : List Int} {v : Value} {mb : Nat} (h : GP B w sb (some mb) m c A) (hv : OneS B w v ⟨1, gr, gen, l, pt, off⟩) (hr : 0 ≤ gr ∧ gr < 8) (hl : l.length ≤ 8) (hc : c < maxLen) (hB : B ≤ w.heap.size) (hgt : Newer (A gr) gen) :
    Calls Try.prog 18 #[.pointer (some ⟨sb, 0, none⟩), v] w fun e w' => HdQ B w sb (some mb) c A ⟨1, gr, gen, l, pt, off⟩ e w' := by
  obtain ⟨g, cv, og, a, k, ha, rfl, hw, hi, hg⟩ := hv
  have HA := hide ha
  have hi' : IAt w (adr og) l := by have q := hi; rw [ha] at q; exact q
  clear ha
  have y0 : w.cell? ⟨sb, 0, none⟩ = some (.map (some mb)) := cell_of h.obj 0
  have H := hide h
  have HW := hide hw
  have HI := hide hi'
  have HB := hide hB
  have HR := hide hr
  have HL := hide hl
  have HC := hide hc
  have HGT := hide hgt
  have hq : ∀ (W : World) (b : Nat), (binOp .eql 49 (.map (some b)) (.map none)).run Try.prog W = .ok (.bool false) W := fun _ _ => by kernel_rfl
  have hq0 : ∀ (W : World), (binOp .eql 49 (.map none) (.map none)).run Try.prog W = .ok (.bool true) W := fun _ => by kernel_rfl
  clear h hw hg hB hi hi' hr hl hc hgt
  go_enter Try.func18, Try.ntmps18
  go_upto_region 2 with fail
  have HMB : Hid (Grew (some mb) w mb) := hide (.inl rfl)
  obtain ⟨w1, hw1⟩ : ∃ w1, w1 = w := ⟨_, rfl⟩
  have H1 : Hid (GP B w1 sb (some mb) m c A) := by rw [hw1]; exact H
  have W1 : Hid (Wide w1 29 6 (.slice (some ⟨g, 0, none⟩) 1 cv) 1 [.int .i64 1, .int .i64 gr, .int .i64 gen, .slice a l.length k, .int .i64 pt, .int .i64 off]) := by rw [hw1]; exact HW
  have I1 : Hid (IAt w1 (adr og) l) := by rw [hw1]; exact HI
  have T1 : Hid (Touch (TP sb (some mb) w) w w1) := by rw [hw1]; exact hide (Touch.refl _ _)
  clear y0 H HW HI
  rw [← hw1]
  clear hw1
  go_wp2_with fail
  go_loopw [18] (fun iv wr => (iv = .int .i64 0 ∧ wr = w1) ∨ (iv = .int .i64 1 ∧ Hid (HdQ B w sb (some mb) c A ⟨1, gr, gen, l, pt, off⟩ (.returned (.tuple #[])) wr))) (fun iv _ => 1 - (intOf iv).toNat)
  case atStart => exact .inl ⟨rfl, rfl⟩
  case round =>
    rcases hrel with ⟨rfl, rfl⟩ | ⟨rfl, hh⟩
    · obtain ⟨a', cap, ev, _, _, _, _, hcx⟩ := (unhide W1).parts
      obtain ⟨g', ea, _, hcell, _⟩ := hcx (by omega)
      injection ev with e1 e2 e3
      rw [ea] at e1
      cases e1
      have z0 := hcell 0 (by omega)
      have z1 := hcell 1 (by omega)
      have z2 := hcell 2 (by omega)
      have z3 := hcell 3 (by omega)
      have z4 := hcell 4 (by omega)
      have z5 := hcell 5 (by omega)
      simp only [List.getElem?_cons_zero, List.getElem?_cons_succ] at z0 z1 z2 z3 z4 z5
      clear hcell hcx ea e2 e3
      go_upto_region 5 with fail
      have b2 := (Below.refl wr.heap.size wr).alloc (Nat.le_refl _) (.cells #[.int .i64 1, .int .i64 gr, .int .i64 gen, .slice a l.length k, .int .i64 pt, .int .i64 off] 29)
      have HX := hide (heap_new wr (.cells #[.int .i64 1, .int .i64 gr, .int .i64 gen, .slice a l.length k, .int .i64 pt, .int .i64 off] 29))
      have H2 := hide ((unhide H1).later b2)
      have I2 := hide ((unhide I1).later b2)
      have T2 := hide ((unhide T1).trans (Touch.of_below b2))
      clear b2 H1 W1 T1 I1 z0 z1 z2 z3 z4 z5
      change Code.wp _ _ _ _ (wr.alloc (.cells #[.int .i64 1, .int .i64 gr, .int .i64 gen, .slice a l.length k, .int .i64 pt, .int .i64 off] 29))
      generalize wr.alloc (.cells #[.int .i64 1, .int .i64 gr, .int .i64 gen, .slice a l.length k, .int .i64 pt, .int .i64 off] 29) = w2 at *
      generalize wr.heap.size = xb at *
      obtain ⟨T, hT⟩ : ∃ T, T = mgot gK (matx m gr) := ⟨_, rfl⟩
      have HTA := hide ((unhide H2).team gr)
      have LK : Hid (∀ W, Below w2.heap.size w2 W → (Instr.lookup 49 (.map (some mb)) (.int .i64 gr) false).run Try.prog W = .ok (tmV T) W) := hide (fun W hb => by
        have := ((unhide H2).later hb).look (unhide HR)
        rw [hT]
        exact this)
      rw [← hT] at HTA
      clear hT
      obtain ⟨tg, tgb, tn, tc, o0, o1, o2, o3⟩ := T
      unfold tmV tmC at LK
      simp only at LK
      have KH : Hid (∀ W, Below w2.heap.size w2 W → GP B W sb (some mb) m c A) := hide (fun W hb => (unhide H2).later hb)
      have KX : Hid (∀ W, Below w2.heap.size w2 W → W.heap[xb]? = some (.cells #[.int .i64 1, .int .i64 gr, .int .i64 gen, .slice a l.length k, .int .i64 pt, .int .i64 off] 29)) := hide (fun W hb => below_keep hb (unhide HX))
      have KT : Hid (∀ W, Below w2.heap.size w2 W → Touch (TP sb (some mb) w) w W) := hide (fun W hb => (unhide T2).trans (Touch.of_below hb))
      have KA : Hid (∀ W, Below w2.heap.size w2 W → TmA W ⟨tg, tgb, tn, tc, o0, o1, o2, o3⟩ (A gr)) := hide (fun W hb => (unhide HTA).keep (Touch.of_below (S := fun _ => False) hb) (fun _ h => h.elim))
      have KI : Hid (∀ W, Below w2.heap.size w2 W → IAt W (adr og) l) := hide (fun W hb => (unhide I2).later hb)
      have HG := hide (unhide HTA).gen
      generalize hsa : Option.map (fun g => (⟨g, 0, none⟩ : Addr)) tgb = sa at *
      have HSA := hide hsa
      clear hsa
      have SK : Hid (∀ W, Below w2.heap.size w2 W → W.cell? ⟨sb, 0, none⟩ = some (.map (some mb)) ∧ W.cell? ⟨xb, 1, none⟩ = some (.int .i64 gr) ∧ (Instr.lookup 49 (.map (some mb)) (.int .i64 gr) false).run Try.prog W = .ok (.agg #[.int .i64 tg, .slice sa tn tc, .int .i64 o0, .int .i64 o1, .int .i64 o2, .int .i64 o3]) W) := hide (fun W hb => ⟨cell_of (below_keep hb (unhide H2).obj) 0, cell_of (below_keep hb (unhide HX)) 1, unhide LK W hb⟩)
      clear LK HTA
      refine wp_region_held_drew (S := fun w' => Below w2.heap.size w2 w') (by kernel_rfl) ((Below.refl _ _).drew) (fun hHeld => ?_)
      refine take17 (i := 0) (d := 22) (v := .pointer (some ⟨sb, 0, none⟩)) rfl rfl (by kernel_rfl) (by kernel_rfl) (by kernel_rfl) (fun _ _ _ h => h) (Or.inl ⟨by rfl, by intro w' hSw; (try dsimp only at hSw); go_simp⟩) (by assumption) ?_; (try simp only [List.setIfInBounds_toArray, List.set_cons_zero, List.set_cons_succ])
      refine take17 (i := 1) (d := 23) (v := .pointer (some ⟨sb, 0, none⟩)) rfl rfl (by kernel_rfl) (by kernel_rfl) (by kernel_rfl) (fun _ _ _ h => h) (Or.inl ⟨by rfl, by intro w' hSw; (try dsimp only at hSw); go_simp⟩) (by assumption) ?_; (try simp only [List.setIfInBounds_toArray, List.set_cons_zero, List.set_cons_succ])
      refine take17 (i := 2) (d := 24) (v := .pointer (some ⟨sb, 0, none⟩)) rfl rfl (by kernel_rfl) (by kernel_rfl) (by kernel_rfl) (fun _ _ _ h => h) (Or.inl ⟨by rfl, by intro w' hSw; (try dsimp only at hSw); go_simp⟩) (by assumption) ?_; (try simp only [List.setIfInBounds_toArray, List.set_cons_zero, List.set_cons_succ])
      refine take17 (i := 3) (d := 25) (v := .map (some mb)) rfl rfl (by kernel_rfl) (by kernel_rfl) (by kernel_rfl) (fun _ _ _ h => h) (Or.inl ⟨by rfl, by intro w' hSw; (try dsimp only at hSw); obtain ⟨s0, s1, sl⟩ := unhide SK w' hSw; go_simp⟩) (by assumption) ?_; (try simp only [List.setIfInBounds_toArray, List.set_cons_zero, List.set_cons_succ])
      refine take17 (i := 4) (d := 26) (v := .pointer (some ⟨xb, 1, none⟩)) rfl rfl (by kernel_rfl) (by kernel_rfl) (by kernel_rfl) (fun _ _ _ h => h) (Or.inl ⟨by rfl, by intro w' hSw; (try dsimp only at hSw); go_simp⟩) (by assumption) ?_; (try simp only [List.setIfInBounds_toArray, List.set_cons_zero, List.set_cons_succ])
      refine take17 (i := 5) (d := 27) (v := .int .i64 gr) rfl rfl (by kernel_rfl) (by kernel_rfl) (by kernel_rfl) (fun _ _ _ h => h) (Or.inl ⟨by rfl, by intro w' hSw; (try dsimp only at hSw); obtain ⟨s0, s1, sl⟩ := unhide SK w' hSw; go_simp⟩) (by assumption) ?_; (try simp only [List.setIfInBounds_toArray, List.set_cons_zero, List.set_cons_succ])
      refine take17 (i := 6) (d := 28) (v := .agg #[.int .i64 tg, .slice sa tn tc, .int .i64 o0, .int .i64 o1, .int .i64 o2, .int .i64 o3]) rfl rfl (by kernel_rfl) (by kernel_rfl) (by kernel_rfl) (fun _ _ _ h => h) (Or.inl ⟨by rfl, by intro w' hSw; (try dsimp only at hSw); obtain ⟨s0, s1, sl⟩ := unhide SK w' hSw; go_simp⟩) (by assumption) ?_; (try simp only [List.setIfInBounds_toArray, List.set_cons_zero, List.set_cons_succ])
      refine wpAnyH_ready (rs := [7]) (by kernel_rfl) (by simp) ?_
      refine AllReadyH.cons rfl (fun K hK => ?_) AllReadyH.nil
      go_simp
      have b3 : Below w2.heap.size w2 (w2.drew.alloc (.cells #[.int .i64 0, .slice none 0 0, .int .i64 0, .int .i64 0, .int .i64 0, .int .i64 0] 61)) := ((Below.refl _ _).drew).alloc (Nat.le_refl _) _
      have HTB := hide (heap_new w2.drew (.cells #[.int .i64 0, .slice none 0 0, .int .i64 0, .int .i64 0, .int .i64 0, .int .i64 0] 61))
      have HB3 := hide b3
      refine hK.out _ _ b3 (fun hHeld => ?_)
      clear hK K b3
      (try simp only [Act.put, List.setIfInBounds_toArray, List.set_cons_zero, List.set_cons_succ])
      change wpAnyH _ _ _ _ _ _ _ _ (w2.drew.alloc (.cells #[.int .i64 0, .slice none 0 0, .int .i64 0, .int .i64 0, .int .i64 0, .int .i64 0] 61))
      have hdz : w2.drew.heap.size = w2.heap.size := rfl
      rw [hdz] at HTB
      clear hdz
      generalize w2.drew.alloc (.cells #[.int .i64 0, .slice none 0 0, .int .i64 0, .int .i64 0, .int .i64 0, .int .i64 0] 61) = w3 at *
      refine wpAnyH_ready (rs := [8]) (by kernel_rfl) (by simp) ?_
      refine AllReadyH.cons rfl (fun K hK => ?_) AllReadyH.nil
      rw [if_pos (by rfl)]
      obtain ⟨q1, q2⟩ := heap_setCells [.int .i64 tg, .slice sa tn tc, .int .i64 o0, .int .i64 o1, .int .i64 o2, .int .i64 o3] 0 w3 _ (unhide HTB)
      have HTB4 : Hid ((w3.setCells w2.heap.size 0 [.int .i64 tg, .slice sa tn tc, .int .i64 o0, .int .i64 o1, .int .i64 o2, .int .i64 o3]).heap[w2.heap.size]? = some (.cells #[.int .i64 tg, .slice sa tn tc, .int .i64 o0, .int .i64 o1, .int .i64 o2, .int .i64 o3] 61)) := hide q1
      have HB4 := hide (below_touch (unhide HB3) q2 (unhide HB3).size (fun k hk => by omega))
      refine wp_store_mid 61 (.tmp 6) (.tmp 28) rfl w2.heap.size 0 #[.int .i64 tg, .slice sa tn tc, .int .i64 o0, .int .i64 o1, .int .i64 o2, .int .i64 o3] rfl rfl (there_of (unhide HTB) (by show 0 + 6 ≤ 6; decide)) (by kernel_rfl) (by simp [Value.oneCell']) ?_
      refine hK.out _ _ (unhide HB4) (fun hHeld => ?_)
      clear hK K q1 q2 HTB HB3
      (try simp only [Act.put, List.setIfInBounds_toArray])
      change wpAnyH _ _ _ _ _ _ _ _ (w3.setCells w2.heap.size 0 [.int .i64 tg, .slice sa tn tc, .int .i64 o0, .int .i64 o1, .int .i64 o2, .int .i64 o3])
      generalize w3.setCells w2.heap.size 0 [.int .i64 tg, .slice sa tn tc, .int .i64 o0, .int .i64 o1, .int .i64 o2, .int .i64 o3] = w4 at *
      refine wpAnyH_done (by kernel_rfl) ?_ _
      have HXT : Hid (xb ≠ w2.heap.size) := hide (by have := lt_of_heap (unhide HX); omega)
      clear hHeld SK H2 HX T2 I2
      generalize hn : w2.heap.size = tb at *
      have HN := hide hn
      clear hn
      have x0 := cell_of (unhide KX _ (unhide HB4)) 0
      have x2 := cell_of (unhide KX _ (unhide HB4)) 2
      have u0 := cell_of (unhide HTB4) 0
      simp at x0 x2 u0
      have hdg : decide (tg < gen) = true := decide_eq_true (by have h1 := unhide HGT; unfold Newer at h1; have h2 := unhide HG; simp only at h2; omega)
      go_upto_region 9 with fail
      clear x0 x2 u0 hdg
      have hd5 : Below w4.heap.size w4 w4.drew := (Below.refl _ _).drew
      have HTB5 := hide (below_keep hd5 (unhide HTB4))
      have HB5 : Hid (Below tb w2 w4.drew) := hide (unhide HB4).drew
      have HX5 := hide (unhide KX _ (unhide HB5))
      clear HTB4 HB4 hd5
      refine wp_region_held_drew (S := fun w' => w'.heap[xb]? = some (.cells #[.int .i64 1, .int .i64 gr, .int .i64 gen, .slice a l.length k, .int .i64 pt, .int .i64 off] 29)) (by kernel_rfl) (unhide HX5) (fun hHeld => ?_)
      generalize w4.drew = w5 at *
      have ft0 : w5.frozen? ⟨tb, 0, none⟩ = false := frozen_of (unhide HTB5) 0
      have ft1 : w5.frozen? ⟨tb, 1, none⟩ = false := frozen_of (unhide HTB5) 1
      have zt0 : w5.cell? ⟨tb, 0, none⟩ = some (.int .i64 tg) := cell_of (unhide HTB5) 0
      have zt1 : w5.cell? ⟨tb, 1, none⟩ = some (.slice sa tn tc) := cell_of (unhide HTB5) 1
      refine take17 (i := 0) (d := 51) (v := .pointer (some ⟨xb, 2, none⟩)) rfl rfl (by kernel_rfl) (by kernel_rfl) (by kernel_rfl) (fun _ _ _ h => h) (Or.inl ⟨by rfl, by intro w' hSw; (try dsimp only at hSw); go_simp⟩) (by assumption) ?_; (try simp only [List.setIfInBounds_toArray, List.set_cons_zero, List.set_cons_succ])
      refine take17 (i := 1) (d := 52) (v := .int .i64 gen) rfl rfl (by kernel_rfl) (by kernel_rfl) (by kernel_rfl) (fun _ _ _ h => h) (Or.inl ⟨by rfl, by intro w' hSw; (try dsimp only at hSw); have y4 := cell_of hSw 2; simp at y4; go_simp⟩) (by assumption) ?_; (try simp only [List.setIfInBounds_toArray, List.set_cons_zero, List.set_cons_succ])
      refine take17 (i := 2) (d := 53) (v := .pointer (some ⟨xb, 3, none⟩)) rfl rfl (by kernel_rfl) (by kernel_rfl) (by kernel_rfl) (fun _ _ _ h => h) (Or.inl ⟨by rfl, by intro w' hSw; (try dsimp only at hSw); go_simp⟩) (by assumption) ?_; (try simp only [List.setIfInBounds_toArray, List.set_cons_zero, List.set_cons_succ])
      refine take17 (i := 3) (d := 54) (v := .slice a l.length k) rfl rfl (by kernel_rfl) (by kernel_rfl) (by kernel_rfl) (fun _ _ _ h => h) (Or.inl ⟨by rfl, by intro w' hSw; (try dsimp only at hSw); have y4 := cell_of hSw 3; simp at y4; go_simp⟩) (by assumption) ?_; (try simp only [List.setIfInBounds_toArray, List.set_cons_zero, List.set_cons_succ])
      refine take17 (i := 4) (d := 55) (v := .pointer (some ⟨tb, 0, none⟩)) rfl rfl (by kernel_rfl) (by kernel_rfl) (by kernel_rfl) (fun _ _ _ h => h) (Or.inl ⟨by rfl, by intro w' hSw; (try dsimp only at hSw); go_simp⟩) (by assumption) ?_; (try simp only [List.setIfInBounds_toArray, List.set_cons_zero, List.set_cons_succ])
      refine wpAnyH_ready (rs := [5]) (by kernel_rfl) (by simp) ?_
      refine AllReadyH.cons rfl (fun K hK => ?_) AllReadyH.nil
      have tt := touch_set w5 tb 0 (.int .i64 gen)
      have HTB5b := hide (heap_set (unhide HTB5) 0 (.int .i64 gen))
      have HX5b := hide (tt.keep (unhide HX5) (unhide HXT))
      have HB5b := hide (below_touch (unhide HB5) tt (by have h1 := (unhide HB5).size; have h2 := unhide HN; omega) (fun k hk => by omega))
      clear tt HTB5 HX5 HB5
      go_simp
      refine hK.out _ _ (unhide HX5b) (fun hHeld => ?_)
      clear hK K zt0 zt1 ft0 ft1
      (try simp only [Act.put, List.setIfInBounds_toArray])
      generalize w5.setCell ⟨tb, 0, none⟩ (.int .i64 gen) = w5b at *
      have ftb : w5b.frozen? ⟨tb, 1, none⟩ = false := frozen_of (unhide HTB5b) 1
      have ztb : w5b.cell? ⟨tb, 1, none⟩ = some (.slice sa tn tc) := cell_of (unhide HTB5b) 1
      have tt := touch_set w5b tb 1 (.slice a l.length k)
      have HTB6 := hide (heap_set (unhide HTB5b) 1 (.slice a l.length k))
      have HX6 := hide (tt.keep (unhide HX5b) (unhide HXT))
      have HB6 := hide (below_touch (unhide HB5b) tt (by have h1 := (unhide HB5b).size; have h2 := unhide HN; omega) (fun k hk => by omega))
      clear tt HTB5b HX5b HB5b
      refine take17 (i := 6) (d := 56) (v := .pointer (some ⟨tb, 1, none⟩)) rfl rfl (by kernel_rfl) (by kernel_rfl) (by kernel_rfl) (fun _ _ _ h => h) (Or.inl ⟨by rfl, by intro w' hSw; (try dsimp only at hSw); go_simp⟩) (by assumption) ?_; (try simp only [List.setIfInBounds_toArray, List.set_cons_zero, List.set_cons_succ])
      refine wpAnyH_ready (rs := [7]) (by kernel_rfl) (by simp) ?_
      refine AllReadyH.cons rfl (fun K hK => ?_) AllReadyH.nil
      go_simp
      refine hK.out _ _ (unhide HX6) (fun hHeld => ?_)
      clear hK K ftb ztb HX6
      (try simp only [Act.put, List.setIfInBounds_toArray])
      generalize w5b.setCell ⟨tb, 1, none⟩ (.slice a l.length k) = w6 at *
      refine wpAnyH_done (by kernel_rfl) ?_ _
      clear hHeld
      go_upto_region 10 with fail
      have HB7 : Hid (Below tb w2 w6.drew) := hide (unhide HB6).drew
      have HTB7 := hide (below_keep ((Below.refl w6.heap.size w6).drew) (unhide HTB6))
      have H7 := hide (unhide KH _ (unhide HB7))
      have HX7 := hide (unhide KX _ (unhide HB7))
      clear HB6 HTB6
      obtain ⟨w8, hst, hm8, ht8⟩ := (unhide H7).map1.1.store (M := gK) (s := gr) (Nat.lt_of_le_of_lt (unhide H7).few (unhide HC)) (key_wf (unhide HR)) ⟨gen, og, l.length, k, o0, o1, o2, o3⟩
      have hst' : (Instr.mapUpdate 49 (.map (some mb)) (.int .i64 gr) (.agg #[.int .i64 gen, .slice a l.length k, .int .i64 o0, .int .i64 o1, .int .i64 o2, .int .i64 o3])).run Try.prog w6.drew = .ok () w8 := by
        rw [unhide HA]
        exact hst
      have nsb : sb ≠ mb := fun e => by
        obtain ⟨es, ck, h1⟩ := (unhide H7).map1.1.block
        rw [← e, (unhide H7).obj] at h1
        cases h1
      have nxb : xb ≠ mb := fun e => by
        obtain ⟨es, ck, h1⟩ := (unhide H7).map1.1.block
        rw [← e, unhide HX7] at h1
        cases h1
      have ntb : tb ≠ mb := fun e => by
        obtain ⟨es, ck, h1⟩ := (unhide H7).map1.1.block
        rw [← e, unhide HTB7] at h1
        cases h1
      have TA7 : TmA w6.drew ⟨gen, og, l.length, k, o0, o1, o2, o3⟩ (gaPut ⟨1, gr, gen, l, pt, off⟩ (A gr)) := by
        have q := unhide KA _ (unhide HB7)
        have qi := unhide KI _ (unhide HB7)
        have hng : gen > (A gr).gen := unhide HGT
        unfold gaPut
        rw [if_neg (show ¬ ((1 : Int) = 2) by decide), if_pos hng]
        exact ⟨rfl, rfl, qi, q.o0, q.o1, q.o2, q.o3, unhide HL⟩
      have F8 : Hid (HdQ B w sb (some mb) c A ⟨1, gr, gen, l, pt, off⟩ (.returned (.tuple #[])) w8) := hide (hd_end (unhide H7) (unhide HMB) (unhide KT _ (unhide HB7)) hm8 ht8 nsb TA7)
      have S8 : Hid (w8.cell? ⟨sb, 0, none⟩ = some (.map (some mb)) ∧ w8.heap[xb]? = some (.cells #[.int .i64 1, .int .i64 gr, .int .i64 gen, .slice a l.length k, .int .i64 pt, .int .i64 off] 29) ∧ w8.heap[tb]? = some (.cells #[.int .i64 gen, .slice a l.length k, .int .i64 o0, .int .i64 o1, .int .i64 o2, .int .i64 o3] 61)) := hide ⟨cell_of (ht8.keep (unhide H7).obj nsb) 0, ht8.keep (unhide HX7) nxb, ht8.keep (unhide HTB7) ntb⟩
      have S7 : Hid (w6.drew.cell? ⟨sb, 0, none⟩ = some (.map (some mb)) ∧ w6.drew.heap[xb]? = some (.cells #[.int .i64 1, .int .i64 gr, .int .i64 gen, .slice a l.length k, .int .i64 pt, .int .i64 off] 29) ∧ w6.drew.heap[tb]? = some (.cells #[.int .i64 gen, .slice a l.length k, .int .i64 o0, .int .i64 o1, .int .i64 o2, .int .i64 o3] 61)) := hide ⟨cell_of (unhide H7).obj 0, unhide HX7, unhide HTB7⟩
      clear hst hm8 ht8 nsb nxb ntb H7 HX7 HTB7 HB7 TA7 KH KX KT KA KI HMB
      refine wp_region_held_drew (S := fun w' => w'.cell? ⟨sb, 0, none⟩ = some (.map (some mb)) ∧ w'.heap[xb]? = some (.cells #[.int .i64 1, .int .i64 gr, .int .i64 gen, .slice a l.length k, .int .i64 pt, .int .i64 off] 29) ∧ w'.heap[tb]? = some (.cells #[.int .i64 gen, .slice a l.length k, .int .i64 o0, .int .i64 o1, .int .i64 o2, .int .i64 o3] 61)) (by kernel_rfl) (unhide S7) (fun hHeld => ?_)
      clear S7
      generalize w6.drew = w7 at *
      refine take17 (i := 0) (d := 57) (v := .pointer (some ⟨sb, 0, none⟩)) rfl rfl (by kernel_rfl) (by kernel_rfl) (by kernel_rfl) (fun _ _ _ h => h) (Or.inl ⟨by rfl, by intro w' hSw; (try dsimp only at hSw); go_simp⟩) (by assumption) ?_; (try simp only [List.setIfInBounds_toArray, List.set_cons_zero, List.set_cons_succ])
      refine take17 (i := 1) (d := 58) (v := .pointer (some ⟨sb, 0, none⟩)) rfl rfl (by kernel_rfl) (by kernel_rfl) (by kernel_rfl) (fun _ _ _ h => h) (Or.inl ⟨by rfl, by intro w' hSw; (try dsimp only at hSw); go_simp⟩) (by assumption) ?_; (try simp only [List.setIfInBounds_toArray, List.set_cons_zero, List.set_cons_succ])
      refine take17 (i := 2) (d := 59) (v := .pointer (some ⟨sb, 0, none⟩)) rfl rfl (by kernel_rfl) (by kernel_rfl) (by kernel_rfl) (fun _ _ _ h => h) (Or.inl ⟨by rfl, by intro w' hSw; (try dsimp only at hSw); go_simp⟩) (by assumption) ?_; (try simp only [List.setIfInBounds_toArray, List.set_cons_zero, List.set_cons_succ])
      refine take17 (i := 3) (d := 60) (v := .map (some mb)) rfl rfl (by kernel_rfl) (by kernel_rfl) (by kernel_rfl) (fun _ _ _ h => h) (Or.inl ⟨by rfl, by intro w' hSw; (try dsimp only at hSw); obtain ⟨s0, s1, s2⟩ := hSw; go_simp⟩) (by assumption) ?_; (try simp only [List.setIfInBounds_toArray, List.set_cons_zero, List.set_cons_succ])
      refine take17 (i := 4) (d := 61) (v := .pointer (some ⟨xb, 1, none⟩)) rfl rfl (by kernel_rfl) (by kernel_rfl) (by kernel_rfl) (fun _ _ _ h => h) (Or.inl ⟨by rfl, by intro w' hSw; (try dsimp only at hSw); go_simp⟩) (by assumption) ?_; (try simp only [List.setIfInBounds_toArray, List.set_cons_zero, List.set_cons_succ])
      refine take17 (i := 5) (d := 62) (v := .int .i64 gr) rfl rfl (by kernel_rfl) (by kernel_rfl) (by kernel_rfl) (fun _ _ _ h => h) (Or.inl ⟨by rfl, by intro w' hSw; (try dsimp only at hSw); obtain ⟨s0, s1, s2⟩ := hSw; have y1 := cell_of s1 1; simp at y1; go_simp⟩) (by assumption) ?_; (try simp only [List.setIfInBounds_toArray, List.set_cons_zero, List.set_cons_succ])
      refine take17 (i := 6) (d := 63) (v := .agg #[.int .i64 gen, .slice a l.length k, .int .i64 o0, .int .i64 o1, .int .i64 o2, .int .i64 o3]) rfl rfl (by kernel_rfl) (by kernel_rfl) (by kernel_rfl) (fun _ _ _ h => h) (Or.inl ⟨by rfl, by intro w' hSw; (try dsimp only at hSw); obtain ⟨s0, s1, s2⟩ := hSw; have q0 := cell_of s2 0; have q1 := cell_of s2 1; have q2 := cell_of s2 2; have q3 := cell_of s2 3; have q4 := cell_of s2 4; have q5 := cell_of s2 5; simp at q0 q1 q2 q3 q4 q5; go_simp⟩) (by assumption) ?_; (try simp only [List.setIfInBounds_toArray, List.set_cons_zero, List.set_cons_succ])
      refine wpAnyH_ready (rs := [7]) (by kernel_rfl) (by simp) ?_
      refine AllReadyH.cons rfl (fun K hK => ?_) AllReadyH.nil
      go_simp
      refine hK.out _ _ (unhide S8) (fun hHeld => ?_)
      clear hK K
      (try simp only [Act.put, List.setIfInBounds_toArray])
      refine wpAnyH_done (by kernel_rfl) ?_ _
      clear hHeld hst'
      go_wp2
      go_roundw
      case rel => exact .inr ⟨by go_num, F8⟩
      case measure => simp [intOf]
    · go_wp2
      go_returns
      exact unhide hh
set_option maxRecDepth 100000 in
set_option maxHeartbeats 8000000 in
theorem gold_some_old {B : Nat} {w : World} {sb c : Nat} {m : List (Int × Tm)} {A : Int → Ga} {gr gen pt off : Int} {l : List Int} {v : Value} {mb : Nat} (h : GP B w sb (some mb) m c A) (hv : OneS B w v ⟨1, gr, gen, l, pt, off⟩) (hr : 0 ≤ gr ∧ gr < 8) (hl : l.length ≤ 8) (hc : c < maxLen) (hB : B ≤ w.heap.size) (hgt : ¬ Newer (A gr) gen) :
    Calls Try.prog 18 #[.pointer (some ⟨sb, 0, none⟩), v] w fun e w' => HdQ B w sb (some mb) c A ⟨1, gr, gen, l, pt, off⟩ e w' := by
  obtain ⟨g, cv, og, a, k, ha, rfl, hw, hi, hg⟩ := hv
  have HA := hide ha
  have hi' : IAt w (adr og) l := by have q := hi; rw [ha] at q; exact q
  clear ha
  have y0 : w.cell? ⟨sb, 0, none⟩ = some (.map (some mb)) := cell_of h.obj 0
  have H := hide h
  have HW := hide hw
  have HI := hide hi'
  have HB := hide hB
  have HR := hide hr
  have HL := hide hl
  have HC := hide hc
  have HGT := hide hgt
  have hq : ∀ (W : World) (b : Nat), (binOp .eql 49 (.map (some b)) (.map none)).run Try.prog W = .ok (.bool false) W := fun _ _ => by kernel_rfl
  have hq0 : ∀ (W : World), (binOp .eql 49 (.map none) (.map none)).run Try.prog W = .ok (.bool true) W := fun _ => by kernel_rfl
  clear h hw hg hB hi hi' hr hl hc hgt
  go_enter Try.func18, Try.ntmps18
  go_upto_region 2 with fail
  have HMB : Hid (Grew (some mb) w mb) := hide (.inl rfl)
  obtain ⟨w1, hw1⟩ : ∃ w1, w1 = w := ⟨_, rfl⟩
  have H1 : Hid (GP B w1 sb (some mb) m c A) := by rw [hw1]; exact H
  have W1 : Hid (Wide w1 29 6 (.slice (some ⟨g, 0, none⟩) 1 cv) 1 [.int .i64 1, .int .i64 gr, .int .i64 gen, .slice a l.length k, .int .i64 pt, .int .i64 off]) := by rw [hw1]; exact HW
  have I1 : Hid (IAt w1 (adr og) l) := by rw [hw1]; exact HI
  have T1 : Hid (Touch (TP sb (some mb) w) w w1) := by rw [hw1]; exact hide (Touch.refl _ _)
  clear y0 H HW HI
  rw [← hw1]
  clear hw1
  go_wp2_with fail
  go_loopw [18] (fun iv wr => (iv = .int .i64 0 ∧ wr = w1) ∨ (iv = .int .i64 1 ∧ Hid (HdQ B w sb (some mb) c A ⟨1, gr, gen, l, pt, off⟩ (.returned (.tuple #[])) wr))) (fun iv _ => 1 - (intOf iv).toNat)
  case atStart => exact .inl ⟨rfl, rfl⟩
  case round =>
    rcases hrel with ⟨rfl, rfl⟩ | ⟨rfl, hh⟩
    · obtain ⟨a', cap, ev, _, _, _, _, hcx⟩ := (unhide W1).parts
      obtain ⟨g', ea, _, hcell, _⟩ := hcx (by omega)
      injection ev with e1 e2 e3
      rw [ea] at e1
      cases e1
      have z0 := hcell 0 (by omega)
      have z1 := hcell 1 (by omega)
      have z2 := hcell 2 (by omega)
      have z3 := hcell 3 (by omega)
      have z4 := hcell 4 (by omega)
      have z5 := hcell 5 (by omega)
      simp only [List.getElem?_cons_zero, List.getElem?_cons_succ] at z0 z1 z2 z3 z4 z5
      clear hcell hcx ea e2 e3
      go_upto_region 5 with fail
      have b2 := (Below.refl wr.heap.size wr).alloc (Nat.le_refl _) (.cells #[.int .i64 1, .int .i64 gr, .int .i64 gen, .slice a l.length k, .int .i64 pt, .int .i64 off] 29)
      have HX := hide (heap_new wr (.cells #[.int .i64 1, .int .i64 gr, .int .i64 gen, .slice a l.length k, .int .i64 pt, .int .i64 off] 29))
      have H2 := hide ((unhide H1).later b2)
      have I2 := hide ((unhide I1).later b2)
      have T2 := hide ((unhide T1).trans (Touch.of_below b2))
      clear b2 H1 W1 T1 I1 z0 z1 z2 z3 z4 z5
      change Code.wp _ _ _ _ (wr.alloc (.cells #[.int .i64 1, .int .i64 gr, .int .i64 gen, .slice a l.length k, .int .i64 pt, .int .i64 off] 29))
      generalize wr.alloc (.cells #[.int .i64 1, .int .i64 gr, .int .i64 gen, .slice a l.length k, .int .i64 pt, .int .i64 off] 29) = w2 at *
      generalize wr.heap.size = xb at *
      obtain ⟨T, hT⟩ : ∃ T, T = mgot gK (matx m gr) := ⟨_, rfl⟩
      have HTA := hide ((unhide H2).team gr)
      have LK : Hid (∀ W, Below w2.heap.size w2 W → (Instr.lookup 49 (.map (some mb)) (.int .i64 gr) false).run Try.prog W = .ok (tmV T) W) := hide (fun W hb => by
        have := ((unhide H2).later hb).look (unhide HR)
        rw [hT]
        exact this)
      rw [← hT] at HTA
      clear hT
      obtain ⟨tg, tgb, tn, tc, o0, o1, o2, o3⟩ := T
      unfold tmV tmC at LK
      simp only at LK
      have KH : Hid (∀ W, Below w2.heap.size w2 W → GP B W sb (some mb) m c A) := hide (fun W hb => (unhide H2).later hb)
      have KX : Hid (∀ W, Below w2.heap.size w2 W → W.heap[xb]? = some (.cells #[.int .i64 1, .int .i64 gr, .int .i64 gen, .slice a l.length k, .int .i64 pt, .int .i64 off] 29)) := hide (fun W hb => below_keep hb (unhide HX))
      have KT : Hid (∀ W, Below w2.heap.size w2 W → Touch (TP sb (some mb) w) w W) := hide (fun W hb => (unhide T2).trans (Touch.of_below hb))
      have KA : Hid (∀ W, Below w2.heap.size w2 W → TmA W ⟨tg, tgb, tn, tc, o0, o1, o2, o3⟩ (A gr)) := hide (fun W hb => (unhide HTA).keep (Touch.of_below (S := fun _ => False) hb) (fun _ h => h.elim))
      have KI : Hid (∀ W, Below w2.heap.size w2 W → IAt W (adr og) l) := hide (fun W hb => (unhide I2).later hb)
      have HG := hide (unhide HTA).gen
      generalize hsa : Option.map (fun g => (⟨g, 0, none⟩ : Addr)) tgb = sa at *
      have HSA := hide hsa
      clear hsa
      have SK : Hid (∀ W, Below w2.heap.size w2 W → W.cell? ⟨sb, 0, none⟩ = some (.map (some mb)) ∧ W.cell? ⟨xb, 1, none⟩ = some (.int .i64 gr) ∧ (Instr.lookup 49 (.map (some mb)) (.int .i64 gr) false).run Try.prog W = .ok (.agg #[.int .i64 tg, .slice sa tn tc, .int .i64 o0, .int .i64 o1, .int .i64 o2, .int .i64 o3]) W) := hide (fun W hb => ⟨cell_of (below_keep hb (unhide H2).obj) 0, cell_of (below_keep hb (unhide HX)) 1, unhide LK W hb⟩)
      clear LK HTA
      refine wp_region_held_drew (S := fun w' => Below w2.heap.size w2 w') (by kernel_rfl) ((Below.refl _ _).drew) (fun hHeld => ?_)
      refine take17 (i := 0) (d := 22) (v := .pointer (some ⟨sb, 0, none⟩)) rfl rfl (by kernel_rfl) (by kernel_rfl) (by kernel_rfl) (fun _ _ _ h => h) (Or.inl ⟨by rfl, by intro w' hSw; (try dsimp only at hSw); go_simp⟩) (by assumption) ?_; (try simp only [List.setIfInBounds_toArray, List.set_cons_zero, List.set_cons_succ])
      refine take17 (i := 1) (d := 23) (v := .pointer (some ⟨sb, 0, none⟩)) rfl rfl (by kernel_rfl) (by kernel_rfl) (by kernel_rfl) (fun _ _ _ h => h) (Or.inl ⟨by rfl, by intro w' hSw; (try dsimp only at hSw); go_simp⟩) (by assumption) ?_; (try simp only [List.setIfInBounds_toArray, List.set_cons_zero, List.set_cons_succ])
      refine take17 (i := 2) (d := 24) (v := .pointer (some ⟨sb, 0, none⟩)) rfl rfl (by kernel_rfl) (by kernel_rfl) (by kernel_rfl) (fun _ _ _ h => h) (Or.inl ⟨by rfl, by intro w' hSw; (try dsimp only at hSw); go_simp⟩) (by assumption) ?_; (try simp only [List.setIfInBounds_toArray, List.set_cons_zero, List.set_cons_succ])
      refine take17 (i := 3) (d := 25) (v := .map (some mb)) rfl rfl (by kernel_rfl) (by kernel_rfl) (by kernel_rfl) (fun _ _ _ h => h) (Or.inl ⟨by rfl, by intro w' hSw; (try dsimp only at hSw); obtain ⟨s0, s1, sl⟩ := unhide SK w' hSw; go_simp⟩) (by assumption) ?_; (try simp only [List.setIfInBounds_toArray, List.set_cons_zero, List.set_cons_succ])
      refine take17 (i := 4) (d := 26) (v := .pointer (some ⟨xb, 1, none⟩)) rfl rfl (by kernel_rfl) (by kernel_rfl) (by kernel_rfl) (fun _ _ _ h => h) (Or.inl ⟨by rfl, by intro w' hSw; (try dsimp only at hSw); go_simp⟩) (by assumption) ?_; (try simp only [List.setIfInBounds_toArray, List.set_cons_zero, List.set_cons_succ])
      refine take17 (i := 5) (d := 27) (v := .int .i64 gr) rfl rfl (by kernel_rfl) (by kernel_rfl) (by kernel_rfl) (fun _ _ _ h => h) (Or.inl ⟨by rfl, by intro w' hSw; (try dsimp only at hSw); obtain ⟨s0, s1, sl⟩ := unhide SK w' hSw; go_simp⟩) (by assumption) ?_; (try simp only [List.setIfInBounds_toArray, List.set_cons_zero, List.set_cons_succ])
      refine take17 (i := 6) (d := 28) (v := .agg #[.int .i64 tg, .slice sa tn tc, .int .i64 o0, .int .i64 o1, .int .i64 o2, .int .i64 o3]) rfl rfl (by kernel_rfl) (by kernel_rfl) (by kernel_rfl) (fun _ _ _ h => h) (Or.inl ⟨by rfl, by intro w' hSw; (try dsimp only at hSw); obtain ⟨s0, s1, sl⟩ := unhide SK w' hSw; go_simp⟩) (by assumption) ?_; (try simp only [List.setIfInBounds_toArray, List.set_cons_zero, List.set_cons_succ])
      refine wpAnyH_ready (rs := [7]) (by kernel_rfl) (by simp) ?_
      refine AllReadyH.cons rfl (fun K hK => ?_) AllReadyH.nil
      go_simp
      have b3 : Below w2.heap.size w2 (w2.drew.alloc (.cells #[.int .i64 0, .slice none 0 0, .int .i64 0, .int .i64 0, .int .i64 0, .int .i64 0] 61)) := ((Below.refl _ _).drew).alloc (Nat.le_refl _) _
      have HTB := hide (heap_new w2.drew (.cells #[.int .i64 0, .slice none 0 0, .int .i64 0, .int .i64 0, .int .i64 0, .int .i64 0] 61))
      have HB3 := hide b3
      refine hK.out _ _ b3 (fun hHeld => ?_)
      clear hK K b3
      (try simp only [Act.put, List.setIfInBounds_toArray, List.set_cons_zero, List.set_cons_succ])
      change wpAnyH _ _ _ _ _ _ _ _ (w2.drew.alloc (.cells #[.int .i64 0, .slice none 0 0, .int .i64 0, .int .i64 0, .int .i64 0, .int .i64 0] 61))
      have hdz : w2.drew.heap.size = w2.heap.size := rfl
      rw [hdz] at HTB
      clear hdz
      generalize w2.drew.alloc (.cells #[.int .i64 0, .slice none 0 0, .int .i64 0, .int .i64 0, .int .i64 0, .int .i64 0] 61) = w3 at *
      refine wpAnyH_ready (rs := [8]) (by kernel_rfl) (by simp) ?_
      refine AllReadyH.cons rfl (fun K hK => ?_) AllReadyH.nil
      rw [if_pos (by rfl)]
      obtain ⟨q1, q2⟩ := heap_setCells [.int .i64 tg, .slice sa tn tc, .int .i64 o0, .int .i64 o1, .int .i64 o2, .int .i64 o3] 0 w3 _ (unhide HTB)
      have HTB4 : Hid ((w3.setCells w2.heap.size 0 [.int .i64 tg, .slice sa tn tc, .int .i64 o0, .int .i64 o1, .int .i64 o2, .int .i64 o3]).heap[w2.heap.size]? = some (.cells #[.int .i64 tg, .slice sa tn tc, .int .i64 o0, .int .i64 o1, .int .i64 o2, .int .i64 o3] 61)) := hide q1
      have HB4 := hide (below_touch (unhide HB3) q2 (unhide HB3).size (fun k hk => by omega))
      refine wp_store_mid 61 (.tmp 6) (.tmp 28) rfl w2.heap.size 0 #[.int .i64 tg, .slice sa tn tc, .int .i64 o0, .int .i64 o1, .int .i64 o2, .int .i64 o3] rfl rfl (there_of (unhide HTB) (by show 0 + 6 ≤ 6; decide)) (by kernel_rfl) (by simp [Value.oneCell']) ?_
      refine hK.out _ _ (unhide HB4) (fun hHeld => ?_)
      clear hK K q1 q2 HTB HB3
      (try simp only [Act.put, List.setIfInBounds_toArray])
      change wpAnyH _ _ _ _ _ _ _ _ (w3.setCells w2.heap.size 0 [.int .i64 tg, .slice sa tn tc, .int .i64 o0, .int .i64 o1, .int .i64 o2, .int .i64 o3])
      generalize w3.setCells w2.heap.size 0 [.int .i64 tg, .slice sa tn tc, .int .i64 o0, .int .i64 o1, .int .i64 o2, .int .i64 o3] = w4 at *
      refine wpAnyH_done (by kernel_rfl) ?_ _
      have HXT : Hid (xb ≠ w2.heap.size) := hide (by have := lt_of_heap (unhide HX); omega)
      clear hHeld SK H2 HX T2 I2
      generalize hn : w2.heap.size = tb at *
      have HN := hide hn
      clear hn
      have x0 := cell_of (unhide KX _ (unhide HB4)) 0
      have x2 := cell_of (unhide KX _ (unhide HB4)) 2
      have u0 := cell_of (unhide HTB4) 0
      simp at x0 x2 u0
      have hdg : decide (tg < gen) = false := decide_eq_false (by have h1 := unhide HGT; unfold Newer at h1; have h2 := unhide HG; simp only at h2; omega)
      have HTB6 := HTB4
      have HB6 := HB4
      clear HTB4 HB4
      obtain ⟨w6, hw6⟩ : ∃ w6, w6 = w4 := ⟨_, rfl⟩
      rw [← hw6] at HTB6 HB6 x0 x2 u0 ⊢
      clear hw6
      go_upto_region 10 with fail
      have HB7 : Hid (Below tb w2 w6.drew) := hide (unhide HB6).drew
      have HTB7 := hide (below_keep ((Below.refl w6.heap.size w6).drew) (unhide HTB6))
      have H7 := hide (unhide KH _ (unhide HB7))
      have HX7 := hide (unhide KX _ (unhide HB7))
      clear HB6 HTB6
      obtain ⟨w8, hst, hm8, ht8⟩ := (unhide H7).map1.1.store (M := gK) (s := gr) (Nat.lt_of_le_of_lt (unhide H7).few (unhide HC)) (key_wf (unhide HR)) ⟨tg, tgb, tn, tc, o0, o1, o2, o3⟩
      have hst' : (Instr.mapUpdate 49 (.map (some mb)) (.int .i64 gr) (.agg #[.int .i64 tg, .slice sa tn tc, .int .i64 o0, .int .i64 o1, .int .i64 o2, .int .i64 o3])).run Try.prog w6.drew = .ok () w8 := by
        rw [← unhide HSA]
        exact hst
      have nsb : sb ≠ mb := fun e => by
        obtain ⟨es, ck, h1⟩ := (unhide H7).map1.1.block
        rw [← e, (unhide H7).obj] at h1
        cases h1
      have nxb : xb ≠ mb := fun e => by
        obtain ⟨es, ck, h1⟩ := (unhide H7).map1.1.block
        rw [← e, unhide HX7] at h1
        cases h1
      have ntb : tb ≠ mb := fun e => by
        obtain ⟨es, ck, h1⟩ := (unhide H7).map1.1.block
        rw [← e, unhide HTB7] at h1
        cases h1
      have TA7 : TmA w6.drew ⟨tg, tgb, tn, tc, o0, o1, o2, o3⟩ (gaPut ⟨1, gr, gen, l, pt, off⟩ (A gr)) := by
        have q := unhide KA _ (unhide HB7)
        have qi := unhide KI _ (unhide HB7)
        have hng : ¬ gen > (A gr).gen := unhide HGT
        unfold gaPut
        rw [if_neg (show ¬ ((1 : Int) = 2) by decide), if_neg hng]
        exact q
      have F8 : Hid (HdQ B w sb (some mb) c A ⟨1, gr, gen, l, pt, off⟩ (.returned (.tuple #[])) w8) := hide (hd_end (unhide H7) (unhide HMB) (unhide KT _ (unhide HB7)) hm8 ht8 nsb TA7)
      have S8 : Hid (w8.cell? ⟨sb, 0, none⟩ = some (.map (some mb)) ∧ w8.heap[xb]? = some (.cells #[.int .i64 1, .int .i64 gr, .int .i64 gen, .slice a l.length k, .int .i64 pt, .int .i64 off] 29) ∧ w8.heap[tb]? = some (.cells #[.int .i64 tg, .slice sa tn tc, .int .i64 o0, .int .i64 o1, .int .i64 o2, .int .i64 o3] 61)) := hide ⟨cell_of (ht8.keep (unhide H7).obj nsb) 0, ht8.keep (unhide HX7) nxb, ht8.keep (unhide HTB7) ntb⟩
      have S7 : Hid (w6.drew.cell? ⟨sb, 0, none⟩ = some (.map (some mb)) ∧ w6.drew.heap[xb]? = some (.cells #[.int .i64 1, .int .i64 gr, .int .i64 gen, .slice a l.length k, .int .i64 pt, .int .i64 off] 29) ∧ w6.drew.heap[tb]? = some (.cells #[.int .i64 tg, .slice sa tn tc, .int .i64 o0, .int .i64 o1, .int .i64 o2, .int .i64 o3] 61)) := hide ⟨cell_of (unhide H7).obj 0, unhide HX7, unhide HTB7⟩
      clear hst hm8 ht8 nsb nxb ntb H7 HX7 HTB7 HB7 TA7 KH KX KT KA KI HMB
      refine wp_region_held_drew (S := fun w' => w'.cell? ⟨sb, 0, none⟩ = some (.map (some mb)) ∧ w'.heap[xb]? = some (.cells #[.int .i64 1, .int .i64 gr, .int .i64 gen, .slice a l.length k, .int .i64 pt, .int .i64 off] 29) ∧ w'.heap[tb]? = some (.cells #[.int .i64 tg, .slice sa tn tc, .int .i64 o0, .int .i64 o1, .int .i64 o2, .int .i64 o3] 61)) (by kernel_rfl) (unhide S7) (fun hHeld => ?_)
      clear S7
      generalize w6.drew = w7 at *
      refine take17 (i := 0) (d := 57) (v := .pointer (some ⟨sb, 0, none⟩)) rfl rfl (by kernel_rfl) (by kernel_rfl) (by kernel_rfl) (fun _ _ _ h => h) (Or.inl ⟨by rfl, by intro w' hSw; (try dsimp only at hSw); go_simp⟩) (by assumption) ?_; (try simp only [List.setIfInBounds_toArray, List.set_cons_zero, List.set_cons_succ])
      refine take17 (i := 1) (d := 58) (v := .pointer (some ⟨sb, 0, none⟩)) rfl rfl (by kernel_rfl) (by kernel_rfl) (by kernel_rfl) (fun _ _ _ h => h) (Or.inl ⟨by rfl, by intro w' hSw; (try dsimp only at hSw); go_simp⟩) (by assumption) ?_; (try simp only [List.setIfInBounds_toArray, List.set_cons_zero, List.set_cons_succ])
      refine take17 (i := 2) (d := 59) (v := .pointer (some ⟨sb, 0, none⟩)) rfl rfl (by kernel_rfl) (by kernel_rfl) (by kernel_rfl) (fun _ _ _ h => h) (Or.inl ⟨by rfl, by intro w' hSw; (try dsimp only at hSw); go_simp⟩) (by assumption) ?_; (try simp only [List.setIfInBounds_toArray, List.set_cons_zero, List.set_cons_succ])
      refine take17 (i := 3) (d := 60) (v := .map (some mb)) rfl rfl (by kernel_rfl) (by kernel_rfl) (by kernel_rfl) (fun _ _ _ h => h) (Or.inl ⟨by rfl, by intro w' hSw; (try dsimp only at hSw); obtain ⟨s0, s1, s2⟩ := hSw; go_simp⟩) (by assumption) ?_; (try simp only [List.setIfInBounds_toArray, List.set_cons_zero, List.set_cons_succ])
      refine take17 (i := 4) (d := 61) (v := .pointer (some ⟨xb, 1, none⟩)) rfl rfl (by kernel_rfl) (by kernel_rfl) (by kernel_rfl) (fun _ _ _ h => h) (Or.inl ⟨by rfl, by intro w' hSw; (try dsimp only at hSw); go_simp⟩) (by assumption) ?_; (try simp only [List.setIfInBounds_toArray, List.set_cons_zero, List.set_cons_succ])
      refine take17 (i := 5) (d := 62) (v := .int .i64 gr) rfl rfl (by kernel_rfl) (by kernel_rfl) (by kernel_rfl) (fun _ _ _ h => h) (Or.inl ⟨by rfl, by intro w' hSw; (try dsimp only at hSw); obtain ⟨s0, s1, s2⟩ := hSw; have y1 := cell_of s1 1; simp at y1; go_simp⟩) (by assumption) ?_; (try simp only [List.setIfInBounds_toArray, List.set_cons_zero, List.set_cons_succ])
      refine take17 (i := 6) (d := 63) (v := .agg #[.int .i64 tg, .slice sa tn tc, .int .i64 o0, .int .i64 o1, .int .i64 o2, .int .i64 o3]) rfl rfl (by kernel_rfl) (by kernel_rfl) (by kernel_rfl) (fun _ _ _ h => h) (Or.inl ⟨by rfl, by intro w' hSw; (try dsimp only at hSw); obtain ⟨s0, s1, s2⟩ := hSw; have q0 := cell_of s2 0; have q1 := cell_of s2 1; have q2 := cell_of s2 2; have q3 := cell_of s2 3; have q4 := cell_of s2 4; have q5 := cell_of s2 5; simp at q0 q1 q2 q3 q4 q5; go_simp⟩) (by assumption) ?_; (try simp only [List.setIfInBounds_toArray, List.set_cons_zero, List.set_cons_succ])
      refine wpAnyH_ready (rs := [7]) (by kernel_rfl) (by simp) ?_
      refine AllReadyH.cons rfl (fun K hK => ?_) AllReadyH.nil
      go_simp
      refine hK.out _ _ (unhide S8) (fun hHeld => ?_)
      clear hK K
      (try simp only [Act.put, List.setIfInBounds_toArray])
      refine wpAnyH_done (by kernel_rfl) ?_ _
      clear hHeld hst'
      go_wp2
      go_roundw
      case rel => exact .inr ⟨by go_num, F8⟩
      case measure => simp [intOf]
    · go_wp2
      go_returns
      exact unhide hh
end Go.Proofs.Ytfbnkeflgddcmaa
