/-
  WireBack answers true, for any message whose lists and pieces have at most 2^20 things. Conditions: the message as it lies.
-/
import Derived.Test.YtblmondkdcpkaaaZ55
import Derived.Test.YtblmondkdcpkaaaZ56
import Derived.Test.YtblmondkdcpkaaaZ57
import Derived.Test.YtblmondkdcpkaaaZ48

namespace Go.Proofs.Ytblmondkdcpkaaa
open Go.RowKit
set_option linter.unusedVariables false

section
variable {w w6 : World} {m x : Mg}
theorem sg_true {W : World} {p : Prop} (hp : p) {e : Ending} {w' : World} (h : SgP W p e w') : e = .returned (.bool true) ∧ Below W.heap.size W w' := by
  obtain ⟨q, he, hq, hb⟩ := h
  have : q = true := hq.2 hp
  subst this
  exact ⟨he, hb⟩
theorem back_x (DOC : DocAll) (hm : MgIn w m) (sm : MgS m) (hE : finE m = 0) (ix : MgIn w6 x) (fx : finE x = 0) (fl : finL x = finL m) (cx : Cn x) (bw : Below w.heap.size w w6) {W : World} (h : Below w6.heap.size w6 W) : Calls Try.prog 14 #[.agg (mgL x).toArray, .agg (mgL m).toArray] W fun e w' => e = .returned (.bool true) ∧ Below W.heap.size W w' :=
  (samemsg17 DOC (ix.later h) cx.s (hm.later (bw.trans (h.mono bw.size))) sm fx hE).mono fun _ _ g => sg_true fl g
theorem back_xb (DOC : DocAll) (ix : MgIn w6 x) (fx : finE x = 0) (cx : Cn x) {W : World} (h : Below w6.heap.size w6 W) : Calls Try.prog 14 #[.agg (mgL x).toArray, .agg (mgL (bareM x)).toArray] W fun e w' => e = .returned (.bool true) ∧ Below W.heap.size W w' :=
  (samemsg17 DOC (ix.later h) cx.s (bare_in (ix.later h)) (bare_s cx.s) fx ((bare_fin x).1.trans fx)).mono fun _ _ g => sg_true (bare_fin x).2.symm g
theorem back_l (hm : MgIn w m) (hE : finE m = 0) (ix : MgIn w6 x) (fx : finE x = 0) (fl : finL x = finL m) (cx : Cn x) {W : World} : Calls Try.prog 16 #[.agg (mgL x).toArray, .agg (mgL (bareM m)).toArray] W fun e w' => e = .returned (.bool true) ∧ Below W.heap.size W w' :=
  bare17_any (cx.k.trans (key_same ix hm fx hE fl))
end
set_option maxRecDepth 100000 in
set_option maxHeartbeats 16000000 in
theorem wireBack_ok (HEAD : HdAll) (DOC : DocAll) {w : World} {m : Mg} (hm : MgIn w m) (sm : MgS m) (hE : finE m = 0) :
    Calls Try.prog 4 #[.agg (mgL m).toArray] w fun e w' => e = .returned (.bool true) ∧ Below w.heap.size w w' := by
  have b1 := (Below.refl w.heap.size w).alloc (Nat.le_refl _) (.cells (mgL m).toArray 41)
  have H1 := hide (heap_new w (.cells (mgL m).toArray 41))
  have B1 := hide b1
  have K1 := hide (wencode_any (hm.later b1) hE rfl)
  have HLEN := hide (fin_len hm hE).2
  have KDB : Hid (∀ W a cap, LAt W a (finL m) → (a = none → cap = 0) → Calls Try.prog 13 #[.slice a (finL m).length cap] W fun e w' => DcK W (finL m) e w') := hide (fun W a cap h1 h2 => decode_back HEAD hm hE h1 h2)
  have KX0 : Hid (∀ (x : Mg) (w6 : World), MgIn w6 x → finE x = 0 → finL x = finL m → Cn x → Below w.heap.size w w6 → ∀ W, Below w6.heap.size w6 W → Calls Try.prog 14 #[.agg (mgL x).toArray, .agg (mgL m).toArray] W fun e w' => e = .returned (.bool true) ∧ Below W.heap.size W w') := hide (fun x w6 ix fx fl cx bw W h => back_x DOC hm sm hE ix fx fl cx bw h)
  have KL0 : Hid (∀ (x : Mg) (w6 : World), MgIn w6 x → finE x = 0 → finL x = finL m → Cn x → ∀ W : World, Calls Try.prog 16 #[.agg (mgL x).toArray, .agg (mgL (bareM m)).toArray] W fun e w' => e = .returned (.bool true) ∧ Below W.heap.size W w') := hide (fun x w6 ix fx fl cx W => back_l hm hE ix fx fl cx)
  have KB2 : Hid (∀ W : World, Below W.heap.size W W → Calls Try.prog 15 #[.agg (mgL m).toArray] W fun e w' => e = .returned (.agg (mgL (bareM m)).toArray) ∧ Below W.heap.size W w') := hide (fun W _ => bare_ref)
  have KA := hide (fun (W : World) => awake17_any HEAD W)
  have KXB0 : Hid (∀ (x : Mg) (w6 : World), MgIn w6 x → finE x = 0 → Cn x → ∀ W, Below w6.heap.size w6 W → Calls Try.prog 14 #[.agg (mgL x).toArray, .agg (mgL (bareM x)).toArray] W fun e w' => e = .returned (.bool true) ∧ Below W.heap.size W w') := hide (fun x w6 ix fx cx W h => back_xb DOC ix fx cx h)
  clear b1 hm sm hE HEAD DOC
  go_enter Try.func4, Try.ntmps4
  go_upto_region 1 with fail
  change Code.wp _ _ _ _ (w.alloc (.cells (mgL m).toArray 41))
  generalize w.alloc (.cells (mgL m).toArray 41) = W1 at *
  have HRG := hide (range_of (o := 0) (ds := mgL m) (unhide H1) (fun j v hv => by rw [Nat.zero_add]; exact hv))
  have HIM := hide (info_mg m)
  have RG0 : Hid (∀ W : World, W.heap[w.heap.size]? = some (.cells (mgL m).toArray 41) → W.rangeAt w.heap.size 0 (mgL m)) := hide (fun W h => range_of (o := 0) (ds := mgL m) h (fun j v hv => by rw [Nat.zero_add]; exact hv))
  generalize finL m = TX at *
  generalize mgL (bareM m) = BM at *
  generalize mgL m = LM at *
  go_wp2_with (first
    | (with_reducible (show wpList _ _ _ (Oper.mk _ (Op.load _ _) _ _ _ _ :: _) _ _); refine wpList_load_mid rfl 41 (.tmp 1) rfl w.heap.size 0 rfl LM _ (unhide HRG) Try.underlying41 rfl (unhide HIM) ?_)
    | (go_at_call 11; refine (unhide K1).mono ?_))
  rintro e w3 ⟨vo, rfl, r3, n3, b3⟩
  obtain ⟨a3, c3, ev, l3, _, _, z3, _⟩ := r3.parts
  subst ev
  have L3 := hide l3
  have Z3 := hide z3
  have B3 := hide ((unhide B1).trans (b3.mono (unhide B1).size))
  have H3 := hide (below_keep b3 (unhide H1))
  clear r3 n3 b3 l3 z3 K1 HRG B1 H1
  go_wp2_with fail
  refine (unhide KA _).mono ?_
  rintro e w4 ⟨rfl, b4⟩
  have L4 := hide ((unhide L3).later b4)
  have B4 := hide ((unhide B3).trans (b4.mono (unhide B3).size))
  have H4 := hide (below_keep b4 (unhide H3))
  clear b4 L3 B3 H3 KA
  have R0 := hide (Row.lit w4 [] (fun x hx => by cases hx) #[] rfl (by simp [maxLen]))
  go_wp2_with (at_builtin; refine wpList_row _ rfl (.tmp 27) (.tmp 28) rfl _ [] rfl (unhide R0) a3 c3 TX rfl ((unhide L4).keep ((Touch.refl (fun _ => False) w4).alloc _) (fun _ _ _ h => h)) (unhide Z3) (by have := unhide HLEN; simp; omega) ?_)
  intro va wa ra tca ma
  have FA := fresh_lit17 ra tca ma
  obtain ⟨aa, ca, rfl, la, _, _, na, _, _⟩ := FA.1.parts
  have BA := hide ((unhide B4).trans (FA.2.2.mono (unhide B4).size))
  have LA := hide ((unhide L4).later FA.2.2)
  have HA := hide (below_keep FA.2.2 (unhide H4))
  have KD1 := hide (unhide KDB wa aa ca la na)
  clear ra tca ma FA la na R0 L4 B4 H4 KDB
  go_wp2_with fail
  refine (unhide KD1).mono ?_
  rintro e w6 ⟨x, rfl, b6, ix, fx, fl, cx⟩
  have B6 := hide ((unhide BA).trans (b6.mono (unhide BA).size))
  have L6 := hide ((unhide LA).later b6)
  have H6 := hide (below_keep b6 (unhide HA))
  have KX := hide (unhide KX0 x w6 ix fx fl cx (unhide B6))
  have KL := hide (unhide KL0 x w6 ix fx fl cx)
  have KXB := hide (unhide KXB0 x w6 ix fx cx)
  have KB1 : Hid (∀ W : World, Below W.heap.size W W → Calls Try.prog 15 #[.agg (mgL x).toArray] W fun e w' => e = .returned (.agg (mgL (bareM x)).toArray) ∧ Below W.heap.size W w') := hide (fun W _ => bare_ref)
  have KE : Hid (∀ W, Below w6.heap.size w6 W → Calls Try.prog 11 #[.agg (mgL x).toArray] W fun e w' => EnM W 0 TX e w') := hide (fun W h => wencode_any (ix.later h) fx fl)
  have HIX := hide (info_mg x)
  have HLN : Hid ((mgL x).length = 59) := hide rfl
  have HW : Hid ((mgL x).toArray.all (·.oneCell') = true) := hide (mg_one x)
  have HB : Hid (∀ ob, Below w6.heap.size w6 (w6.alloc ob)) := hide (fun ob => (Below.refl w6.heap.size w6).alloc (Nat.le_refl _) ob)
  have RX0 : Hid (∀ (W : World) (b : Nat), W.heap[b]? = some (.cells (mgL x).toArray 41) → W.rangeAt b 0 (mgL x)) := hide (fun W b h => range_of (o := 0) (ds := mgL x) h (fun j v hv => by rw [Nat.zero_add]; exact hv))
  clear b6 ix fx fl cx BA LA HA KD1 KX0 KL0 KXB0
  generalize mgL (bareM x) = BX at *
  generalize mgL x = LX at *
  go_upto_region 5 with (with_reducible (show wpList _ _ _ (Oper.mk _ (Op.store _ _ _) _ _ _ _ :: _) _ _); refine store_list rfl (.tmp 5) (.tmp 31) rfl w6.heap.size LX rfl rfl (heap_new w6 _) rfl (unhide HLN) (unhide HW) ?_; rintro w7 q1 q2; have Q7 := hide q1; have D7 : Hid (Below w6.heap.size w6 w7) := hide (below_touch (unhide HB _) q2 (unhide HB _).size (fun k hk => by omega)); clear q1 q2)
  have B7 := hide ((unhide B6).trans ((unhide D7).mono (unhide B6).size))
  have L7 := hide ((unhide L6).later (unhide D7))
  have H7 := hide (below_keep (unhide D7) (unhide H6))
  have RX7 := hide (unhide RX0 w7 _ (unhide Q7))
  have KE7 := hide (unhide KE w7 (unhide D7))
  clear HW HLN HB B6 L6 H6 KE
  have HXB : Hid (w6.heap.size < w7.heap.size) := hide (lt_of_heap (unhide Q7))
  generalize hxb : w6.heap.size = xb at *
  have HXQ := hide hxb
  clear hxb
  go_wp2_with (first
    | (with_reducible (show wpList _ _ _ (Oper.mk _ (Op.load _ _) _ _ _ _ :: _) _ _); refine wpList_load_mid rfl 41 (.tmp 5) rfl xb 0 rfl LX _ (unhide RX7) Try.underlying41 rfl (unhide HIX) ?_)
    | (go_at_call 11; refine (unhide KE7).mono ?_))
  rintro e w8 ⟨vo, rfl, r8, n8, b8⟩
  obtain ⟨a8, c8, ev, l8, _, _, z8, _⟩ := r8.parts
  subst ev
  have B8 := hide ((unhide B7).trans (b8.mono (unhide B7).size))
  have L8 := hide ((unhide L7).later b8)
  have M8 := hide l8
  have D8 : Hid (Below xb w6 w8) := hide ((unhide D7).trans (b8.mono (by have := unhide HXB; omega)))
  have RGM : Hid (∀ W, Below w8.heap.size w8 W → W.rangeAt w.heap.size 0 LM) := hide (fun W h => unhide RG0 W (below_keep h (below_keep b8 (unhide H7))))
  have RGX : Hid (∀ W, Below w8.heap.size w8 W → W.rangeAt xb 0 LX) := hide (fun W h => unhide RX0 W _ (below_keep h (below_keep b8 (unhide Q7))))
  have TR : Hid (∀ W, Below w8.heap.size w8 W → Below xb w6 W) := hide (fun W h => (unhide D8).trans (h.mono (by have := (unhide D8).size; have := unhide HXQ; omega)))
  have KS : Hid (∀ W, Below w8.heap.size w8 W → Calls Try.prog 12 #[.slice a3 TX.length c3, .slice a8 TX.length c8] W fun e w' => e = .returned (.bool true) ∧ Below W.heap.size W w') := hide (fun W h => (same_any W a3 a8 c3 c8 TX ((unhide L8).later h) ((unhide M8).later h) (by have := unhide HLEN; omega)).mono (by rintro e w' ⟨rfl, nq, rfl⟩; exact ⟨rfl, below_drewN' (Below.refl _ _) nq⟩))
  have KX := hide (fun W (h : Below w8.heap.size w8 W) => unhide KX W (unhide TR W h))
  have KXB := hide (fun W (h : Below w8.heap.size w8 W) => unhide KXB W (unhide TR W h))
  have KB1 := hide (fun W (h : Below w8.heap.size w8 W) => unhide KB1 W (Below.refl _ _))
  have KB2 := hide (fun W (h : Below w8.heap.size w8 W) => unhide KB2 W (Below.refl _ _))
  have KL := hide (fun W (h : Below w8.heap.size w8 W) => unhide KL W)
  clear r8 n8 b8 l8 z8 B7 L7 H7 RX7 KE7 Q7 D7 D8 L8 M8 TR RX0 RG0 HXB HXQ HLEN Z3
  go_upto_region 6 with fail
  refine wp_region_held_drew (S := (fun W => Below w8.heap.size w8 W)) (by kernel_rfl) ((Below.refl _ _).drew) (fun hHeld => ?_)
  refine take17 (i := 0) (d := 38) (v := .int .i64 0) rfl rfl (by kernel_rfl) (by kernel_rfl) (by kernel_rfl) (fun _ _ _ h => h) (Or.inl ⟨by rfl, by intro w' hSw; (try dsimp only at hSw); go_simp⟩) (by assumption) ?_; (try simp only [List.setIfInBounds_toArray, List.set_cons_zero, List.set_cons_succ])
  refine take17 (i := 1) (d := 39) (v := .bool true) rfl rfl (by kernel_rfl) (by kernel_rfl) (by kernel_rfl) (fun _ _ _ h => h) (Or.inl ⟨by rfl, by intro w' hSw; (try dsimp only at hSw); go_simp⟩) (by assumption) ?_; (try simp only [List.setIfInBounds_toArray, List.set_cons_zero, List.set_cons_succ])
  refine take17 (i := 2) (d := 40) (v := .bool true) rfl rfl (by kernel_rfl) (by kernel_rfl) (by kernel_rfl) (fun _ _ _ h => h) (Or.inl ⟨by rfl, by intro w' hSw; (try dsimp only at hSw); go_simp⟩) (by assumption) ?_; (try simp only [List.setIfInBounds_toArray, List.set_cons_zero, List.set_cons_succ])
  refine take17 (i := 3) (d := 41) (v := .int .i64 0) rfl rfl (by kernel_rfl) (by kernel_rfl) (by kernel_rfl) (fun _ _ _ h => h) (Or.inl ⟨by rfl, by intro w' hSw; (try dsimp only at hSw); go_simp⟩) (by assumption) ?_; (try simp only [List.setIfInBounds_toArray, List.set_cons_zero, List.set_cons_succ])
  refine take17 (i := 4) (d := 42) (v := .bool true) rfl rfl (by kernel_rfl) (by kernel_rfl) (by kernel_rfl) (fun _ _ _ h => h) (Or.inl ⟨by rfl, by intro w' hSw; (try dsimp only at hSw); go_simp⟩) (by assumption) ?_; (try simp only [List.setIfInBounds_toArray, List.set_cons_zero, List.set_cons_succ])
  refine take17 (i := 5) (d := 43) (v := .bool true) rfl rfl (by kernel_rfl) (by kernel_rfl) (by kernel_rfl) (fun _ _ _ h => h) (Or.inl ⟨by rfl, by intro w' hSw; (try dsimp only at hSw); go_simp⟩) (by assumption) ?_; (try simp only [List.setIfInBounds_toArray, List.set_cons_zero, List.set_cons_succ])
  refine take17 (i := 6) (d := 44) (v := .bool true) rfl rfl (by kernel_rfl) (by kernel_rfl) (by kernel_rfl) (fun _ _ _ h => h) (Or.inl ⟨by rfl, by intro w' hSw; (try dsimp only at hSw); go_simp⟩) (by assumption) ?_; (try simp only [List.setIfInBounds_toArray, List.set_cons_zero, List.set_cons_succ])
  refine take17 (i := 7) (d := 45) (v := .slice a3 TX.length c3) rfl rfl (by kernel_rfl) (by kernel_rfl) (by kernel_rfl) (fun _ _ _ h => h) (Or.inl ⟨by rfl, by intro w' hSw; (try dsimp only at hSw); go_simp⟩) (by assumption) ?_; (try simp only [List.setIfInBounds_toArray, List.set_cons_zero, List.set_cons_succ])
  refine take17 (i := 8) (d := 46) (v := .slice a8 TX.length c8) rfl rfl (by kernel_rfl) (by kernel_rfl) (by kernel_rfl) (fun _ _ _ h => h) (Or.inl ⟨by rfl, by intro w' hSw; (try dsimp only at hSw); go_simp⟩) (by assumption) ?_; (try simp only [List.setIfInBounds_toArray, List.set_cons_zero, List.set_cons_succ])
  refine wpAnyH_ready (rs := [9]) (by kernel_rfl) (by simp) ?_
  refine AllReadyH.cons rfl (fun K hK => ?_) AllReadyH.nil
  go_simp
  have hO : Below w8.heap.size w8 _ := hHeld
  refine (unhide KS _ hO).mono ?_
  rintro e v1 ⟨rfl, b1⟩
  refine hK.out _ _ (hO.trans (b1.mono hO.size)) (fun hHeld => ?_)
  clear hK K hO b1; (try simp only [Act.put, List.setIfInBounds_toArray, List.set_cons_zero, List.set_cons_succ])
  refine take17 (i := 10) (d := 48) (v := .bool true) rfl rfl (by kernel_rfl) (by kernel_rfl) (by kernel_rfl) (fun _ _ _ h => h) (Or.inl ⟨by rfl, by intro w' hSw; (try dsimp only at hSw); go_simp⟩) (by assumption) ?_; (try simp only [List.setIfInBounds_toArray, List.set_cons_zero, List.set_cons_succ])
  refine take17 (i := 11) (d := 49) (v := .bool true) rfl rfl (by kernel_rfl) (by kernel_rfl) (by kernel_rfl) (fun _ _ _ h => h) (Or.inl ⟨by rfl, by intro w' hSw; (try dsimp only at hSw); go_simp⟩) (by assumption) ?_; (try simp only [List.setIfInBounds_toArray, List.set_cons_zero, List.set_cons_succ])
  refine take17 (i := 12) (d := 50) (v := .agg LX.toArray) rfl rfl (by kernel_rfl) (by kernel_rfl) (by kernel_rfl) (fun _ _ _ h => h) (yieldsIf_load_mid (by rfl) 41 _ rfl (xb) 0 rfl LX _ (fun w' hSw => unhide RGX w' hSw) Try.underlying41 rfl (unhide HIX)) (by assumption) ?_; (try simp only [List.setIfInBounds_toArray, List.set_cons_zero, List.set_cons_succ])
  refine take17 (i := 13) (d := 51) (v := .agg LM.toArray) rfl rfl (by kernel_rfl) (by kernel_rfl) (by kernel_rfl) (fun _ _ _ h => h) (yieldsIf_load_mid (by rfl) 41 _ rfl (w.heap.size) 0 rfl LM _ (fun w' hSw => unhide RGM w' hSw) Try.underlying41 rfl (unhide HIM)) (by assumption) ?_; (try simp only [List.setIfInBounds_toArray, List.set_cons_zero, List.set_cons_succ])
  refine wpAnyH_ready (rs := [14]) (by kernel_rfl) (by simp) ?_
  refine AllReadyH.cons rfl (fun K hK => ?_) AllReadyH.nil
  go_simp
  have hO : Below w8.heap.size w8 _ := hHeld
  refine (unhide KX _ hO).mono ?_
  rintro e v2 ⟨rfl, b2⟩
  refine hK.out _ _ (hO.trans (b2.mono hO.size)) (fun hHeld => ?_)
  clear hK K hO b2; (try simp only [Act.put, List.setIfInBounds_toArray, List.set_cons_zero, List.set_cons_succ])
  refine take17 (i := 15) (d := 53) (v := .bool true) rfl rfl (by kernel_rfl) (by kernel_rfl) (by kernel_rfl) (fun _ _ _ h => h) (Or.inl ⟨by rfl, by intro w' hSw; (try dsimp only at hSw); go_simp⟩) (by assumption) ?_; (try simp only [List.setIfInBounds_toArray, List.set_cons_zero, List.set_cons_succ])
  refine take17 (i := 16) (d := 54) (v := .bool true) rfl rfl (by kernel_rfl) (by kernel_rfl) (by kernel_rfl) (fun _ _ _ h => h) (Or.inl ⟨by rfl, by intro w' hSw; (try dsimp only at hSw); go_simp⟩) (by assumption) ?_; (try simp only [List.setIfInBounds_toArray, List.set_cons_zero, List.set_cons_succ])
  refine take17 (i := 17) (d := 55) (v := .agg LX.toArray) rfl rfl (by kernel_rfl) (by kernel_rfl) (by kernel_rfl) (fun _ _ _ h => h) (yieldsIf_load_mid (by rfl) 41 _ rfl (xb) 0 rfl LX _ (fun w' hSw => unhide RGX w' hSw) Try.underlying41 rfl (unhide HIX)) (by assumption) ?_; (try simp only [List.setIfInBounds_toArray, List.set_cons_zero, List.set_cons_succ])
  refine take17 (i := 18) (d := 56) (v := .agg LX.toArray) rfl rfl (by kernel_rfl) (by kernel_rfl) (by kernel_rfl) (fun _ _ _ h => h) (yieldsIf_load_mid (by rfl) 41 _ rfl (xb) 0 rfl LX _ (fun w' hSw => unhide RGX w' hSw) Try.underlying41 rfl (unhide HIX)) (by assumption) ?_; (try simp only [List.setIfInBounds_toArray, List.set_cons_zero, List.set_cons_succ])
  refine wpAnyH_ready (rs := [19]) (by kernel_rfl) (by simp) ?_
  refine AllReadyH.cons rfl (fun K hK => ?_) AllReadyH.nil
  go_simp
  have hO : Below w8.heap.size w8 _ := hHeld
  refine (unhide KB1 _ hO).mono ?_
  rintro e v3 ⟨rfl, b3⟩
  refine hK.out _ _ (hO.trans (b3.mono hO.size)) (fun hHeld => ?_)
  clear hK K hO b3; (try simp only [Act.put, List.setIfInBounds_toArray, List.set_cons_zero, List.set_cons_succ])
  refine wpAnyH_ready (rs := [20]) (by kernel_rfl) (by simp) ?_
  refine AllReadyH.cons rfl (fun K hK => ?_) AllReadyH.nil
  go_simp
  have hO : Below w8.heap.size w8 _ := hHeld
  refine (unhide KXB _ hO).mono ?_
  rintro e v4 ⟨rfl, b4⟩
  refine hK.out _ _ (hO.trans (b4.mono hO.size)) (fun hHeld => ?_)
  clear hK K hO b4; (try simp only [Act.put, List.setIfInBounds_toArray, List.set_cons_zero, List.set_cons_succ])
  refine take17 (i := 21) (d := 59) (v := .bool true) rfl rfl (by kernel_rfl) (by kernel_rfl) (by kernel_rfl) (fun _ _ _ h => h) (Or.inl ⟨by rfl, by intro w' hSw; (try dsimp only at hSw); go_simp⟩) (by assumption) ?_; (try simp only [List.setIfInBounds_toArray, List.set_cons_zero, List.set_cons_succ])
  refine take17 (i := 22) (d := 60) (v := .bool true) rfl rfl (by kernel_rfl) (by kernel_rfl) (by kernel_rfl) (fun _ _ _ h => h) (Or.inl ⟨by rfl, by intro w' hSw; (try dsimp only at hSw); go_simp⟩) (by assumption) ?_; (try simp only [List.setIfInBounds_toArray, List.set_cons_zero, List.set_cons_succ])
  refine take17 (i := 23) (d := 61) (v := .agg LX.toArray) rfl rfl (by kernel_rfl) (by kernel_rfl) (by kernel_rfl) (fun _ _ _ h => h) (yieldsIf_load_mid (by rfl) 41 _ rfl (xb) 0 rfl LX _ (fun w' hSw => unhide RGX w' hSw) Try.underlying41 rfl (unhide HIX)) (by assumption) ?_; (try simp only [List.setIfInBounds_toArray, List.set_cons_zero, List.set_cons_succ])
  refine take17 (i := 24) (d := 62) (v := .agg LM.toArray) rfl rfl (by kernel_rfl) (by kernel_rfl) (by kernel_rfl) (fun _ _ _ h => h) (yieldsIf_load_mid (by rfl) 41 _ rfl (w.heap.size) 0 rfl LM _ (fun w' hSw => unhide RGM w' hSw) Try.underlying41 rfl (unhide HIM)) (by assumption) ?_; (try simp only [List.setIfInBounds_toArray, List.set_cons_zero, List.set_cons_succ])
  refine wpAnyH_ready (rs := [25]) (by kernel_rfl) (by simp) ?_
  refine AllReadyH.cons rfl (fun K hK => ?_) AllReadyH.nil
  go_simp
  have hO : Below w8.heap.size w8 _ := hHeld
  refine (unhide KB2 _ hO).mono ?_
  rintro e v5 ⟨rfl, b5⟩
  refine hK.out _ _ (hO.trans (b5.mono hO.size)) (fun hHeld => ?_)
  clear hK K hO b5; (try simp only [Act.put, List.setIfInBounds_toArray, List.set_cons_zero, List.set_cons_succ])
  refine wpAnyH_ready (rs := [26]) (by kernel_rfl) (by simp) ?_
  refine AllReadyH.cons rfl (fun K hK => ?_) AllReadyH.nil
  go_simp
  have hO : Below w8.heap.size w8 _ := hHeld
  refine (unhide KL _ hO).mono ?_
  rintro e v6 ⟨rfl, b6⟩
  refine hK.out _ _ (hO.trans (b6.mono hO.size)) (fun hHeld => ?_)
  clear hK K hO b6; (try simp only [Act.put, List.setIfInBounds_toArray, List.set_cons_zero, List.set_cons_succ])
  refine take17 (i := 27) (d := 65) (v := .bool true) rfl rfl (by kernel_rfl) (by kernel_rfl) (by kernel_rfl) (fun _ _ _ h => h) (Or.inl ⟨by rfl, by intro w' hSw; (try dsimp only at hSw); go_simp⟩) (by assumption) ?_; (try simp only [List.setIfInBounds_toArray, List.set_cons_zero, List.set_cons_succ])
  refine take17 (i := 28) (d := 2) (v := .bool true) rfl rfl (by kernel_rfl) (by kernel_rfl) (by kernel_rfl) (fun _ _ _ h => h) (Or.inl ⟨by rfl, by intro w' hSw; (try dsimp only at hSw); go_simp⟩) (by assumption) ?_; (try simp only [List.setIfInBounds_toArray, List.set_cons_zero, List.set_cons_succ])
  refine wpAnyH_done (by kernel_rfl) ?_ _
  go_wp2
  go_returns
  exact ⟨by first | rfl | (simp; done), (unhide B8).trans (Below.mono (by assumption) (unhide B8).size)⟩
set_option maxRecDepth 100000 in
set_option maxHeartbeats 8000000 in
theorem wireBack_no (HEAD : HdAll) {w : World} {m : Mg} (hm : MgIn w m) (hE : finE m ≠ 0) :
    Calls Try.prog 4 #[.agg (mgL m).toArray] w fun e w' => e = .returned (.bool true) ∧ Below w.heap.size w w' := by
  have b1 := (Below.refl w.heap.size w).alloc (Nat.le_refl _) (.cells (mgL m).toArray 41)
  have H1 := hide (heap_new w (.cells (mgL m).toArray 41))
  have B1 := hide b1
  have K1 := hide (wencode_any (hm.later b1) rfl (fin_none hE))
  have KA := hide (fun (W : World) => awake17_any HEAD W)
  have hEb : (finE m == 0) = false := beq_eq_false_iff_ne.2 hE
  have hEn : (finE m != 0) = true := by simp [bne, hEb]
  clear b1 hm HEAD hE
  go_enter Try.func4, Try.ntmps4
  go_upto_region 1 with fail
  change Code.wp _ _ _ _ (w.alloc (.cells (mgL m).toArray 41))
  generalize w.alloc (.cells (mgL m).toArray 41) = W1 at *
  have HRG := hide (range_of (o := 0) (ds := mgL m) (unhide H1) (fun j v hv => by rw [Nat.zero_add]; exact hv))
  have HI1 := hide (info_mg m)
  generalize finE m = E at *
  generalize mgL m = LM at *
  clear H1
  go_wp2_with (first
    | (with_reducible (show wpList _ _ _ (Oper.mk _ (Op.load _ _) _ _ _ _ :: _) _ _); refine wpList_load_mid rfl 41 (.tmp 1) rfl w.heap.size 0 rfl LM _ (unhide HRG) Try.underlying41 rfl (unhide HI1) ?_)
    | (go_at_call 11; refine (unhide K1).mono ?_))
  rintro e w3 ⟨vo, rfl, r3, n3, b3⟩
  obtain ⟨a3, c3, ev, l3, _, _, z3, _⟩ := r3.parts
  subst ev
  have B3 := hide ((unhide B1).trans (b3.mono (unhide B1).size))
  clear r3 n3 b3 l3 z3 K1 HRG B1
  go_wp2_with fail
  refine (unhide KA _).mono ?_
  rintro e w4 ⟨rfl, b4⟩
  have B4 := hide ((unhide B3).trans (b4.mono (unhide B3).size))
  clear b4 B3
  go_wp2_with fail
  refine (unhide KA _).mono ?_
  rintro e w5 ⟨rfl, b5⟩
  have B5 := hide ((unhide B4).trans (b5.mono (unhide B4).size))
  clear b5 B4 KA
  go_wp2
  go_ret
  exact ⟨rfl, unhide B5⟩
theorem wireBack_walk (HEAD : HdAll) (DOC : DocAll) {w : World} {m : Mg} (hm : MgIn w m) (sm : MgS m) :
    Calls Try.prog 4 #[.agg (mgL m).toArray] w fun e w' => e = .returned (.bool true) ∧ Below w.heap.size w w' := by
  by_cases hE : finE m = 0
  · exact wireBack_ok HEAD DOC hm sm hE
  · exact wireBack_no HEAD hm hE
end Go.Proofs.Ytblmondkdcpkaaa
