/-
  WireCut returns true at every input of bulk at most 1048576, and leaves its arguments as they were. Conditions: that bulk.
-/
import Derived.Test.YtcekleconjmfjaaZ30
import Derived.Test.YtcekleconjmfjaaRows
import Derived.Test.YtcekleconjmfjaaZ31
import Derived.Test.YtcekleconjmfjaaZ27
import Derived.JoinedCond
import Derived.Deep.CondSized
import Derived.SizedLaws
import Derived.WalkKit
import Derived.ProofKit
import Derived.OpenShut
import Derived.ShutString
import Derived.ChangeOld
import Derived.Below

/-
  WireCut answers true, for any message, any place and at most 2^20 bytes behind. Conditions: the message and the bytes as they lie.
-/
namespace Go.Proofs.Ytcekleconjmfjaa
open Go.RowKit
set_option linter.unusedVariables false

set_option maxRecDepth 100000 in
set_option maxHeartbeats 8000000 in
theorem wireCut_walk (HEAD : HdAll) {w : World} {m : Mg} {n : Nat} {t : List Nat} {ta : Option Addr} {tcap : Nat} (hm : MgIn w m) (hn : n < 65536) (ht : LAt w ta t) (htn : ta = none → tcap = 0) (htl : t.length ≤ 1048576) :
    Calls Try.prog 6 #[.agg (mgL m).toArray, .int .u16 (n : Nat), .slice ta t.length tcap] w fun e w' => e = .returned (.bool true) ∧ Below w.heap.size w w' := by
  have b1 := (Below.refl w.heap.size w).alloc (Nat.le_refl _) (.cells (mgL m).toArray 41)
  have H1 := hide (heap_new w (.cells (mgL m).toArray 41))
  have B1 := hide b1
  have HT := hide ht
  have HTN := hide htn
  have K1 := hide (wencode_any (hm.later b1) rfl rfl)
  have FN := hide (fun hq : finE m ≠ 0 => fin_none hq)
  have FL := hide (fun hq : finE m = 0 => fin_len hm hq)
  have FC := hide (fun hq : finE m = 0 => decode_cut HEAD hm hq)
  have FM := hide (fun hq : finE m = 0 => decode_more HEAD hm hq)
  have KA := hide (fun (W : World) => awake17_any HEAD W)
  clear b1 hm ht htn HEAD
  go_enter Try.func6, Try.ntmps6
  go_upto_region 1 with fail
  change Code.wp _ _ _ _ (w.alloc (.cells (mgL m).toArray 41))
  generalize w.alloc (.cells (mgL m).toArray 41) = W1 at *
  have HRG := hide (range_of (o := 0) (ds := mgL m) (unhide H1) (fun j v hv => by rw [Nat.zero_add]; exact hv))
  have HI1 := hide (info_mg m)
  generalize finE m = E at *
  generalize finL m = T at *
  generalize mgL m = LL at *
  clear H1
  go_wp2_with (first
    | (with_reducible (show wpList _ _ _ (Oper.mk _ (Op.load _ _) _ _ _ _ :: _) _ _); refine wpList_load_mid rfl 41 (.tmp 3) rfl w.heap.size 0 rfl LL _ (unhide HRG) Try.underlying41 rfl (unhide HI1) ?_)
    | (go_at_call 11; refine (unhide K1).mono ?_))
  rintro e w3 ⟨vo, rfl, r3, n3, b3⟩
  obtain ⟨ao, co, ev, l3, hco, _, z3, _⟩ := r3.parts
  subst ev
  have L3 := hide l3
  have Z3 := hide z3
  have B3 := hide ((unhide B1).trans (b3.mono (unhide B1).size))
  have HCO := hide hco
  clear r3 n3 b3 l3 z3 K1 HRG HI1 B1 hco
  by_cases hE : E = 0
  · obtain ⟨hpos, hlen⟩ := unhide FL hE
    have KC := hide (unhide FC hE)
    have KM := hide (unhide FM hE)
    subst hE
    clear FN FL FC FM
    have hT0 : ¬ (T.length : Int) = 0 := by omega
    have HLEN := hide hlen
    have HPOS := hide hpos
    clear hlen hpos
    go_wp2_with fail
    refine (unhide KA _).mono ?_
    rintro e w4 ⟨rfl, b4⟩
    have L4 := hide ((unhide L3).later b4)
    have B4 := hide ((unhide B3).trans (b4.mono (unhide B3).size))
    clear b4 L3 B3 KA
    obtain ⟨kk, hK⟩ : ∃ kk, kk = n % T.length := ⟨_, rfl⟩
    obtain ⟨TK, hTK⟩ : ∃ TK, TK = T.take kk := ⟨_, rfl⟩
    have hml : kk < T.length := by rw [hK]; exact Nat.mod_lt _ (unhide HPOS)
    have hkk : (n : Int) % (T.length : Int) = (kk : Int) := by rw [hK]; omega
    have HTL : Hid (TK.length = kk) := by show TK.length = kk; rw [hTK, List.length_take]; omega
    have LK : Hid (LAt w4 ao TK) := by show LAt w4 ao TK; rw [hTK]; exact (unhide L4).take _
    have hsl := slice_h ao T.length co kk (by have := unhide HCO; omega)
    have KD1 := hide (unhide KC kk hml)
    have HTK := hide hTK
    have hkl : kk ≤ 20000100 := by have := unhide HLEN; omega
    clear hml hK hTK KC
    have R0 := hide (Row.lit w4 [] (fun x hx => by cases hx) #[] rfl (by simp [maxLen]))
    go_wp2_with (at_builtin; refine wpList_row _ rfl (.tmp 35) (.tmp 42) rfl _ [] rfl (unhide R0) ao co TK (by rw [unhide HTL]; rfl) ((unhide LK).keep ((Touch.refl (fun _ => False) w4).alloc _) (fun _ _ _ h => h)) (unhide Z3) (by rw [unhide HTL]; simp; omega) ?_)
    intro va wa ra tca ma
    have FA := fresh_lit17 ra tca ma
    obtain ⟨aa, ca, rfl, la, _, _, na, _, _⟩ := FA.1.parts
    have BA := hide ((unhide B4).trans (FA.2.2.mono (unhide B4).size))
    have LA := hide ((unhide L4).later FA.2.2)
    have KDH := hide (unhide KD1 wa aa ca TK (unhide HTK) la na)
    clear ra tca ma FA la R0 LK KD1 L4 B4 hsl hkk HTK HTL hkl
    go_wp2_with fail
    refine (unhide KDH).mono ?_
    rintro e wd ⟨E1, L1, rfl, q1, q2, hE1, bd⟩
    have BD := hide ((unhide BA).trans (bd.mono (unhide BA).size))
    have LD := hide ((unhide LA).later bd)
    have HLN := hide q1
    have HW := hide q2
    have HB : Hid (∀ ob, Below wd.heap.size wd (wd.alloc ob)) := hide (fun ob => (Below.refl wd.heap.size wd).alloc (Nat.le_refl _) ob)
    clear q1 q2 bd KDH BA LA
    go_upto_region 5 with (with_reducible (show wpList _ _ _ (Oper.mk _ (Op.store _ _ _) _ _ _ _ :: _) _ _); refine store_list rfl (.tmp 9) (.tmp 45) rfl wd.heap.size L1 rfl rfl (heap_new wd _) rfl (unhide HLN) (unhide HW) ?_; rintro We q1 q2; have DE : Hid (Below wd.heap.size wd We) := hide (below_touch (unhide HB _) q2 (unhide HB _).size (fun k hk => by omega)); clear q1 q2)
    have BE := hide ((unhide BD).trans ((unhide DE).mono (unhide BD).size))
    have LE := hide ((unhide LD).later (unhide DE))
    have HTE := hide ((unhide HT).later (unhide BE))
    clear HW HLN HB BD LD DE HT
    have RB := hide (Row.lit We [] (fun x hx => by cases hx) #[] rfl (by simp [maxLen]))
    go_wp2_with (at_builtin; refine wpList_row _ rfl (.tmp 48) (.tmp 49) rfl _ [] rfl (unhide RB) ao co T rfl ((unhide LE).keep ((Touch.refl (fun _ => False) We).alloc _) (fun _ _ _ h => h)) (unhide Z3) (by have := unhide HLEN; simp; omega) ?_)
    intro vb wb rb tcb mb
    have FB := fresh_lit17 rb tcb mb
    have HTB := hide ((unhide HTE).later FB.2.2)
    have FBH := hide FB
    obtain ⟨yb, nb, qb, rfl⟩ := rb.shape
    clear rb tcb mb FB RB HTE LE
    go_wp2_with (at_builtin; refine wpList_row _ rfl (.tmp 50) (.tmp 51) rfl (.slice yb nb qb) T rfl (unhide FBH).1 ta tcap t rfl (unhide HTB) (unhide HTN) (by have := unhide HLEN; omega) ?_)
    intro vc wc rc tcc mc
    have FC := fresh_app (unhide FBH) (Below.refl _ _) rc tcc mc
    obtain ⟨ac, cc, rfl, lc, _, _, nc, _, _⟩ := FC.1.parts
    have BC := hide ((unhide BE).trans (FC.2.2.mono (unhide BE).size))
    obtain ⟨TT, hTT⟩ : ∃ TT, TT = T ++ t := ⟨_, rfl⟩
    have KD3 := hide (unhide KM wc ac cc t TT hTT htl (by rw [hTT]; exact lc) nc)
    rw [← hTT]
    clear rc tcc mc FC lc hTT BE FBH HTB KM
    go_wp2_with fail
    refine (unhide KD3).mono ?_
    rintro e wg ⟨E2, L2, rfl, q1, q2, hE2, bg⟩
    have BG := hide ((unhide BC).trans (bg.mono (unhide BC).size))
    have HLN := hide q1
    have HW := hide q2
    have HB : Hid (∀ ob, Below wg.heap.size wg (wg.alloc ob)) := hide (fun ob => (Below.refl wg.heap.size wg).alloc (Nat.le_refl _) ob)
    clear q1 q2 bg KD3 BC
    have hE1' : ¬ E1 = 0 := by intro h; rw [h] at hE1; cases hE1
    have HV : Hid ((E1 != 0 && (E2 == 0) == ((t.length : Int) == 0)) = true) := hide (by rw [hE2]; simp [bne, hE1])
    clear hE1 hE2
    go_upto_region 6 with (with_reducible (show wpList _ _ _ (Oper.mk _ (Op.store _ _ _) _ _ _ _ :: _) _ _); refine store_list rfl (.tmp 11) (.tmp 54) rfl wg.heap.size L2 rfl rfl (heap_new wg _) rfl (unhide HLN) (unhide HW) ?_; rintro Wh q1 q2; have BH := hide (below_touch ((unhide BG).trans ((unhide HB _).mono (unhide BG).size)) q2 (Nat.le_trans (unhide BG).size (unhide HB _).size) (fun k hk => by have := (unhide BG).size; omega)); clear q1 q2)
    clear HW HLN HB BG
    go_wp2
    go_ret
    exact ⟨by show Ending.returned (.bool (E1 != 0 && (E2 == 0) == ((t.length : Int) == 0))) = _; rw [unhide HV], unhide BH⟩
  · have hEb : (E == 0) = false := beq_eq_false_iff_ne.2 hE
    have hEn : (E != 0) = true := by simp [bne, hEb]
    clear FN FL FC FM hE
    go_wp2_with fail
    refine (unhide KA _).mono ?_
    rintro e w4 ⟨rfl, b4⟩
    have B4 := hide ((unhide B3).trans (b4.mono (unhide B3).size))
    clear b4 L3 B3
    go_wp2_with fail
    refine (unhide KA _).mono ?_
    rintro e w5 ⟨rfl, b5⟩
    have B5 := hide ((unhide B4).trans (b5.mono (unhide B4).size))
    clear b5 B4 KA
    go_wp2
    go_ret
    exact ⟨rfl, unhide B5⟩
end Go.Proofs.Ytcekleconjmfjaa


namespace Go.Proofs.Ytcekleconjmfjaa.wireCut
open Go.ChangeShapes Go.WideShapes Go.ChangeAt Go.RowKit
open Go.ChangeMaps (open_string shut_string)
set_option linter.unusedVariables false

theorem own : ownKnob Try.prog.godebug = none := by kernel_rfl
theorem laidOut : laidOutB Try.prog = true := by kernel_rfl

set_option maxRecDepth 100000 in
theorem lifted (os : Os) (started : os.Started) (H : Type) (enc : TypeId × Value → H) (F : Stop.Interp) :
    ReturnsInHanded {} Try.checked os 6 .any ((Rows.OpenSpec.upto Rows.wireCutSpec).pre6 enc Try.prog Try.f6 Rows.wireCutUptoRow.domain false) (((Rows.OpenSpec.upto Rows.wireCutSpec).at F).post enc Try.prog Try.f6 false true false false) := by
  refine returnsInHanded_of_cond_sized (C := Try.checked) (s := Rows.OpenSpec.upto Rows.wireCutSpec) (k := Rows.uptoSmall) rfl own started (by kernel_rfl) Try.func6
    (OpenSpec.witness (enc := enc) (C := Try.checked) (s := Rows.OpenSpec.upto Rows.wireCutSpec) (k := Rows.uptoSmall) rfl false ⟨#[], #[.agg #[.int .i64 0, .int .i64 0, .int .i64 0, .int .i64 0, .int .i64 0, .int .i64 0, .int .i64 0, .int .i64 0, .int .i64 0, .int .i64 0, .int .i64 0, .int .i64 0, .bool false, .slice none 0 0, .slice none 0 0, .int .i64 0, .int .i64 0, .int .i64 0, .int .i64 0, .int .i64 0, .int .i64 0, .int .i64 0, .int .i64 0, .int .i64 0, .bool false, .int .i64 0, .int .i64 0, .int .i64 0, .int .i64 0, .slice none 0 0, .int .i64 0, .int .i64 0, .int .i64 0, .int .i64 0, .int .i64 0, .slice none 0 0, .int .i64 0, .int .i64 0, .int .u64 0, .int .i64 0, .int .i64 0, .bool false, .bool false, .bool false, .slice none 0 0, .int .i64 0, .int .i64 0, .int .i64 0, .int .i64 0, .int .u64 0, .int .i64 0, .bool false, .int .i64 0, .int .i64 0, .int .i64 0, .slice none 0 0, .slice none 0 0, .slice none 0 0, .int .i64 0], .int .u16 0, .slice none 0 0], []⟩ 8 (by kernel_rfl) (by kernel_rfl) (by kernel_rfl)
      (x := ([.agg [.lit (.int .i64 0), .lit (.int .i64 0), .lit (.int .i64 0), .lit (.int .i64 0), .lit (.int .i64 0), .agg [.lit (.int .i64 0), .lit (.int .i64 0), .lit (.int .i64 0), .lit (.int .i64 0), .lit (.int .i64 0), .lit (.int .i64 0), .lit (.int .i64 0), .lit (.bool false), .nil, .nil], .agg [.lit (.int .i64 0), .lit (.int .i64 0), .lit (.int .i64 0), .lit (.int .i64 0), .lit (.int .i64 0)], .agg [.lit (.int .i64 0), .lit (.int .i64 0), .lit (.int .i64 0), .lit (.int .i64 0), .lit (.bool false), .lit (.int .i64 0), .lit (.int .i64 0), .lit (.int .i64 0), .lit (.int .i64 0), .nil], .agg [.lit (.int .i64 0), .lit (.int .i64 0), .lit (.int .i64 0), .lit (.int .i64 0), .lit (.int .i64 0), .nil], .agg [.lit (.int .i64 0), .lit (.int .i64 0), .lit (.int .u64 0), .lit (.int .i64 0), .lit (.int .i64 0), .lit (.bool false), .lit (.bool false), .lit (.bool false), .nil], .lit (.int .i64 0), .lit (.int .i64 0), .lit (.int .i64 0), .lit (.int .i64 0), .lit (.int .u64 0), .lit (.int .i64 0), .lit (.bool false), .lit (.int .i64 0), .lit (.int .i64 0), .lit (.int .i64 0), .nil, .nil, .nil, .lit (.int .i64 0)], .lit (.int .u16 0), .nil], [], [])) (by kernel_rfl) rfl (by kernel_rfl)) ?_
  intro W base args ds gs before hval0 hW hcnd hk0 hsz0 _
  have hsz : (DataW.weightsEach Try.prog (Try.f6.params.toList ++ Rows.wireCutSpec.plain.varTypes Try.prog) (ds ++ gs)).all (· ≤ reachBytes) = true := hsz0
  clear hsz0
  have hval : ∀ (j : Nat) t v, Try.f6.params[j]? = some t → args[j]? = some v → Value.okWide Try.prog W .any base t v := hval0
  have hW' := hW
  obtain ⟨p, q, hA0, hV, rfl, hfz, hnd⟩ := hW
  have hA : DataW.TrodAll enc Try.prog W 0 (fun _ => true) true Try.f6.params.toList args.toList ds p := hA0
  rw [Try.params6] at hA hval hsz
  obtain ⟨v0, vs0, d0, ds0, p0, q0, hargs, rfl, rfl, h0, r0⟩ := trodAll_cons hA
  obtain ⟨v1, vs1, d1, ds1, p1, q1, rfl, rfl, rfl, h1, r1⟩ := trodAll_cons r0
  obtain ⟨v2, vs2, d2, ds2, p2, q2, rfl, rfl, rfl, h2, r2⟩ := trodAll_cons r1
  obtain ⟨rfl, rfl, rfl⟩ := trodAll_nil r2
  obtain rfl : args = #[v0, v1, v2] := by cases args; simp_all
  obtain ⟨rfl, rfl⟩ := trodVars_none hV
  have hk : Rows.uptoBulkAll [d0, d1, d2] ≤ 1048576 := by
    have h : Rows.uptoBulkAll ([d0, d1, d2] ++ []) ≤ 1048576 := of_decide_eq_true hk0
    simpa using h
  have k0 := h0
  have lt0 : ∀ x ∈ p0, x.block < W.heap.size := by obtain ⟨m, hm⟩ := k0; exact DataW.trod_lt m _ _ _ hm
  have hw0 : ∀ n ∈ d0.weights Try.prog 41, n ≤ reachBytes := fun n hn => by
    have := List.all_eq_true.1 hsz n (DataW.weights_mem_each (j := 0) rfl rfl n hn)
    simpa using this
  have hq0 := mg_read h0.choose_spec hw0
  obtain ⟨m0, rfl, i0⟩ := hq0
  obtain ⟨a1, rfl, rfl, rfl, w1⟩ := open_int Try.underlying54 (hval 1 54 v1 rfl rfl) h1
  have k2 := h2
  have lt2 : ∀ x ∈ p2, x.block < W.heap.size := by obtain ⟨m, hm⟩ := k2; exact DataW.trod_lt m _ _ _ hm
  obtain ⟨a2, len2, cap2, rfl⟩ := okWide_slice Try.underlying24 (hval 2 24 v2 rfl rfl)
  obtain ⟨g2, hr2, hl2, hc2, hn2⟩ : ∃ g : Nat → Nat, BytesAt W a2 len2 g ∧ len2 ≤ 1048576 ∧ len2 ≤ cap2 ∧ (a2 = none → cap2 = 0) := by
    obtain ⟨fuel, hf⟩ := h2
    rcases open_ints Try.underlying24 Try.underlying5 (by kernel_rfl) hf with ⟨hcs, _⟩ | ⟨x, l, c, zs, hcs, _, hl, hm, hz, hx, hcell, hwz⟩
    · simp [Value.cells] at hcs
      obtain ⟨rfl, rfl, rfl⟩ := hcs
      exact ⟨_, (RowOf.of (k := .u8) (cap := 0) (zs := []) (.inl ⟨rfl, rfl, rfl, rfl⟩)).1.bytes, by omega, by omega, fun _ => rfl⟩
    · simp [Value.cells] at hcs
      obtain ⟨rfl, rfl, rfl⟩ := hcs
      have hd : d2 = .slice (lits .u8 (zs.take len2)) (lits .u8 (zs.drop len2)) := congrArg Prod.fst hx
      have hs : Rows.uptoBulk d2 ≤ 1048576 := by simp only [Rows.uptoBulkAll] at hk; omega
      rw [hd] at hs
      simp only [Rows.uptoBulk] at hs
      have hbl := bulk_len (lits .u8 (zs.take len2) (H := H))
      have hz' : zs.length = cap2 := by simpa using hz
      simp only [lits, List.length_map, List.length_take] at hs hbl
      exact ⟨_, (RowOf.of (cap := cap2) (zs := zs) (.inr ⟨_, rfl, hl, hm, hz', hcell, hwz⟩)).1.bytes, by omega, by omega, fun h => by cases h⟩
  obtain ⟨t2, hz2, ht2⟩ := hr2.list
  subst hz2
  clear hA0 hval0
  have b1 := bounds_u16 w1
  obtain ⟨n1, rfl⟩ := Int.eq_ofNat_of_zero_le b1.1
  refine (wireCut_walk hd_any i0 (n := n1) (by omega) ht2 hn2 hl2).mono fun e W' ⟨he, bel⟩ => ?_
  subst he
  exact ⟨_, rfl, _, _, _, [], _, [], hW', trodAll_mk1 (shut_bool Try.underlying4 _), (trodAll_cons_mk (Below.trod laidOut (by kernel_rfl) (of_decide_eq_true (by kernel_rfl)) k0 bel lt0) (trodAll_cons_mk (shut_int Try.underlying54 w1) (trodAll_cons_mk (Below.trod laidOut (by kernel_rfl) (of_decide_eq_true (by kernel_rfl)) k2 bel lt2) trodAll_mk0))), rfl, bel.frame _, fun h => by cases h⟩

theorem over : Rows.WireCutUptoSaid :=
  OpenClaim.holds_of_cond 6 Try.f6 rfl rfl rfl rfl rfl rfl rfl ⟨rfl, rfl, rfl, rfl, rfl⟩ rfl rfl rfl rfl rfl (by kernel_rfl) Try.func6 (by kernel_rfl)
    (of_decide_eq_true (by kernel_rfl)) (by unfold Func.isWrapper; first | (rw [if_pos (by decide +kernel)]; kernel_rfl) | (rw [if_neg (by decide +kernel)]; exact ⟨rfl, rfl⟩))
    (fun os started H enc _ F => lifted os started H enc F)

end Go.Proofs.Ytcekleconjmfjaa.wireCut
namespace Go.Proofs.Ytcekleconjmfjaa
theorem wireCut_holds : Rows.WireCutUptoSaid := wireCut.over
#print axioms wireCut_holds
end Go.Proofs.Ytcekleconjmfjaa
