/-
  WireWrites returns true at every input of bulk at most 1048576, and leaves its argument as it was. Conditions: that bulk.
-/
import Derived.Test.YtblmondkdcpkaaaZ35
import Derived.Test.YtblmondkdcpkaaaZ19
import Derived.Test.YtblmondkdcpkaaaZ14
import Derived.Test.YtblmondkdcpkaaaZ05
import Derived.Test.YtblmondkdcpkaaaZ28
import Derived.Test.YtblmondkdcpkaaaRows
import Derived.Test.YtblmondkdcpkaaaZ31
import Derived.Test.YtblmondkdcpkaaaZ27
import Derived.Test.YtblmondkdcpkaaaZ41
import Derived.Test.YtblmondkdcpkaaaZ40
import Derived.JoinedCond
import Derived.Deep.CondSized
import Derived.SizedLaws
import Derived.WalkKit
import Derived.ProofKit
import Derived.OpenShut
import Derived.ShutString
import Derived.ChangeOld
import Derived.Below

/-
  WireWrites answers true, for any message whose lists and pieces have at most 2^20 things. Conditions: the message as it lies.
-/
namespace Go.Proofs.Ytblmondkdcpkaaa
open Go.RowKit
set_option linter.unusedVariables false

theorem Row.put {w : World} {a : Option Addr} {n cap : Nat} {l : List Nat} (h : Row w (.slice a n cap) l) {k : Nat} (hk : k < n) {x : Nat} (hx : x < 256) :
    ∃ g, a = some ⟨g, 0, none⟩ ∧ (∃ y : Nat, w.cell? ⟨g, k, none⟩ = some (.int .u8 (y : Nat))) ∧ w.frozen? ⟨g, k, none⟩ = false ∧ Row (w.setCell ⟨g, k, none⟩ (.int .u8 (x : Nat))) (.slice a n cap) (l.set k x) ∧ Touch (fun i => (Value.slice a n cap).ownBlock = some i) w (w.setCell ⟨g, k, none⟩ (.int .u8 (x : Nat))) := by
  obtain ⟨a', cap', e, h1, _, _, _, _, h2⟩ := h.parts
  cases e
  obtain ⟨g, hg, hf⟩ := h2 k hk
  cases hg
  obtain ⟨b, off, e1, _, e3, _⟩ := h1.cell hk
  cases e1
  rw [Nat.zero_add] at e3
  exact ⟨g, rfl, ⟨_, e3⟩, hf, h.set k hx, (Touch.refl (fun i => (Value.slice (some ⟨g, 0, none⟩) l.length cap).ownBlock = some i) w).setCell (p := ⟨g, k, none⟩) rfl _⟩

/-- DocEncode of any message. -/
def DocAll : Prop := ∀ {w : World} {m : Mg}, MgIn w m → MgS m → Calls Try.prog 9 #[.agg (mgL m).toArray] w fun e w' => EnM w (finE m) (finL m) e w'
set_option maxRecDepth 100000 in
set_option maxHeartbeats 8000000 in
theorem wireWrites_walk (HEAD : HdAll) (DOC : DocAll) {w : World} {m : Mg} (hm : MgIn w m) (hs : MgS m) :
    Calls Try.prog 3 #[.agg (mgL m).toArray] w fun e w' => e = .returned (.bool true) ∧ Below w.heap.size w w' := by
  have b1 := (Below.refl w.heap.size w).alloc (Nat.le_refl _) (.cells (mgL m).toArray 41)
  have H1 := hide (heap_new w (.cells (mgL m).toArray 41))
  have B1 := hide b1
  have hlw : w.heap.size < (w.alloc (.cells (mgL m).toArray 41)).heap.size := by simp
  have KD := hide (DOC (hm.later b1) hs)
  have KA := hide (fun (W : World) => awake17_any HEAD W)
  have KE : Hid (∀ W, Below w.heap.size w W → Calls Try.prog 11 #[.agg (mgL m).toArray] W fun e w' => EnM W (finE m) (finL m) e w') := hide (fun W hW => wencode_any (hm.later hW) rfl rfl)
  have HI1 := hide (info_mg m)
  have HLN : Hid ((finL m).length ≤ 1000000000) := hide (by
    by_cases h : finE m = 0
    · have hE : msgE m = 0 := Decidable.byContradiction fun g => by unfold finE at h; rw [if_pos g] at h; exact g h
      have h1 := rest_len hm (encL [m.kd, m.fr, m.tt, m.co, m.er], false) (msgE_zero hE)
      have h2 := encL_len [m.kd, m.fr, m.tt, m.co, m.er] hm.hd
      have e : finL m = (restS (encL [m.kd, m.fr, m.tt, m.co, m.er], false) m).1 := by unfold finL; rw [if_pos h]; rfl
      rw [e]
      simp only [List.length_cons, List.length_nil] at h1 h2
      omega
    · unfold finL; rw [if_neg h]; simp)
  clear b1 hm hs HEAD DOC
  go_enter Try.func3, Try.ntmps3
  go_upto_region 1 with fail
  change Code.wp _ _ _ _ (w.alloc (.cells (mgL m).toArray 41))
  generalize w.alloc (.cells (mgL m).toArray 41) = W1 at *
  have RG : Hid (∀ W : World, W.heap[w.heap.size]? = some (.cells (mgL m).toArray 41) → W.rangeAt w.heap.size 0 (mgL m)) := hide (fun W h => range_of (o := 0) (ds := mgL m) h (fun j v hv => by rw [Nat.zero_add]; exact hv))
  generalize finE m = E at *
  generalize finL m = T at *
  generalize mgL m = LL at *
  have HRG := hide (unhide RG W1 (unhide H1))
  go_wp2_with (first
    | (with_reducible (show wpList _ _ _ (Oper.mk _ (Op.load _ _) _ _ _ _ :: _) _ _); refine wpList_load_mid rfl 41 (.tmp 1) rfl w.heap.size 0 rfl LL _ (unhide HRG) Try.underlying41 rfl (unhide HI1) ?_)
    | (go_at_call 9; refine (unhide KD).mono ?_))
  rintro e w3 ⟨vo, rfl, r3, n3, b3⟩
  obtain ⟨ao, co, ev, l3, _, _, z3, hoc, _⟩ := r3.parts
  subst ev
  have NW : Hid (∀ x, ao = some x → W1.heap.size ≤ x.block) := hide (fun x hx => n3 x.block (hoc x hx))
  have L3 := hide l3
  have B3 := hide ((unhide B1).trans (b3.mono (unhide B1).size))
  have H3 := hide (below_keep b3 (unhide H1))
  clear r3 n3 b3 l3 z3 KD HRG B1 H1 hoc
  go_wp2_with fail
  refine (unhide KA _).mono ?_
  rintro e w4 ⟨rfl, b4⟩
  have L4 := hide ((unhide L3).later b4)
  have B4 := hide ((unhide B3).trans (b4.mono (unhide B3).size))
  have H4 := hide (below_keep b4 (unhide H3))
  clear b4 L3 B3 H3 KA
  go_wp2_with fail
  go_loopw [5] (fun i wr => ∃ k : Nat, k ≤ 2 ∧ i = .int .i64 k ∧ Hid (LAt wr ao T ∧ Below w.heap.size w wr ∧ wr.heap[w.heap.size]? = some (.cells LL.toArray 41))) (fun i _ => 2 - (intOf i).toNat)
  case atStart => exact ⟨0, by omega, rfl, hide ⟨unhide L4, unhide B4, unhide H4⟩⟩
  case round =>
    clear L4 B4 H4
    obtain ⟨k, hk, rfl, F⟩ := hrel
    by_cases hc : k < 2
    · have hc' : (k : Int) < 2 := by omega
      have HRG := hide (unhide RG wr (unhide F).2.2)
      have K1 := hide (unhide KE wr (unhide F).2.1)
      go_wp2_with (first
        | (with_reducible (show wpList _ _ _ (Oper.mk _ (Op.load _ _) _ _ _ _ :: _) _ _); refine wpList_load_mid rfl 41 (.tmp 1) rfl w.heap.size 0 rfl LL _ (unhide HRG) Try.underlying41 rfl (unhide HI1) ?_)
        | (go_at_call 11; refine (unhide K1).mono ?_))
      rintro e w5 ⟨vb, rfl, r5, n5, b5⟩
      obtain ⟨ab, cb, ev, lb, _, _, _, _, _⟩ := r5.parts
      subst ev
      have F5 : Hid (LAt w5 ao T ∧ Below w.heap.size w w5 ∧ w5.heap[w.heap.size]? = some (.cells LL.toArray 41)) := hide ⟨(unhide F).1.later b5, (unhide F).2.1.trans (b5.mono (unhide F).2.1.size), below_keep b5 (unhide F).2.2⟩
      have RB := hide r5
      have NB : Hid (∀ i, (Value.slice ab T.length cb).ownBlock = some i → wr.heap.size ≤ i) := hide (fun i hi => n5 i hi)
      have LAR : Hid (0 < T.length → ∀ x, ao = some x → x.block < wr.heap.size) := hide (fun h0 x hx => by
        obtain ⟨b', o', e1, e2, _⟩ := (unhide F).1 0 h0
        rw [hx] at e1
        cases e1
        exact e2)
      have hwr : w.heap.size < wr.heap.size := lt_of_heap (unhide F).2.2
      have hwr2 : Hid (w.heap.size < wr.heap.size) := hide hwr
      have SM := hide (same_any w5 ab ao cb co T lb (unhide F5).1 (by have := unhide HLN; omega))
      clear r5 n5 b5 lb K1 HRG F hwr
      go_wp2_with (go_at_call 12; refine (unhide SM).mono ?_; rintro e w6 ⟨rfl, n6, rfl⟩)
      have RB6 := hide ((unhide RB).later (below_drewN' (Below.refl _ _) n6))
      have F6 : Hid (LAt (w5.drewN n6) ao T ∧ Below w.heap.size w (w5.drewN n6) ∧ (w5.drewN n6).heap[w.heap.size]? = some (.cells LL.toArray 41)) := hide ⟨(unhide F5).1.later (below_drewN' (Below.refl _ _) n6), below_drewN' (unhide F5).2.1 n6, below_keep (below_drewN' (Below.refl _ _) n6) (unhide F5).2.2⟩
      clear SM F5 RB
      generalize w5.drewN n6 = w6 at *
      have hTl : Hid (T.length ≤ 1000000000) := HLN
      go_loopw [36] (fun i wz => ∃ (j : Nat) (l' : List Nat), j ≤ T.length ∧ i = .int .i64 j ∧ Row wz (.slice ab T.length cb) l' ∧ Touch (fun i => (Value.slice ab T.length cb).ownBlock = some i) w6 wz ∧ l'.length = T.length) (fun i _ => T.length - (intOf i).toNat)
      case atStart => exact ⟨0, T, Nat.zero_le _, rfl, unhide RB6, Touch.refl _ _, rfl⟩
      case round =>
        obtain ⟨j, l', hj, rfl, rl, tl, hll⟩ := hrel
        have hTn := unhide hTl
        by_cases hjc : j < T.length
        · obtain ⟨gg, rfl, ⟨y, hcell⟩, hfz, rl2, tl2⟩ := rl.put (k := j) (by omega) (x := 1) (by omega)
          have RL2 := hide rl2
          have TL2 := hide (tl.trans tl2)
          have HLL := hide hll
          clear rl tl rl2 tl2 hll
          have hjc' : (j : Int) < (T.length : Int) := by omega
          go_wp2
          go_roundw
          case rel => exact ⟨j + 1, _, by omega, by go_num, unhide RL2, unhide TL2, by rw [List.length_set]; exact unhide HLL⟩
          case measure => simp [intOf]; omega
        · obtain rfl : j = T.length := by omega
          have TL := hide tl
          clear rl tl hll
          have F : Hid (LAt wr ao T ∧ Below w.heap.size w wr ∧ wr.heap[w.heap.size]? = some (.cells LL.toArray 41)) := by
            refine ⟨(unhide F6).1.keep (unhide TL) (fun h0 x hx e => by have := unhide NB _ e; have := unhide LAR h0 x hx; omega), below_touch (unhide F6).2.1 (unhide TL) (unhide F6).2.1.size (fun i hi => by have := unhide NB _ hi; have := unhide hwr2; omega), (unhide TL).keep (unhide F6).2.2 (fun e => by have := unhide NB _ e; have := unhide hwr2; omega)⟩
          clear TL F6
          go_wp2
          go_roundw
          case rel => exact ⟨k + 1, by omega, by go_num, F⟩
          case measure => simp [intOf]; omega
    · obtain rfl : k = 2 := by omega
      have FF := hide (unhide F).2.1
      clear F
      go_wp2
      go_returns
      exact ⟨rfl, unhide FF⟩
end Go.Proofs.Ytblmondkdcpkaaa


namespace Go.Proofs.Ytblmondkdcpkaaa.wireWrites
open Go.ChangeShapes Go.WideShapes Go.ChangeAt Go.RowKit
open Go.ChangeMaps (open_string shut_string)
set_option linter.unusedVariables false

theorem own : ownKnob Try.prog.godebug = none := by kernel_rfl
theorem laidOut : laidOutB Try.prog = true := by kernel_rfl

set_option maxRecDepth 100000 in
theorem lifted (os : Os) (started : os.Started) (H : Type) (enc : TypeId × Value → H) (F : Stop.Interp) :
    ReturnsInHanded {} Try.checked os 3 .any ((Rows.OpenSpec.upto Rows.wireWritesSpec).pre6 enc Try.prog Try.f3 Rows.wireWritesUptoRow.domain false) (((Rows.OpenSpec.upto Rows.wireWritesSpec).at F).post enc Try.prog Try.f3 false true false false) := by
  refine returnsInHanded_of_cond_sized (C := Try.checked) (s := Rows.OpenSpec.upto Rows.wireWritesSpec) (k := Rows.uptoSmall) rfl own started (by kernel_rfl) Try.func3
    (OpenSpec.witness (enc := enc) (C := Try.checked) (s := Rows.OpenSpec.upto Rows.wireWritesSpec) (k := Rows.uptoSmall) rfl false ⟨#[], #[.agg #[.int .i64 0, .int .i64 0, .int .i64 0, .int .i64 0, .int .i64 0, .int .i64 0, .int .i64 0, .int .i64 0, .int .i64 0, .int .i64 0, .int .i64 0, .int .i64 0, .bool false, .slice none 0 0, .slice none 0 0, .int .i64 0, .int .i64 0, .int .i64 0, .int .i64 0, .int .i64 0, .int .i64 0, .int .i64 0, .int .i64 0, .int .i64 0, .bool false, .int .i64 0, .int .i64 0, .int .i64 0, .int .i64 0, .slice none 0 0, .int .i64 0, .int .i64 0, .int .i64 0, .int .i64 0, .int .i64 0, .slice none 0 0, .int .i64 0, .int .i64 0, .int .u64 0, .int .i64 0, .int .i64 0, .bool false, .bool false, .bool false, .slice none 0 0, .int .i64 0, .int .i64 0, .int .i64 0, .int .i64 0, .int .u64 0, .int .i64 0, .bool false, .int .i64 0, .int .i64 0, .int .i64 0, .slice none 0 0, .slice none 0 0, .slice none 0 0, .int .i64 0]], []⟩ 8 (by kernel_rfl) (by kernel_rfl) (by kernel_rfl)
      (x := ([.agg [.lit (.int .i64 0), .lit (.int .i64 0), .lit (.int .i64 0), .lit (.int .i64 0), .lit (.int .i64 0), .agg [.lit (.int .i64 0), .lit (.int .i64 0), .lit (.int .i64 0), .lit (.int .i64 0), .lit (.int .i64 0), .lit (.int .i64 0), .lit (.int .i64 0), .lit (.bool false), .nil, .nil], .agg [.lit (.int .i64 0), .lit (.int .i64 0), .lit (.int .i64 0), .lit (.int .i64 0), .lit (.int .i64 0)], .agg [.lit (.int .i64 0), .lit (.int .i64 0), .lit (.int .i64 0), .lit (.int .i64 0), .lit (.bool false), .lit (.int .i64 0), .lit (.int .i64 0), .lit (.int .i64 0), .lit (.int .i64 0), .nil], .agg [.lit (.int .i64 0), .lit (.int .i64 0), .lit (.int .i64 0), .lit (.int .i64 0), .lit (.int .i64 0), .nil], .agg [.lit (.int .i64 0), .lit (.int .i64 0), .lit (.int .u64 0), .lit (.int .i64 0), .lit (.int .i64 0), .lit (.bool false), .lit (.bool false), .lit (.bool false), .nil], .lit (.int .i64 0), .lit (.int .i64 0), .lit (.int .i64 0), .lit (.int .i64 0), .lit (.int .u64 0), .lit (.int .i64 0), .lit (.bool false), .lit (.int .i64 0), .lit (.int .i64 0), .lit (.int .i64 0), .nil, .nil, .nil, .lit (.int .i64 0)]], [], [])) (by kernel_rfl) rfl (by kernel_rfl)) ?_
  intro W base args ds gs before hval0 hW hcnd hk0 hsz0 _
  have hsz : (DataW.weightsEach Try.prog (Try.f3.params.toList ++ Rows.wireWritesSpec.plain.varTypes Try.prog) (ds ++ gs)).all (· ≤ reachBytes) = true := hsz0
  clear hsz0
  have hval : ∀ (j : Nat) t v, Try.f3.params[j]? = some t → args[j]? = some v → Value.okWide Try.prog W .any base t v := hval0
  have hW' := hW
  obtain ⟨p, q, hA0, hV, rfl, hfz, hnd⟩ := hW
  have hA : DataW.TrodAll enc Try.prog W 0 (fun _ => true) true Try.f3.params.toList args.toList ds p := hA0
  rw [Try.params3] at hA hval hsz
  obtain ⟨v0, vs0, d0, ds0, p0, q0, hargs, rfl, rfl, h0, r0⟩ := trodAll_cons hA
  obtain ⟨rfl, rfl, rfl⟩ := trodAll_nil r0
  obtain rfl : args = #[v0] := by cases args; simp_all
  obtain ⟨rfl, rfl⟩ := trodVars_none hV
  have hk : Rows.uptoBulkAll [d0] ≤ 1048576 := by
    have h : Rows.uptoBulkAll ([d0] ++ []) ≤ 1048576 := of_decide_eq_true hk0
    simpa using h
  have k0 := h0
  have lt0 : ∀ x ∈ p0, x.block < W.heap.size := by obtain ⟨m, hm⟩ := k0; exact DataW.trod_lt m _ _ _ hm
  have hw0 : ∀ n ∈ d0.weights Try.prog 41, n ≤ reachBytes := fun n hn => by
    have := List.all_eq_true.1 hsz n (DataW.weights_mem_each (j := 0) rfl rfl n hn)
    simpa using this
  have hq0 := mg_read h0.choose_spec hw0
  obtain ⟨m0, rfl, i0⟩ := hq0
  have sz0 : MgS m0 := by
    have hb : Rows.uptoBulk d0 ≤ 1048576 := by simp only [Rows.uptoBulkAll] at hk; omega
    exact mg_bulk h0.choose_spec i0 hb
  clear hA0 hval0
  refine (wireWrites_walk hd_any (fun {w} {m} h1 h2 => doc17_any h1 h2) i0 sz0).mono fun e W' ⟨he, bel⟩ => ?_
  subst he
  exact ⟨_, rfl, _, _, _, [], _, [], hW', trodAll_mk1 (shut_bool Try.underlying4 _), (trodAll_cons_mk (Below.trod laidOut (by kernel_rfl) (of_decide_eq_true (by kernel_rfl)) k0 bel lt0) trodAll_mk0), rfl, bel.frame _, fun h => by cases h⟩

theorem over : Rows.WireWritesUptoSaid :=
  OpenClaim.holds_of_cond 3 Try.f3 rfl rfl rfl rfl rfl rfl rfl ⟨rfl, rfl, rfl, rfl, rfl⟩ rfl rfl rfl rfl rfl (by kernel_rfl) Try.func3 (by kernel_rfl)
    (of_decide_eq_true (by kernel_rfl)) (by unfold Func.isWrapper; first | (rw [if_pos (by decide +kernel)]; kernel_rfl) | (rw [if_neg (by decide +kernel)]; exact ⟨rfl, rfl⟩))
    (fun os started H enc _ F => lifted os started H enc F)

end Go.Proofs.Ytblmondkdcpkaaa.wireWrites
namespace Go.Proofs.Ytblmondkdcpkaaa
theorem wireWrites_holds : Rows.WireWritesUptoSaid := wireWrites.over
#print axioms wireWrites_holds
end Go.Proofs.Ytblmondkdcpkaaa
