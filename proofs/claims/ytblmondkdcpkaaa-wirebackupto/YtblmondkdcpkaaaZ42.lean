/-
  WireWrites answers true, for any message whose lists and pieces have at most 2^20 things. Conditions: the message as it lies.
-/
import Derived.Test.YtblmondkdcpkaaaZ35
import Derived.Test.YtblmondkdcpkaaaZ19
import Derived.Test.YtblmondkdcpkaaaZ14
import Derived.Test.YtblmondkdcpkaaaZ05
import Derived.Test.YtblmondkdcpkaaaZ28

namespace Go.Proofs.Ytblmondkdcpkaaa
open Go.RowKit
set_option linter.unusedVariables false

theorem Row.put {w : World} {a : Option Addr} {n cap : Nat} {l : List Nat} (h : Row w (.slice a n cap) l) {k : Nat} (hk : k < n) {x : Nat} (hx : x < 256) :
    ∃ g, a = some ⟨g, 0, none⟩ ∧ (∃ y : Nat, w.cell? ⟨g, k, none⟩ = some (.int .u8 (y : Nat))) ∧ w.frozen? ⟨g, k, none⟩ = false ∧ Row (w.setCell ⟨g, k, none⟩ (.int .u8 (x : Nat))) (.slice a n cap) (l.set k x) ∧ Touch (fun i => (Value.slice a n cap).ownBlock = some i) w (w.setCell ⟨g, k, none⟩ (.int .u8 (x : Nat))) := by
  obtain ⟨a', cap', e, h1, _, _, _, _, h2⟩ := h.parts
  cases e
  obtain ⟨g, hg, hf⟩ := h2 k hk
  cases hg
  obtain ⟨b, off, e1, _, e3, _⟩ := h1.cell hk
  cases e1
  rw [Nat.zero_add] at e3
  exact ⟨g, rfl, ⟨_, e3⟩, hf, h.set k hx, (Touch.refl (fun i => (Value.slice (some ⟨g, 0, none⟩) l.length cap).ownBlock = some i) w).setCell (p := ⟨g, k, none⟩) rfl _⟩

/-- DocEncode of any message. -/
def DocAll : Prop := ∀ {w : World} {m : Mg}, MgIn w m → MgS m → Calls Try.prog 9 #[.agg (mgL m).toArray] w fun e w' => EnM w (finE m) (finL m) e w'
set_option maxRecDepth 100000 in
set_option maxHeartbeats 8000000 in
theorem wireWrites_walk (HEAD : HdAll) (DOC : DocAll) {w : World} {m : Mg} (hm : MgIn w m) (hs : MgS m) :
    Calls Try.prog 3 #[.agg (mgL m).toArray] w fun e w' => e = .returned (.bool true) ∧ Below w.heap.size w w' := by
  have b1 := (Below.refl w.heap.size w).alloc (Nat.le_refl _) (.cells (mgL m).toArray 41)
  have H1 := hide (heap_new w (.cells (mgL m).toArray 41))
  have B1 := hide b1
  have hlw : w.heap.size < (w.alloc (.cells (mgL m).toArray 41)).heap.size := by simp
  have KD := hide (DOC (hm.later b1) hs)
  have KA := hide (fun (W : World) => awake17_any HEAD W)
  have KE : Hid (∀ W, Below w.heap.size w W → Calls Try.prog 11 #[.agg (mgL m).toArray] W fun e w' => EnM W (finE m) (finL m) e w') := hide (fun W hW => wencode_any (hm.later hW) rfl rfl)
  have HI1 := hide (info_mg m)
  have HLN : Hid ((finL m).length ≤ 1000000000) := hide (by
    by_cases h : finE m = 0
    · have hE : msgE m = 0 := Decidable.byContradiction fun g => by unfold finE at h; rw [if_pos g] at h; exact g h
      have h1 := rest_len hm (encL [m.kd, m.fr, m.tt, m.co, m.er], false) (msgE_zero hE)
      have h2 := encL_len [m.kd, m.fr, m.tt, m.co, m.er] hm.hd
      have e : finL m = (restS (encL [m.kd, m.fr, m.tt, m.co, m.er], false) m).1 := by unfold finL; rw [if_pos h]; rfl
      rw [e]
      simp only [List.length_cons, List.length_nil] at h1 h2
      omega
    · unfold finL; rw [if_neg h]; simp)
  clear b1 hm hs HEAD DOC
  go_enter Try.func3, Try.ntmps3
  go_upto_region 1 with fail
  change Code.wp _ _ _ _ (w.alloc (.cells (mgL m).toArray 41))
  generalize w.alloc (.cells (mgL m).toArray 41) = W1 at *
  have RG : Hid (∀ W : World, W.heap[w.heap.size]? = some (.cells (mgL m).toArray 41) → W.rangeAt w.heap.size 0 (mgL m)) := hide (fun W h => range_of (o := 0) (ds := mgL m) h (fun j v hv => by rw [Nat.zero_add]; exact hv))
  generalize finE m = E at *
  generalize finL m = T at *
  generalize mgL m = LL at *
  have HRG := hide (unhide RG W1 (unhide H1))
  go_wp2_with (first
    | (with_reducible (show wpList _ _ _ (Oper.mk _ (Op.load _ _) _ _ _ _ :: _) _ _); refine wpList_load_mid rfl 41 (.tmp 1) rfl w.heap.size 0 rfl LL _ (unhide HRG) Try.underlying41 rfl (unhide HI1) ?_)
    | (go_at_call 9; refine (unhide KD).mono ?_))
  rintro e w3 ⟨vo, rfl, r3, n3, b3⟩
  obtain ⟨ao, co, ev, l3, _, _, z3, hoc, _⟩ := r3.parts
  subst ev
  have NW : Hid (∀ x, ao = some x → W1.heap.size ≤ x.block) := hide (fun x hx => n3 x.block (hoc x hx))
  have L3 := hide l3
  have B3 := hide ((unhide B1).trans (b3.mono (unhide B1).size))
  have H3 := hide (below_keep b3 (unhide H1))
  clear r3 n3 b3 l3 z3 KD HRG B1 H1 hoc
  go_wp2_with fail
  refine (unhide KA _).mono ?_
  rintro e w4 ⟨rfl, b4⟩
  have L4 := hide ((unhide L3).later b4)
  have B4 := hide ((unhide B3).trans (b4.mono (unhide B3).size))
  have H4 := hide (below_keep b4 (unhide H3))
  clear b4 L3 B3 H3 KA
  go_wp2_with fail
  go_loopw [5] (fun i wr => ∃ k : Nat, k ≤ 2 ∧ i = .int .i64 k ∧ Hid (LAt wr ao T ∧ Below w.heap.size w wr ∧ wr.heap[w.heap.size]? = some (.cells LL.toArray 41))) (fun i _ => 2 - (intOf i).toNat)
  case atStart => exact ⟨0, by omega, rfl, hide ⟨unhide L4, unhide B4, unhide H4⟩⟩
  case round =>
    clear L4 B4 H4
    obtain ⟨k, hk, rfl, F⟩ := hrel
    by_cases hc : k < 2
    · have hc' : (k : Int) < 2 := by omega
      have HRG := hide (unhide RG wr (unhide F).2.2)
      have K1 := hide (unhide KE wr (unhide F).2.1)
      go_wp2_with (first
        | (with_reducible (show wpList _ _ _ (Oper.mk _ (Op.load _ _) _ _ _ _ :: _) _ _); refine wpList_load_mid rfl 41 (.tmp 1) rfl w.heap.size 0 rfl LL _ (unhide HRG) Try.underlying41 rfl (unhide HI1) ?_)
        | (go_at_call 11; refine (unhide K1).mono ?_))
      rintro e w5 ⟨vb, rfl, r5, n5, b5⟩
      obtain ⟨ab, cb, ev, lb, _, _, _, _, _⟩ := r5.parts
      subst ev
      have F5 : Hid (LAt w5 ao T ∧ Below w.heap.size w w5 ∧ w5.heap[w.heap.size]? = some (.cells LL.toArray 41)) := hide ⟨(unhide F).1.later b5, (unhide F).2.1.trans (b5.mono (unhide F).2.1.size), below_keep b5 (unhide F).2.2⟩
      have RB := hide r5
      have NB : Hid (∀ i, (Value.slice ab T.length cb).ownBlock = some i → wr.heap.size ≤ i) := hide (fun i hi => n5 i hi)
      have LAR : Hid (0 < T.length → ∀ x, ao = some x → x.block < wr.heap.size) := hide (fun h0 x hx => by
        obtain ⟨b', o', e1, e2, _⟩ := (unhide F).1 0 h0
        rw [hx] at e1
        cases e1
        exact e2)
      have hwr : w.heap.size < wr.heap.size := lt_of_heap (unhide F).2.2
      have hwr2 : Hid (w.heap.size < wr.heap.size) := hide hwr
      have SM := hide (same_any w5 ab ao cb co T lb (unhide F5).1 (by have := unhide HLN; omega))
      clear r5 n5 b5 lb K1 HRG F hwr
      go_wp2_with (go_at_call 12; refine (unhide SM).mono ?_; rintro e w6 ⟨rfl, n6, rfl⟩)
      have RB6 := hide ((unhide RB).later (below_drewN' (Below.refl _ _) n6))
      have F6 : Hid (LAt (w5.drewN n6) ao T ∧ Below w.heap.size w (w5.drewN n6) ∧ (w5.drewN n6).heap[w.heap.size]? = some (.cells LL.toArray 41)) := hide ⟨(unhide F5).1.later (below_drewN' (Below.refl _ _) n6), below_drewN' (unhide F5).2.1 n6, below_keep (below_drewN' (Below.refl _ _) n6) (unhide F5).2.2⟩
      clear SM F5 RB
      generalize w5.drewN n6 = w6 at *
      have hTl : Hid (T.length ≤ 1000000000) := HLN
      go_loopw [36] (fun i wz => ∃ (j : Nat) (l' : List Nat), j ≤ T.length ∧ i = .int .i64 j ∧ Row wz (.slice ab T.length cb) l' ∧ Touch (fun i => (Value.slice ab T.length cb).ownBlock = some i) w6 wz ∧ l'.length = T.length) (fun i _ => T.length - (intOf i).toNat)
      case atStart => exact ⟨0, T, Nat.zero_le _, rfl, unhide RB6, Touch.refl _ _, rfl⟩
      case round =>
        obtain ⟨j, l', hj, rfl, rl, tl, hll⟩ := hrel
        have hTn := unhide hTl
        by_cases hjc : j < T.length
        · obtain ⟨gg, rfl, ⟨y, hcell⟩, hfz, rl2, tl2⟩ := rl.put (k := j) (by omega) (x := 1) (by omega)
          have RL2 := hide rl2
          have TL2 := hide (tl.trans tl2)
          have HLL := hide hll
          clear rl tl rl2 tl2 hll
          have hjc' : (j : Int) < (T.length : Int) := by omega
          go_wp2
          go_roundw
          case rel => exact ⟨j + 1, _, by omega, by go_num, unhide RL2, unhide TL2, by rw [List.length_set]; exact unhide HLL⟩
          case measure => simp [intOf]; omega
        · obtain rfl : j = T.length := by omega
          have TL := hide tl
          clear rl tl hll
          have F : Hid (LAt wr ao T ∧ Below w.heap.size w wr ∧ wr.heap[w.heap.size]? = some (.cells LL.toArray 41)) := by
            refine ⟨(unhide F6).1.keep (unhide TL) (fun h0 x hx e => by have := unhide NB _ e; have := unhide LAR h0 x hx; omega), below_touch (unhide F6).2.1 (unhide TL) (unhide F6).2.1.size (fun i hi => by have := unhide NB _ hi; have := unhide hwr2; omega), (unhide TL).keep (unhide F6).2.2 (fun e => by have := unhide NB _ e; have := unhide hwr2; omega)⟩
          clear TL F6
          go_wp2
          go_roundw
          case rel => exact ⟨k + 1, by omega, by go_num, F⟩
          case measure => simp [intOf]; omega
    · obtain rfl : k = 2 := by omega
      have FF := hide (unhide F).2.1
      clear F
      go_wp2
      go_returns
      exact ⟨rfl, unhide FF⟩
end Go.Proofs.Ytblmondkdcpkaaa
