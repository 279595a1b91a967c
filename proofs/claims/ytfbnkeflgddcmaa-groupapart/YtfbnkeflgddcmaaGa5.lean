/-
  hold of any one record; Apply of a batch of it outside a transaction; what is told of any group. Conditions: the state as it lies.
-/
import Derived.Test.YtfbnkeflgddcmaaGa4
namespace Go.Proofs.Ytfbnkeflgddcmaa
open Go.RowKit Go.Maps
set_option linter.unusedVariables false

theorem gold_any {B : Nat} {w : World} {sb c : Nat} {mo : Option Nat} {m : List (Int × Tm)} {A : Int → Ga} {r : Rx} {v : Value} (h : GP B w sb mo m c A) (hv : OneS B w v r) (hC : isR r = true) (hc : c < maxLen) (hB : B ≤ w.heap.size) :
    Calls Try.prog 18 #[.pointer (some ⟨sb, 0, none⟩), v] w fun e w' => HdQ B w sb mo c A r e w' := by
  obtain ⟨kd, gr, gen, l, pt, off⟩ := r
  have hq := hC
  simp only [isR, Bool.and_eq_true, Bool.or_eq_true, decide_eq_true_eq] at hq
  obtain ⟨k12, hg, _, p0, p1, _, _, lf⟩ := hq
  have hl : l.length ≤ 8 := by omega
  cases mo with
  | none =>
    rcases k12 with rfl | rfl
    · by_cases hn : Newer (A gr) gen
      · exact gold_none_new h hv hg hl hc hB hn
      · exact gold_none_old h hv hg hl hc hB hn
    · rcases (show pt = 0 ∨ pt = 1 ∨ pt = 2 ∨ pt = 3 by omega) with rfl | rfl | rfl | rfl
      · exact gold_none_off0 h hv hg hl hc hB
      · exact gold_none_off1 h hv hg hl hc hB
      · exact gold_none_off2 h hv hg hl hc hB
      · exact gold_none_off3 h hv hg hl hc hB
  | some mb =>
    rcases k12 with rfl | rfl
    · by_cases hn : Newer (A gr) gen
      · exact gold_some_new h hv hg hl hc hB hn
      · exact gold_some_old h hv hg hl hc hB hn
    · rcases (show pt = 0 ∨ pt = 1 ∨ pt = 2 ∨ pt = 3 by omega) with rfl | rfl | rfl | rfl
      · exact gold_some_off0 h hv hg hl hc hB
      · exact gold_some_off1 h hv hg hl hc hB
      · exact gold_some_off2 h hv hg hl hc hB
      · exact gold_some_off3 h hv hg hl hc hB
theorem OneS.weak {B C : Nat} {w : World} {v : Value} {r : Rx} (h : OneS B w v r) (hc : C ≤ B) : OneS C w v r := by
  obtain ⟨g, c, og, a, k, ha, e, h1, h2, h3⟩ := h
  exact ⟨g, c, og, a, k, ha, e, h1, h2, Nat.le_trans hc h3⟩
theorem HdQ.back {B : Nat} {w w2 w' : World} {sb c : Nat} {mo : Option Nat} {A : Int → Ga} {r : Rx} {e : Ending} (h : HdQ B w2 sb mo c A r e w') (hb : Below w.heap.size w w2) : HdQ B w sb mo c A r e w' := by
  obtain ⟨e1, b, m', h1, h2, h3⟩ := h
  have hz := hb.size
  refine ⟨e1, b, m', h1, h2.imp id (fun h => Nat.le_trans hz h), (Touch.of_below hb).trans (h3.mono (fun k hk => ?_))⟩
  rcases hk with e | e | e
  · exact .inl e
  · exact .inr (.inl e)
  · exact .inr (.inr (Nat.le_trans hz e))
set_option maxRecDepth 100000 in
set_option maxHeartbeats 8000000 in
theorem apply_gen {B : Nat} {w : World} {sb c : Nat} {mo : Option Nat} {m : List (Int × Tm)} {A : Int → Ga} {r : Rx} {v : Value} {C : Nat} (h : GP B w sb mo m c A) (ho : OneT C w v (encR r)) (hf : RFit r) (hC : isR r = true) (ht : (encR r).length ≤ 4096) (hc : c < maxLen) (hB : B ≤ w.heap.size) :
    Calls Try.prog 7 #[.pointer (some ⟨sb, 0, none⟩), .agg #[.int .i64 0, .int .i64 0, .int .u64 0, .int .i64 0, .int .i64 0, .bool false, .bool false, .bool false, v]] w fun e w' => HdQ B w sb mo c A r e w' := by
  have b1 := (Below.refl w.heap.size w).alloc (Nat.le_refl _) (.cells #[.int .i64 0, .int .i64 0, .int .u64 0, .int .i64 0, .int .i64 0, .bool false, .bool false, .bool false, v] 34)
  have HX := hide (heap_new w (.cells #[.int .i64 0, .int .i64 0, .int .u64 0, .int .i64 0, .int .i64 0, .bool false, .bool false, .bool false, v] 34))
  have H1 := hide (h.later b1)
  have O1 := hide (ho.later b1)
  have B1 := hide b1
  have KR : Hid (∀ W, OneT C W v (encR r) → Calls Try.prog 17 #[.agg #[.int .i64 0, .int .i64 0, .int .u64 0, .int .i64 0, .int .i64 0, .bool false, .bool false, .bool false, v]] W fun e w' => RcQ W r e w') := hide (fun W h => records_oneS h hf hC ht)
  have KH : Hid (∀ W v, GP B W sb mo m c A → OneS B W v r → B ≤ W.heap.size → Calls Try.prog 18 #[.pointer (some ⟨sb, 0, none⟩), v] W fun e w' => HdQ B W sb mo c A r e w') := hide (fun W v h1 h2 h3 => gold_any h1 h2 hC hc h3)
  have HB := hide hB
  clear h ho hf hC ht hc hB b1
  go_enter Try.func7, Try.ntmps7
  go_upto_region 1 with fail
  change Code.wp _ _ _ _ (w.alloc (.cells #[.int .i64 0, .int .i64 0, .int .u64 0, .int .i64 0, .int .i64 0, .bool false, .bool false, .bool false, v] 34))
  generalize w.alloc (.cells #[.int .i64 0, .int .i64 0, .int .u64 0, .int .i64 0, .int .i64 0, .bool false, .bool false, .bool false, v] 34) = w1 at *
  generalize hxb : w.heap.size = xb at *
  have HXB := hide hxb
  clear hxb
  have y0 := cell_of (unhide HX) 0
  have y1 := cell_of (unhide HX) 1
  have y2 := cell_of (unhide HX) 2
  have y3 := cell_of (unhide HX) 3
  have y4 := cell_of (unhide HX) 4
  have y5 := cell_of (unhide HX) 5
  have y6 := cell_of (unhide HX) 6
  have y7 := cell_of (unhide HX) 7
  have y8 := cell_of (unhide HX) 8
  simp at y0 y1 y2 y3 y4 y5 y6 y7 y8
  have K1 := hide (unhide KR w1 (unhide O1))
  go_wp2_with fail
  refine (unhide K1).mono ?_
  rintro e w3 ⟨v3, rfl, o3, b3⟩
  have HZ : Hid (B ≤ w1.heap.size) := hide (by have := (unhide B1).size; have := unhide HB; have := unhide HXB; omega)
  have H3 := hide ((unhide H1).later b3)
  have O3 := hide (o3.weak (unhide HZ))
  have B3 := hide ((unhide B1).trans (Below.mono b3 (by have := lt_of_heap (unhide HX); omega)))
  have HZ3 : Hid (B ≤ w3.heap.size) := hide (Nat.le_trans (unhide HZ) b3.size)
  clear o3 b3 y0 y1 y2 y3 y4 y5 y6 y7 y8 K1 KR H1 O1 HX B1 HZ
  have K3 := hide (unhide KH w3 v3 (unhide H3) (unhide O3) (unhide HZ3))
  clear KH H3 O3 HZ3
  go_wp2_with fail
  refine (unhide K3).mono ?_
  rintro e w4 hq
  obtain rfl : e = .returned (.tuple #[]) := hq.1
  have FF : Hid (HdQ B w sb mo c A r (.returned (.tuple #[])) w4) := hide (hq.back (by rw [unhide HXB]; exact unhide B3))
  clear hq K3 B3
  go_wp2
  go_returns
  exact unhide FF
set_option maxRecDepth 100000 in
set_option maxHeartbeats 4000000 in
theorem named_gen {B : Nat} {w : World} {sb c : Nat} {mo : Option Nat} {m : List (Int × Tm)} {A : Int → Ga} {q : Int} (h : GP B w sb mo m c A) (hq : 0 ≤ q ∧ q < 8) :
    Calls Try.prog 19 #[.pointer (some ⟨sb, 0, none⟩), .int .i64 q] w fun e w' => e = .returned (.tuple #[tmV (mgot gK (matx m q)), .int .i64 0]) ∧ Below w.heap.size w w' := by
  have b1 := (Below.refl w.heap.size w).alloc (Nat.le_refl _) (.cells #[.int .i64 0, .slice none 0 0, .int .i64 0, .int .i64 0, .int .i64 0, .int .i64 0] 61)
  have HZ := hide (heap_new w (.cells #[.int .i64 0, .slice none 0 0, .int .i64 0, .int .i64 0, .int .i64 0, .int .i64 0] 61))
  have h1 := h.later b1
  have y0 : (w.alloc (.cells #[.int .i64 0, .slice none 0 0, .int .i64 0, .int .i64 0, .int .i64 0, .int .i64 0] 61)).cell? ⟨sb, 0, none⟩ = some (.map mo) := cell_of h1.obj 0
  have lk := h1.look hq
  have hqd : decide (0 ≤ q ∧ q < 8) = true := decide_eq_true hq
  have B1 := hide b1
  clear h h1 b1 hq
  generalize mgot gK (matx m q) = T at *
  obtain ⟨tg, tgb, tn, tc, o0, o1, o2, o3⟩ := T
  unfold tmV tmC at *
  simp only at *
  generalize Option.map (fun g => (⟨g, 0, none⟩ : Addr)) tgb = sa at *
  go_enter Try.func19, Try.ntmps19
  go_upto_region 1 with fail
  change Code.wp _ _ _ _ (w.alloc (.cells #[.int .i64 0, .slice none 0 0, .int .i64 0, .int .i64 0, .int .i64 0, .int .i64 0] 61))
  generalize w.alloc (.cells #[.int .i64 0, .slice none 0 0, .int .i64 0, .int .i64 0, .int .i64 0, .int .i64 0] 61) = w1 at *
  go_wp2_with fail
  refine (isGroup_any q _).mono ?_
  rintro e w2 ⟨rfl, rfl⟩
  rw [hqd]
  obtain ⟨D, hD⟩ : ∃ D : List Value, D = [.int .i64 tg, .slice sa tn tc, .int .i64 o0, .int .i64 o1, .int .i64 o2, .int .i64 o3] := ⟨_, rfl⟩
  have HLL : Hid (lay #[.int .i64 0, .slice none 0 0, .int .i64 0, .int .i64 0, .int .i64 0, .int .i64 0] 0 D = D.toArray) := hide (by rw [hD]; exact lay_all rfl)
  have HLEN : Hid (D.length = 6) := hide (by rw [hD]; rfl)
  have HI6 : Hid ((Try.prog.info? 61).map (·.size) = some D.length) := hide (by rw [hD]; kernel_rfl)
  have H16 : Hid (D.toArray.all (·.oneCell') = true) := hide (by rw [hD]; simp [Value.oneCell'])
  have HD := hide hD
  clear hD
  have hev : (.agg D.toArray : Value) = .agg #[.int .i64 tg, .slice sa tn tc, .int .i64 o0, .int .i64 o1, .int .i64 o2, .int .i64 o3] := by rw [unhide HD]
  have hfit : 0 + D.length ≤ (#[.int .i64 0, .slice none 0 0, .int .i64 0, .int .i64 0, .int .i64 0, .int .i64 0] : Array Value).size := by
    rw [unhide HLEN]
    exact Nat.le_refl _
  have HEV := hide hev
  have HFIT := hide hfit
  clear hev hfit
  go_upto_region 5 with fail
  go_wp2_with (refine store_part 61 61 rfl (.tmp 4) (.tmp 18) rfl w.heap.size 0 D rfl (unhide HEV).symm D (unhide HZ) (unhide HFIT) (unhide HI6) (unhide H16) (unhide HLL) ?_; rintro w9 q1 q2; have Q1 := hide q1; have Q2 := hide q2; clear q1 q2)
  refine bodyPost_ret (res_nm (unhide Q1) (unhide HLEN) rfl rfl) rfl ?_
  exact ⟨by rw [unhide HEV], below_touch (unhide B1) (unhide Q2) (Nat.le_of_lt (lt_of_heap (unhide HZ))) (fun k hk => by omega)⟩
set_option maxRecDepth 100000 in
set_option maxHeartbeats 8000000 in
theorem waits_gen {B : Nat} {w : World} {sb c : Nat} {mo : Option Nat} {m : List (Int × Tm)} {A : Int → Ga} (q part : Int) (h : GP B w sb mo m c A) :
    Calls Try.prog 20 #[.pointer (some ⟨sb, 0, none⟩), .int .i64 q, .int .i64 part] w fun e w' => e = .returned (.bool false) ∧ Below w.heap.size w w' := by
  have y1 : w.cell? ⟨sb, 1, none⟩ = some (.map none) := cell_of h.obj 1
  have HM : Hid ((Value.map none = .map none ∧ [] = ([] : List (Int × Sl))) ∨ ∃ mb, Value.map none = .map (some mb) ∧ MM wK w mb []) := hide (.inl ⟨rfl, rfl⟩)
  clear h
  go_enter Try.func20, Try.ntmps20
  go_wp2_with (at_range; refine wpList_mitrange wK _ rfl _ rfl (.map none) [] rfl (unhide HM) ?_)
  intro w1 it1 t1
  have IT1 := hide it1
  have T1 := hide t1
  clear it1 t1 y1 HM
  go_wp2_with fail
  go_loopw [8] (fun _ wr => ∃ todo, MIT wK wr (.map none) w.heap.size [] todo ∧ Below w.heap.size w wr) (fun _ wr => mleftM (.map none) w.heap.size wr)
  case atStart => exact ⟨[], unhide IT1, ⟨(unhide T1).os, (unhide T1).tape, (unhide T1).output, (unhide T1).size, fun k hk => (unhide T1).block k hk (fun h => h)⟩⟩
  case round =>
    obtain ⟨todo, it, br⟩ := hrel
    have PT := hide it
    have BR := hide br
    clear it br IT1 T1
    go_wp2_with (at_next; refine wpList_mitnext wK _ rfl _ rfl (.map none) w.heap.size [] todo rfl (unhide PT) ?_ ?_)
    · intro htodo
      clear PT
      go_wp2
      go_ret
      exact ⟨rfl, unhide BR⟩

set_option maxRecDepth 100000 in
set_option maxHeartbeats 4000000 in
theorem off_gen0 {B : Nat} {w : World} {sb c : Nat} {mo : Option Nat} {m : List (Int × Tm)} {A : Int → Ga} {q : Int} (h : GP B w sb mo m c A) (hq : 0 ≤ q ∧ q < 8) :
    Calls Try.prog 9 #[.pointer (some ⟨sb, 0, none⟩), .int .i64 q, .int .i64 0] w fun e w' => e = .returned (.tuple #[.int .i64 (oAt (mgot gK (matx m q)) 0), .int .i64 0]) ∧ Below w.heap.size w w' := by
  have KN := hide (named_gen h hq)
  have KW : Hid (∀ w1, Below w.heap.size w w1 → Calls Try.prog 20 #[.pointer (some ⟨sb, 0, none⟩), .int .i64 q, .int .i64 0] w1 fun e w' => e = .returned (.bool false) ∧ Below w1.heap.size w1 w') := hide (fun w1 hb => waits_gen q 0 (h.later hb))
  clear h hq
  generalize mgot gK (matx m q) = T at *
  obtain ⟨tg, tgb, tn, tc, o0, o1, o2, o3⟩ := T
  unfold tmV tmC at *
  simp only at *
  generalize Option.map (fun g => (⟨g, 0, none⟩ : Addr)) tgb = sa at *
  go_enter Try.func9, Try.ntmps9
  go_wp2_with fail
  refine (unhide KN).mono ?_
  rintro e w2 ⟨rfl, b2⟩
  have B2 := hide b2
  clear b2 KN
  go_upto_region 2 with fail
  have B3 := hide ((unhide B2).alloc (unhide B2).size (.cells #[.int .i64 tg, .slice sa tn tc, .int .i64 o0, .int .i64 o1, .int .i64 o2, .int .i64 o3] 61))
  have HX := hide (heap_new w2 (.cells #[.int .i64 tg, .slice sa tn tc, .int .i64 o0, .int .i64 o1, .int .i64 o2, .int .i64 o3] 61))
  clear B2
  change Code.wp _ _ _ _ (w2.alloc (.cells #[.int .i64 tg, .slice sa tn tc, .int .i64 o0, .int .i64 o1, .int .i64 o2, .int .i64 o3] 61))
  generalize w2.alloc (.cells #[.int .i64 tg, .slice sa tn tc, .int .i64 o0, .int .i64 o1, .int .i64 o2, .int .i64 o3] 61) = w3 at *
  generalize w2.heap.size = xb at *
  have K3 := hide (unhide KW w3 (unhide B3))
  go_wp2_with fail
  refine (unhide K3).mono ?_
  rintro e w4 ⟨rfl, b4⟩
  have FF : Hid (Below w.heap.size w w4) := hide ((unhide B3).trans (Below.mono b4 (unhide B3).size))
  have HX4 := below_keep b4 (unhide HX)
  have x2 := cell_of HX4 2
  have x3 := cell_of HX4 3
  have x4 := cell_of HX4 4
  have x5 := cell_of HX4 5
  simp at x2 x3 x4 x5
  clear b4 K3 KW B3 HX HX4
  go_wp2
  go_returns
  exact ⟨by first | rfl | (simp; done), unhide FF⟩
set_option maxRecDepth 100000 in
set_option maxHeartbeats 4000000 in
theorem off_gen1 {B : Nat} {w : World} {sb c : Nat} {mo : Option Nat} {m : List (Int × Tm)} {A : Int → Ga} {q : Int} (h : GP B w sb mo m c A) (hq : 0 ≤ q ∧ q < 8) :
    Calls Try.prog 9 #[.pointer (some ⟨sb, 0, none⟩), .int .i64 q, .int .i64 1] w fun e w' => e = .returned (.tuple #[.int .i64 (oAt (mgot gK (matx m q)) 1), .int .i64 0]) ∧ Below w.heap.size w w' := by
  have KN := hide (named_gen h hq)
  have KW : Hid (∀ w1, Below w.heap.size w w1 → Calls Try.prog 20 #[.pointer (some ⟨sb, 0, none⟩), .int .i64 q, .int .i64 1] w1 fun e w' => e = .returned (.bool false) ∧ Below w1.heap.size w1 w') := hide (fun w1 hb => waits_gen q 1 (h.later hb))
  clear h hq
  generalize mgot gK (matx m q) = T at *
  obtain ⟨tg, tgb, tn, tc, o0, o1, o2, o3⟩ := T
  unfold tmV tmC at *
  simp only at *
  generalize Option.map (fun g => (⟨g, 0, none⟩ : Addr)) tgb = sa at *
  go_enter Try.func9, Try.ntmps9
  go_wp2_with fail
  refine (unhide KN).mono ?_
  rintro e w2 ⟨rfl, b2⟩
  have B2 := hide b2
  clear b2 KN
  go_upto_region 2 with fail
  have B3 := hide ((unhide B2).alloc (unhide B2).size (.cells #[.int .i64 tg, .slice sa tn tc, .int .i64 o0, .int .i64 o1, .int .i64 o2, .int .i64 o3] 61))
  have HX := hide (heap_new w2 (.cells #[.int .i64 tg, .slice sa tn tc, .int .i64 o0, .int .i64 o1, .int .i64 o2, .int .i64 o3] 61))
  clear B2
  change Code.wp _ _ _ _ (w2.alloc (.cells #[.int .i64 tg, .slice sa tn tc, .int .i64 o0, .int .i64 o1, .int .i64 o2, .int .i64 o3] 61))
  generalize w2.alloc (.cells #[.int .i64 tg, .slice sa tn tc, .int .i64 o0, .int .i64 o1, .int .i64 o2, .int .i64 o3] 61) = w3 at *
  generalize w2.heap.size = xb at *
  have K3 := hide (unhide KW w3 (unhide B3))
  go_wp2_with fail
  refine (unhide K3).mono ?_
  rintro e w4 ⟨rfl, b4⟩
  have FF : Hid (Below w.heap.size w w4) := hide ((unhide B3).trans (Below.mono b4 (unhide B3).size))
  have HX4 := below_keep b4 (unhide HX)
  have x2 := cell_of HX4 2
  have x3 := cell_of HX4 3
  have x4 := cell_of HX4 4
  have x5 := cell_of HX4 5
  simp at x2 x3 x4 x5
  clear b4 K3 KW B3 HX HX4
  go_wp2
  go_returns
  exact ⟨by first | rfl | (simp; done), unhide FF⟩
set_option maxRecDepth 100000 in
set_option maxHeartbeats 4000000 in
theorem off_gen2 {B : Nat} {w : World} {sb c : Nat} {mo : Option Nat} {m : List (Int × Tm)} {A : Int → Ga} {q : Int} (h : GP B w sb mo m c A) (hq : 0 ≤ q ∧ q < 8) :
    Calls Try.prog 9 #[.pointer (some ⟨sb, 0, none⟩), .int .i64 q, .int .i64 2] w fun e w' => e = .returned (.tuple #[.int .i64 (oAt (mgot gK (matx m q)) 2), .int .i64 0]) ∧ Below w.heap.size w w' := by
  have KN := hide (named_gen h hq)
  have KW : Hid (∀ w1, Below w.heap.size w w1 → Calls Try.prog 20 #[.pointer (some ⟨sb, 0, none⟩), .int .i64 q, .int .i64 2] w1 fun e w' => e = .returned (.bool false) ∧ Below w1.heap.size w1 w') := hide (fun w1 hb => waits_gen q 2 (h.later hb))
  clear h hq
  generalize mgot gK (matx m q) = T at *
  obtain ⟨tg, tgb, tn, tc, o0, o1, o2, o3⟩ := T
  unfold tmV tmC at *
  simp only at *
  generalize Option.map (fun g => (⟨g, 0, none⟩ : Addr)) tgb = sa at *
  go_enter Try.func9, Try.ntmps9
  go_wp2_with fail
  refine (unhide KN).mono ?_
  rintro e w2 ⟨rfl, b2⟩
  have B2 := hide b2
  clear b2 KN
  go_upto_region 2 with fail
  have B3 := hide ((unhide B2).alloc (unhide B2).size (.cells #[.int .i64 tg, .slice sa tn tc, .int .i64 o0, .int .i64 o1, .int .i64 o2, .int .i64 o3] 61))
  have HX := hide (heap_new w2 (.cells #[.int .i64 tg, .slice sa tn tc, .int .i64 o0, .int .i64 o1, .int .i64 o2, .int .i64 o3] 61))
  clear B2
  change Code.wp _ _ _ _ (w2.alloc (.cells #[.int .i64 tg, .slice sa tn tc, .int .i64 o0, .int .i64 o1, .int .i64 o2, .int .i64 o3] 61))
  generalize w2.alloc (.cells #[.int .i64 tg, .slice sa tn tc, .int .i64 o0, .int .i64 o1, .int .i64 o2, .int .i64 o3] 61) = w3 at *
  generalize w2.heap.size = xb at *
  have K3 := hide (unhide KW w3 (unhide B3))
  go_wp2_with fail
  refine (unhide K3).mono ?_
  rintro e w4 ⟨rfl, b4⟩
  have FF : Hid (Below w.heap.size w w4) := hide ((unhide B3).trans (Below.mono b4 (unhide B3).size))
  have HX4 := below_keep b4 (unhide HX)
  have x2 := cell_of HX4 2
  have x3 := cell_of HX4 3
  have x4 := cell_of HX4 4
  have x5 := cell_of HX4 5
  simp at x2 x3 x4 x5
  clear b4 K3 KW B3 HX HX4
  go_wp2
  go_returns
  exact ⟨by first | rfl | (simp; done), unhide FF⟩
set_option maxRecDepth 100000 in
set_option maxHeartbeats 4000000 in
theorem off_gen3 {B : Nat} {w : World} {sb c : Nat} {mo : Option Nat} {m : List (Int × Tm)} {A : Int → Ga} {q : Int} (h : GP B w sb mo m c A) (hq : 0 ≤ q ∧ q < 8) :
    Calls Try.prog 9 #[.pointer (some ⟨sb, 0, none⟩), .int .i64 q, .int .i64 3] w fun e w' => e = .returned (.tuple #[.int .i64 (oAt (mgot gK (matx m q)) 3), .int .i64 0]) ∧ Below w.heap.size w w' := by
  have KN := hide (named_gen h hq)
  have KW : Hid (∀ w1, Below w.heap.size w w1 → Calls Try.prog 20 #[.pointer (some ⟨sb, 0, none⟩), .int .i64 q, .int .i64 3] w1 fun e w' => e = .returned (.bool false) ∧ Below w1.heap.size w1 w') := hide (fun w1 hb => waits_gen q 3 (h.later hb))
  clear h hq
  generalize mgot gK (matx m q) = T at *
  obtain ⟨tg, tgb, tn, tc, o0, o1, o2, o3⟩ := T
  unfold tmV tmC at *
  simp only at *
  generalize Option.map (fun g => (⟨g, 0, none⟩ : Addr)) tgb = sa at *
  go_enter Try.func9, Try.ntmps9
  go_wp2_with fail
  refine (unhide KN).mono ?_
  rintro e w2 ⟨rfl, b2⟩
  have B2 := hide b2
  clear b2 KN
  go_upto_region 2 with fail
  have B3 := hide ((unhide B2).alloc (unhide B2).size (.cells #[.int .i64 tg, .slice sa tn tc, .int .i64 o0, .int .i64 o1, .int .i64 o2, .int .i64 o3] 61))
  have HX := hide (heap_new w2 (.cells #[.int .i64 tg, .slice sa tn tc, .int .i64 o0, .int .i64 o1, .int .i64 o2, .int .i64 o3] 61))
  clear B2
  change Code.wp _ _ _ _ (w2.alloc (.cells #[.int .i64 tg, .slice sa tn tc, .int .i64 o0, .int .i64 o1, .int .i64 o2, .int .i64 o3] 61))
  generalize w2.alloc (.cells #[.int .i64 tg, .slice sa tn tc, .int .i64 o0, .int .i64 o1, .int .i64 o2, .int .i64 o3] 61) = w3 at *
  generalize w2.heap.size = xb at *
  have K3 := hide (unhide KW w3 (unhide B3))
  go_wp2_with fail
  refine (unhide K3).mono ?_
  rintro e w4 ⟨rfl, b4⟩
  have FF : Hid (Below w.heap.size w w4) := hide ((unhide B3).trans (Below.mono b4 (unhide B3).size))
  have HX4 := below_keep b4 (unhide HX)
  have x2 := cell_of HX4 2
  have x3 := cell_of HX4 3
  have x4 := cell_of HX4 4
  have x5 := cell_of HX4 5
  simp at x2 x3 x4 x5
  clear b4 K3 KW B3 HX HX4
  go_wp2
  go_returns
  exact ⟨by first | rfl | (simp; done), unhide FF⟩
/-- What is told of a partition. -/
def gaAt (x : Ga) (k : Int) : Int := if k = 0 then x.o0 else if k = 1 then x.o1 else if k = 2 then x.o2 else if k = 3 then x.o3 else 0
theorem TmA.at_ {w : World} {T : Tm} {x : Ga} (h : TmA w T x) (k : Int) : oAt T k = gaAt x k := by unfold oAt gaAt; rw [h.o0, h.o1, h.o2, h.o3]
theorem off_gen {B : Nat} {w : World} {sb c : Nat} {mo : Option Nat} {m : List (Int × Tm)} {A : Int → Ga} {q : Int} (k : Int) (hk : 0 ≤ k ∧ k < 4) (h : GP B w sb mo m c A) (hq : 0 ≤ q ∧ q < 8) :
    Calls Try.prog 9 #[.pointer (some ⟨sb, 0, none⟩), .int .i64 q, .int .i64 k] w fun e w' => e = .returned (.tuple #[.int .i64 (gaAt (A q) k), .int .i64 0]) ∧ Below w.heap.size w w' := by
  have ht := h.team q
  rcases (show k = 0 ∨ k = 1 ∨ k = 2 ∨ k = 3 by omega) with rfl | rfl | rfl | rfl
  · rw [← ht.at_]; exact off_gen0 h hq
  · rw [← ht.at_]; exact off_gen1 h hq
  · rw [← ht.at_]; exact off_gen2 h hq
  · rw [← ht.at_]; exact off_gen3 h hq
theorem iat_none {w : World} {l : List Int} (h : IAt w none l) : l = [] := by
  cases l with
  | nil => rfl
  | cons x r =>
    obtain ⟨b, off, e, _⟩ := h 0 (by simp)
    cases e
def TeP (w : World) (x : Ga) (e : Ending) (w' : World) : Prop := ∃ v, e = .returned (.tuple #[.int .i64 x.gen, v]) ∧ IL w' v x.l ∧ New w v ∧ Below w.heap.size w w'
set_option maxRecDepth 100000 in
set_option maxHeartbeats 8000000 in
theorem team_gen {B : Nat} {w : World} {sb c : Nat} {mo : Option Nat} {m : List (Int × Tm)} {A : Int → Ga} {q : Int} (h : GP B w sb mo m c A) (hq : 0 ≤ q ∧ q < 8) :
    Calls Try.prog 12 #[.pointer (some ⟨sb, 0, none⟩), .int .i64 q] w fun e w' => TeP w (A q) e w' := by
  have y0 : w.cell? ⟨sb, 0, none⟩ = some (.map mo) := cell_of h.obj 0
  have lk := h.look hq
  obtain ⟨T, hT⟩ : ∃ T, T = mgot gK (matx m q) := ⟨_, rfl⟩
  have HTA := hide (h.team q)
  rw [← hT] at HTA lk
  clear hT h hq
  obtain ⟨tg, tgb, tn, tc, o0, o1, o2, o3⟩ := T
  have hgen : tg = (A q).gen := (unhide HTA).gen
  have hn : tn = (A q).l.length := (unhide HTA).n
  have HI : Hid (IAt w (adr tgb) (A q).l) := hide (unhide HTA).l
  have HF : Hid ((A q).l.length ≤ 8) := hide (unhide HTA).few
  obtain ⟨x, hx⟩ : ∃ x, x = A q := ⟨_, rfl⟩
  rw [← hx] at hgen hn HI HF ⊢
  clear HTA hx
  unfold tmV tmC at lk
  simp only at lk
  generalize hsa : Option.map (fun g => (⟨g, 0, none⟩ : Addr)) tgb = sa at *
  have HI' : Hid (IAt w sa x.l) := hide (by rw [← hsa]; exact unhide HI)
  clear HI hsa
  subst hn
  generalize hln : x.l.length = n at *
  have HLN := hide hln
  clear hln
  have HG := hide hgen
  clear hgen
  go_enter Try.func12, Try.ntmps12
  go_upto_region 4 with fail
  have b1 := (Below.refl w.heap.size w).alloc (Nat.le_refl _) (.cells #[.int .i64 tg, .slice sa n tc, .int .i64 o0, .int .i64 o1, .int .i64 o2, .int .i64 o3] 61)
  have HX := hide (heap_new w (.cells #[.int .i64 tg, .slice sa n tc, .int .i64 o0, .int .i64 o1, .int .i64 o2, .int .i64 o3] 61))
  have HI1 := hide ((unhide HI').later b1)
  have B1 := hide b1
  clear b1 HI' lk y0
  change Code.wp _ _ _ _ (w.alloc (.cells #[.int .i64 tg, .slice sa n tc, .int .i64 o0, .int .i64 o1, .int .i64 o2, .int .i64 o3] 61))
  generalize w.alloc (.cells #[.int .i64 tg, .slice sa n tc, .int .i64 o0, .int .i64 o1, .int .i64 o2, .int .i64 o3] 61) = w1 at *
  generalize hxb : w.heap.size = xb at *
  have HXB := hide hxb
  clear hxb
  have hd : Below w1.heap.size w1 w1.drew := (Below.refl _ _).drew
  have HX2 := hide (below_keep hd (unhide HX))
  have HI2 := hide ((unhide HI1).later hd)
  have B2 : Hid (Below xb w w1.drew) := hide (unhide B1).drew
  clear HX HI1 B1 hd
  refine wp_region_held_drew (S := fun w' => w'.heap[xb]? = some (.cells #[.int .i64 tg, .slice sa n tc, .int .i64 o0, .int .i64 o1, .int .i64 o2, .int .i64 o3] 61)) (by kernel_rfl) (unhide HX2) (fun hHeld => ?_)
  generalize w1.drew = w2 at *
  refine take17 (i := 0) (d := 15) (v := .pointer (some ⟨xb, 0, none⟩)) rfl rfl (by kernel_rfl) (by kernel_rfl) (by kernel_rfl) (fun _ _ _ h => h) (Or.inl ⟨by rfl, by intro w' hSw; (try dsimp only at hSw); go_simp⟩) (by assumption) ?_; (try simp only [List.setIfInBounds_toArray, List.set_cons_zero, List.set_cons_succ])
  refine take17 (i := 1) (d := 16) (v := .int .i64 tg) rfl rfl (by kernel_rfl) (by kernel_rfl) (by kernel_rfl) (fun _ _ _ h => h) (Or.inl ⟨by rfl, by intro w' hSw; (try dsimp only at hSw); have q0 := cell_of hSw 0; simp at q0; go_simp⟩) (by assumption) ?_; (try simp only [List.setIfInBounds_toArray, List.set_cons_zero, List.set_cons_succ])
  refine take17 (i := 2) (d := 17) (v := .pointer (some ⟨xb, 1, none⟩)) rfl rfl (by kernel_rfl) (by kernel_rfl) (by kernel_rfl) (fun _ _ _ h => h) (Or.inl ⟨by rfl, by intro w' hSw; (try dsimp only at hSw); go_simp⟩) (by assumption) ?_; (try simp only [List.setIfInBounds_toArray, List.set_cons_zero, List.set_cons_succ])
  refine take17 (i := 3) (d := 18) (v := .slice sa n tc) rfl rfl (by kernel_rfl) (by kernel_rfl) (by kernel_rfl) (fun _ _ _ h => h) (Or.inl ⟨by rfl, by intro w' hSw; (try dsimp only at hSw); have q0 := cell_of hSw 1; simp at q0; go_simp⟩) (by assumption) ?_; (try simp only [List.setIfInBounds_toArray, List.set_cons_zero, List.set_cons_succ])
  have KC : Hid (Calls Try.prog 24 #[.slice sa n tc] w2 fun e w' => ∃ v, e = .returned v ∧ IL w' v x.l ∧ New w2 v ∧ Below w2.heap.size w2 w') := hide (by
    have := clonei_any (c := tc) (unhide HI2) (by have := unhide HF; have := unhide HLN; omega) (fun e => iat_none (by rw [← e]; exact unhide HI2))
    rw [unhide HLN] at this
    exact this)
  refine wpAnyH_ready (rs := [4]) (by kernel_rfl) (by simp) ?_
  refine AllReadyH.cons rfl (fun K hK => ?_) AllReadyH.nil
  go_simp
  refine (unhide KC).mono ?_
  rintro e w3 ⟨v, rfl, i3, n3, b3⟩
  have FF : Hid (TeP w x (.returned (.tuple #[.int .i64 tg, v])) w3) := hide ⟨v, by rw [unhide HG], i3, fun k hk => by
    have h1 := n3 k hk
    have h2 := (unhide B2).size
    omega, by rw [unhide HXB]; exact (unhide B2).trans (Below.mono b3 (Nat.le_of_lt (lt_of_heap (unhide HX2))))⟩
  have HX3 := hide (below_keep b3 (unhide HX2))
  clear i3 n3 b3 KC
  refine hK.out _ _ (unhide HX3) (fun hHeld => ?_)
  clear hK K
  (try simp only [Act.put, List.setIfInBounds_toArray])
  refine take17 (i := 5) (d := 4) (v := .int .i64 tg) rfl rfl (by kernel_rfl) (by kernel_rfl) (by kernel_rfl) (fun _ _ _ h => h) (Or.inl ⟨by rfl, by intro w' hSw; (try dsimp only at hSw); go_simp⟩) (by assumption) ?_; (try simp only [List.setIfInBounds_toArray, List.set_cons_zero, List.set_cons_succ])
  refine take17 (i := 6) (d := 5) (v := v) rfl rfl (by kernel_rfl) (by kernel_rfl) (by kernel_rfl) (fun _ _ _ h => h) (Or.inl ⟨by rfl, by intro w' hSw; (try dsimp only at hSw); go_simp⟩) (by assumption) ?_; (try simp only [List.setIfInBounds_toArray, List.set_cons_zero, List.set_cons_succ])
  refine wpAnyH_done (by kernel_rfl) ?_ _
  clear hHeld
  go_wp2
  go_returns
  exact unhide FF
end Go.Proofs.Ytfbnkeflgddcmaa
