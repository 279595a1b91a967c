/-
  Offset of group 1; Apply of a batch of one record within a transaction, and of its end. Conditions: the state as it lies.
-/
import Derived.Test.YtfbnkeflgddcmaaGw6
namespace Go.Proofs.Ytfbnkeflgddcmaa
open Go.RowKit Go.Maps
set_option linter.unusedVariables false

/-- How far T has come in a partition. -/
def oAt (T : Tm) (k : Int) : Int := if k = 0 then T.o0 else if k = 1 then T.o1 else if k = 2 then T.o2 else if k = 3 then T.o3 else 0
set_option maxRecDepth 100000 in
set_option maxHeartbeats 4000000 in
theorem off_busy {B : Nat} {w : World} {sb : Nat} {mv1 mv2 : Value} {m1 : List (Int × Tm)} {W : List (Int × Sl)} (part : Int) (h : GS B w sb mv1 mv2 m1 W) (hw : ∀ w1, Below w.heap.size w w1 → Calls Try.prog 20 #[.pointer (some ⟨sb, 0, none⟩), .int .i64 1, .int .i64 part] w1 fun e w' => e = .returned (.bool true) ∧ Below w1.heap.size w1 w') :
    Calls Try.prog 9 #[.pointer (some ⟨sb, 0, none⟩), .int .i64 1, .int .i64 part] w fun e w' => e = .returned (.tuple #[.int .i64 0, .int .i64 16]) ∧ Below w.heap.size w w' := by
  have KN := hide (named_one h)
  have KW := hide hw
  clear h hw
  generalize tOf m1 = T at *
  obtain ⟨tg, tgb, tn, tc, o0, o1, o2, o3⟩ := T
  unfold tmV tmC at *
  simp only at *
  generalize Option.map (fun g => (⟨g, 0, none⟩ : Addr)) tgb = sa at *
  go_enter Try.func9, Try.ntmps9
  go_wp2_with fail
  refine (unhide KN).mono ?_
  rintro e w2 ⟨rfl, b2⟩
  have B2 := hide b2
  clear b2 KN
  go_upto_region 2 with fail
  have B3 := hide ((unhide B2).alloc (unhide B2).size (.cells #[.int .i64 tg, .slice sa tn tc, .int .i64 o0, .int .i64 o1, .int .i64 o2, .int .i64 o3] 61))
  have HX := hide (heap_new w2 (.cells #[.int .i64 tg, .slice sa tn tc, .int .i64 o0, .int .i64 o1, .int .i64 o2, .int .i64 o3] 61))
  clear B2
  change Code.wp _ _ _ _ (w2.alloc (.cells #[.int .i64 tg, .slice sa tn tc, .int .i64 o0, .int .i64 o1, .int .i64 o2, .int .i64 o3] 61))
  generalize w2.alloc (.cells #[.int .i64 tg, .slice sa tn tc, .int .i64 o0, .int .i64 o1, .int .i64 o2, .int .i64 o3] 61) = w3 at *
  generalize w2.heap.size = xb at *
  have K3 := hide (unhide KW w3 (unhide B3))
  go_wp2_with fail
  refine (unhide K3).mono ?_
  rintro e w4 ⟨rfl, b4⟩
  have FF : Hid (Below w.heap.size w w4) := hide ((unhide B3).trans (Below.mono b4 (unhide B3).size))
  have HX4 := below_keep b4 (unhide HX)
  have x2 := cell_of HX4 2
  have x3 := cell_of HX4 3
  have x4 := cell_of HX4 4
  have x5 := cell_of HX4 5
  simp at x2 x3 x4 x5
  clear b4 K3 KW B3 HX HX4
  go_wp2
  go_returns
  exact ⟨by first | rfl | (simp; done), unhide FF⟩
set_option maxRecDepth 100000 in
set_option maxHeartbeats 4000000 in
theorem off_at0 {B : Nat} {w : World} {sb : Nat} {mv1 mv2 : Value} {m1 : List (Int × Tm)} {W : List (Int × Sl)} (h : GS B w sb mv1 mv2 m1 W) (hw : ∀ w1, Below w.heap.size w w1 → Calls Try.prog 20 #[.pointer (some ⟨sb, 0, none⟩), .int .i64 1, .int .i64 0] w1 fun e w' => e = .returned (.bool false) ∧ Below w1.heap.size w1 w') :
    Calls Try.prog 9 #[.pointer (some ⟨sb, 0, none⟩), .int .i64 1, .int .i64 0] w fun e w' => e = .returned (.tuple #[.int .i64 (oAt (tOf m1) 0), .int .i64 0]) ∧ Below w.heap.size w w' := by
  have KN := hide (named_one h)
  have KW := hide hw
  clear h hw
  generalize tOf m1 = T at *
  obtain ⟨tg, tgb, tn, tc, o0, o1, o2, o3⟩ := T
  unfold tmV tmC at *
  simp only at *
  generalize Option.map (fun g => (⟨g, 0, none⟩ : Addr)) tgb = sa at *
  go_enter Try.func9, Try.ntmps9
  go_wp2_with fail
  refine (unhide KN).mono ?_
  rintro e w2 ⟨rfl, b2⟩
  have B2 := hide b2
  clear b2 KN
  go_upto_region 2 with fail
  have B3 := hide ((unhide B2).alloc (unhide B2).size (.cells #[.int .i64 tg, .slice sa tn tc, .int .i64 o0, .int .i64 o1, .int .i64 o2, .int .i64 o3] 61))
  have HX := hide (heap_new w2 (.cells #[.int .i64 tg, .slice sa tn tc, .int .i64 o0, .int .i64 o1, .int .i64 o2, .int .i64 o3] 61))
  clear B2
  change Code.wp _ _ _ _ (w2.alloc (.cells #[.int .i64 tg, .slice sa tn tc, .int .i64 o0, .int .i64 o1, .int .i64 o2, .int .i64 o3] 61))
  generalize w2.alloc (.cells #[.int .i64 tg, .slice sa tn tc, .int .i64 o0, .int .i64 o1, .int .i64 o2, .int .i64 o3] 61) = w3 at *
  generalize w2.heap.size = xb at *
  have K3 := hide (unhide KW w3 (unhide B3))
  go_wp2_with fail
  refine (unhide K3).mono ?_
  rintro e w4 ⟨rfl, b4⟩
  have FF : Hid (Below w.heap.size w w4) := hide ((unhide B3).trans (Below.mono b4 (unhide B3).size))
  have HX4 := below_keep b4 (unhide HX)
  have x2 := cell_of HX4 2
  have x3 := cell_of HX4 3
  have x4 := cell_of HX4 4
  have x5 := cell_of HX4 5
  simp at x2 x3 x4 x5
  clear b4 K3 KW B3 HX HX4
  go_wp2
  go_returns
  exact ⟨by first | rfl | (simp; done), unhide FF⟩
set_option maxRecDepth 100000 in
set_option maxHeartbeats 4000000 in
theorem off_at1 {B : Nat} {w : World} {sb : Nat} {mv1 mv2 : Value} {m1 : List (Int × Tm)} {W : List (Int × Sl)} (h : GS B w sb mv1 mv2 m1 W) (hw : ∀ w1, Below w.heap.size w w1 → Calls Try.prog 20 #[.pointer (some ⟨sb, 0, none⟩), .int .i64 1, .int .i64 1] w1 fun e w' => e = .returned (.bool false) ∧ Below w1.heap.size w1 w') :
    Calls Try.prog 9 #[.pointer (some ⟨sb, 0, none⟩), .int .i64 1, .int .i64 1] w fun e w' => e = .returned (.tuple #[.int .i64 (oAt (tOf m1) 1), .int .i64 0]) ∧ Below w.heap.size w w' := by
  have KN := hide (named_one h)
  have KW := hide hw
  clear h hw
  generalize tOf m1 = T at *
  obtain ⟨tg, tgb, tn, tc, o0, o1, o2, o3⟩ := T
  unfold tmV tmC at *
  simp only at *
  generalize Option.map (fun g => (⟨g, 0, none⟩ : Addr)) tgb = sa at *
  go_enter Try.func9, Try.ntmps9
  go_wp2_with fail
  refine (unhide KN).mono ?_
  rintro e w2 ⟨rfl, b2⟩
  have B2 := hide b2
  clear b2 KN
  go_upto_region 2 with fail
  have B3 := hide ((unhide B2).alloc (unhide B2).size (.cells #[.int .i64 tg, .slice sa tn tc, .int .i64 o0, .int .i64 o1, .int .i64 o2, .int .i64 o3] 61))
  have HX := hide (heap_new w2 (.cells #[.int .i64 tg, .slice sa tn tc, .int .i64 o0, .int .i64 o1, .int .i64 o2, .int .i64 o3] 61))
  clear B2
  change Code.wp _ _ _ _ (w2.alloc (.cells #[.int .i64 tg, .slice sa tn tc, .int .i64 o0, .int .i64 o1, .int .i64 o2, .int .i64 o3] 61))
  generalize w2.alloc (.cells #[.int .i64 tg, .slice sa tn tc, .int .i64 o0, .int .i64 o1, .int .i64 o2, .int .i64 o3] 61) = w3 at *
  generalize w2.heap.size = xb at *
  have K3 := hide (unhide KW w3 (unhide B3))
  go_wp2_with fail
  refine (unhide K3).mono ?_
  rintro e w4 ⟨rfl, b4⟩
  have FF : Hid (Below w.heap.size w w4) := hide ((unhide B3).trans (Below.mono b4 (unhide B3).size))
  have HX4 := below_keep b4 (unhide HX)
  have x2 := cell_of HX4 2
  have x3 := cell_of HX4 3
  have x4 := cell_of HX4 4
  have x5 := cell_of HX4 5
  simp at x2 x3 x4 x5
  clear b4 K3 KW B3 HX HX4
  go_wp2
  go_returns
  exact ⟨by first | rfl | (simp; done), unhide FF⟩
set_option maxRecDepth 100000 in
set_option maxHeartbeats 4000000 in
theorem off_at2 {B : Nat} {w : World} {sb : Nat} {mv1 mv2 : Value} {m1 : List (Int × Tm)} {W : List (Int × Sl)} (h : GS B w sb mv1 mv2 m1 W) (hw : ∀ w1, Below w.heap.size w w1 → Calls Try.prog 20 #[.pointer (some ⟨sb, 0, none⟩), .int .i64 1, .int .i64 2] w1 fun e w' => e = .returned (.bool false) ∧ Below w1.heap.size w1 w') :
    Calls Try.prog 9 #[.pointer (some ⟨sb, 0, none⟩), .int .i64 1, .int .i64 2] w fun e w' => e = .returned (.tuple #[.int .i64 (oAt (tOf m1) 2), .int .i64 0]) ∧ Below w.heap.size w w' := by
  have KN := hide (named_one h)
  have KW := hide hw
  clear h hw
  generalize tOf m1 = T at *
  obtain ⟨tg, tgb, tn, tc, o0, o1, o2, o3⟩ := T
  unfold tmV tmC at *
  simp only at *
  generalize Option.map (fun g => (⟨g, 0, none⟩ : Addr)) tgb = sa at *
  go_enter Try.func9, Try.ntmps9
  go_wp2_with fail
  refine (unhide KN).mono ?_
  rintro e w2 ⟨rfl, b2⟩
  have B2 := hide b2
  clear b2 KN
  go_upto_region 2 with fail
  have B3 := hide ((unhide B2).alloc (unhide B2).size (.cells #[.int .i64 tg, .slice sa tn tc, .int .i64 o0, .int .i64 o1, .int .i64 o2, .int .i64 o3] 61))
  have HX := hide (heap_new w2 (.cells #[.int .i64 tg, .slice sa tn tc, .int .i64 o0, .int .i64 o1, .int .i64 o2, .int .i64 o3] 61))
  clear B2
  change Code.wp _ _ _ _ (w2.alloc (.cells #[.int .i64 tg, .slice sa tn tc, .int .i64 o0, .int .i64 o1, .int .i64 o2, .int .i64 o3] 61))
  generalize w2.alloc (.cells #[.int .i64 tg, .slice sa tn tc, .int .i64 o0, .int .i64 o1, .int .i64 o2, .int .i64 o3] 61) = w3 at *
  generalize w2.heap.size = xb at *
  have K3 := hide (unhide KW w3 (unhide B3))
  go_wp2_with fail
  refine (unhide K3).mono ?_
  rintro e w4 ⟨rfl, b4⟩
  have FF : Hid (Below w.heap.size w w4) := hide ((unhide B3).trans (Below.mono b4 (unhide B3).size))
  have HX4 := below_keep b4 (unhide HX)
  have x2 := cell_of HX4 2
  have x3 := cell_of HX4 3
  have x4 := cell_of HX4 4
  have x5 := cell_of HX4 5
  simp at x2 x3 x4 x5
  clear b4 K3 KW B3 HX HX4
  go_wp2
  go_returns
  exact ⟨by first | rfl | (simp; done), unhide FF⟩
set_option maxRecDepth 100000 in
set_option maxHeartbeats 4000000 in
theorem off_at3 {B : Nat} {w : World} {sb : Nat} {mv1 mv2 : Value} {m1 : List (Int × Tm)} {W : List (Int × Sl)} (h : GS B w sb mv1 mv2 m1 W) (hw : ∀ w1, Below w.heap.size w w1 → Calls Try.prog 20 #[.pointer (some ⟨sb, 0, none⟩), .int .i64 1, .int .i64 3] w1 fun e w' => e = .returned (.bool false) ∧ Below w1.heap.size w1 w') :
    Calls Try.prog 9 #[.pointer (some ⟨sb, 0, none⟩), .int .i64 1, .int .i64 3] w fun e w' => e = .returned (.tuple #[.int .i64 (oAt (tOf m1) 3), .int .i64 0]) ∧ Below w.heap.size w w' := by
  have KN := hide (named_one h)
  have KW := hide hw
  clear h hw
  generalize tOf m1 = T at *
  obtain ⟨tg, tgb, tn, tc, o0, o1, o2, o3⟩ := T
  unfold tmV tmC at *
  simp only at *
  generalize Option.map (fun g => (⟨g, 0, none⟩ : Addr)) tgb = sa at *
  go_enter Try.func9, Try.ntmps9
  go_wp2_with fail
  refine (unhide KN).mono ?_
  rintro e w2 ⟨rfl, b2⟩
  have B2 := hide b2
  clear b2 KN
  go_upto_region 2 with fail
  have B3 := hide ((unhide B2).alloc (unhide B2).size (.cells #[.int .i64 tg, .slice sa tn tc, .int .i64 o0, .int .i64 o1, .int .i64 o2, .int .i64 o3] 61))
  have HX := hide (heap_new w2 (.cells #[.int .i64 tg, .slice sa tn tc, .int .i64 o0, .int .i64 o1, .int .i64 o2, .int .i64 o3] 61))
  clear B2
  change Code.wp _ _ _ _ (w2.alloc (.cells #[.int .i64 tg, .slice sa tn tc, .int .i64 o0, .int .i64 o1, .int .i64 o2, .int .i64 o3] 61))
  generalize w2.alloc (.cells #[.int .i64 tg, .slice sa tn tc, .int .i64 o0, .int .i64 o1, .int .i64 o2, .int .i64 o3] 61) = w3 at *
  generalize w2.heap.size = xb at *
  have K3 := hide (unhide KW w3 (unhide B3))
  go_wp2_with fail
  refine (unhide K3).mono ?_
  rintro e w4 ⟨rfl, b4⟩
  have FF : Hid (Below w.heap.size w w4) := hide ((unhide B3).trans (Below.mono b4 (unhide B3).size))
  have HX4 := below_keep b4 (unhide HX)
  have x2 := cell_of HX4 2
  have x3 := cell_of HX4 3
  have x4 := cell_of HX4 4
  have x5 := cell_of HX4 5
  simp at x2 x3 x4 x5
  clear b4 K3 KW B3 HX HX4
  go_wp2
  go_returns
  exact ⟨by first | rfl | (simp; done), unhide FF⟩
set_option maxRecDepth 100000 in
set_option maxHeartbeats 4000000 in
theorem off_at4 {B : Nat} {w : World} {sb : Nat} {mv1 mv2 : Value} {m1 : List (Int × Tm)} {W : List (Int × Sl)} (h : GS B w sb mv1 mv2 m1 W) (hw : ∀ w1, Below w.heap.size w w1 → Calls Try.prog 20 #[.pointer (some ⟨sb, 0, none⟩), .int .i64 1, .int .i64 4] w1 fun e w' => e = .returned (.bool false) ∧ Below w1.heap.size w1 w') :
    Calls Try.prog 9 #[.pointer (some ⟨sb, 0, none⟩), .int .i64 1, .int .i64 4] w fun e w' => e = .returned (.tuple #[.int .i64 0, .int .i64 0]) ∧ Below w.heap.size w w' := by
  have KN := hide (named_one h)
  have KW := hide hw
  clear h hw
  generalize tOf m1 = T at *
  obtain ⟨tg, tgb, tn, tc, o0, o1, o2, o3⟩ := T
  unfold tmV tmC at *
  simp only at *
  generalize Option.map (fun g => (⟨g, 0, none⟩ : Addr)) tgb = sa at *
  go_enter Try.func9, Try.ntmps9
  go_wp2_with fail
  refine (unhide KN).mono ?_
  rintro e w2 ⟨rfl, b2⟩
  have B2 := hide b2
  clear b2 KN
  go_upto_region 2 with fail
  have B3 := hide ((unhide B2).alloc (unhide B2).size (.cells #[.int .i64 tg, .slice sa tn tc, .int .i64 o0, .int .i64 o1, .int .i64 o2, .int .i64 o3] 61))
  have HX := hide (heap_new w2 (.cells #[.int .i64 tg, .slice sa tn tc, .int .i64 o0, .int .i64 o1, .int .i64 o2, .int .i64 o3] 61))
  clear B2
  change Code.wp _ _ _ _ (w2.alloc (.cells #[.int .i64 tg, .slice sa tn tc, .int .i64 o0, .int .i64 o1, .int .i64 o2, .int .i64 o3] 61))
  generalize w2.alloc (.cells #[.int .i64 tg, .slice sa tn tc, .int .i64 o0, .int .i64 o1, .int .i64 o2, .int .i64 o3] 61) = w3 at *
  generalize w2.heap.size = xb at *
  have K3 := hide (unhide KW w3 (unhide B3))
  go_wp2_with fail
  refine (unhide K3).mono ?_
  rintro e w4 ⟨rfl, b4⟩
  have FF : Hid (Below w.heap.size w w4) := hide ((unhide B3).trans (Below.mono b4 (unhide B3).size))
  have HX4 := below_keep b4 (unhide HX)
  have x2 := cell_of HX4 2
  have x3 := cell_of HX4 3
  have x4 := cell_of HX4 4
  have x5 := cell_of HX4 5
  simp at x2 x3 x4 x5
  clear b4 K3 KW B3 HX HX4
  go_wp2
  go_returns
  exact ⟨by first | rfl | (simp; done), unhide FF⟩
end Go.Proofs.Ytfbnkeflgddcmaa
