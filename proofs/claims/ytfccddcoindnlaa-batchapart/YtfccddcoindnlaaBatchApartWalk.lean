/-
  BatchApart answers true. Conditions: lengths as memory allows them.
-/
import Derived.Test.YtfccddcoindnlaaK18
import Derived.Deep.RegionHeld3
namespace Go.Proofs.Ytfccddcoindnlaa
open Go.RowKit
set_option linter.unusedVariables false

set_option maxRecDepth 100000 in
set_option maxHeartbeats 8000000 in
theorem batchApart_walk (x y : Bt) (a c : Option Addr) (cap dap : Nat) (w : World) (hx : BIn w x a cap) (hy : BIn w y c dap) :
    Calls Try.prog 7 #[bv x a cap, bv y c dap] w fun e w' => e = .returned (.bool true) ∧ Below w.heap.size w w' := by
  have HX := hide hx
  have HY := hide hy
  have x24 : x.vs.length * 24 ≤ 140737488355328 := by have := hx.len; unfold reachBytes at this; omega
  have X64 : Hid (∀ p ∈ x.vs, p.length ≤ 140737488355328) := fun p hp => by have := hx.each p hp; unfold reachBytes at this; omega
  have y24 : y.vs.length * 24 ≤ 140737488355328 := by have := hy.len; unfold reachBytes at this; omega
  have Y64 : Hid (∀ p ∈ y.vs, p.length ≤ 140737488355328) := fun p hp => by have := hy.each p hp; unfold reachBytes at this; omega
  obtain ⟨x1, x2, x3, x4, x5, x6, x7, x8, xs⟩ := x
  obtain ⟨y1, y2, y3, y4, y5, y6, y7, y8, ys⟩ := y
  simp only at x24 y24
  have B0 : Hid (Below w.heap.size w ((w.alloc (.cells #[.int .i64 x1, .int .i64 x2, .int .u64 (x3 : Int), .int .i64 x4, .int .i64 x5, .bool x6, .bool x7, .bool x8, .slice a xs.length cap] 25)).alloc (.cells #[.int .i64 y1, .int .i64 y2, .int .u64 (y3 : Int), .int .i64 y4, .int .i64 y5, .bool y6, .bool y7, .bool y8, .slice c ys.length dap] 25))) := ((Below.refl _ _).alloc (Nat.le_refl _) _).alloc (by simp) _
  have BX0 : Hid (Box ((w.alloc (.cells #[.int .i64 x1, .int .i64 x2, .int .u64 (x3 : Int), .int .i64 x4, .int .i64 x5, .bool x6, .bool x7, .bool x8, .slice a xs.length cap] 25)).alloc (.cells #[.int .i64 y1, .int .i64 y2, .int .u64 (y3 : Int), .int .i64 y4, .int .i64 y5, .bool y6, .bool y7, .bool y8, .slice c ys.length dap] 25)) w.heap.size ⟨x1, x2, x3, x4, x5, x6, x7, x8, xs⟩ a cap) := heap_old _ (Box.new w ⟨x1, x2, x3, x4, x5, x6, x7, x8, xs⟩ a cap)
  have BY0 : Hid (Box ((w.alloc (.cells #[.int .i64 x1, .int .i64 x2, .int .u64 (x3 : Int), .int .i64 x4, .int .i64 x5, .bool x6, .bool x7, .bool x8, .slice a xs.length cap] 25)).alloc (.cells #[.int .i64 y1, .int .i64 y2, .int .u64 (y3 : Int), .int .i64 y4, .int .i64 y5, .bool y6, .bool y7, .bool y8, .slice c ys.length dap] 25)) (w.heap.size + 1) ⟨y1, y2, y3, y4, y5, y6, y7, y8, ys⟩ c dap) := by
    have := Box.new (w.alloc (.cells #[.int .i64 x1, .int .i64 x2, .int .u64 (x3 : Int), .int .i64 x4, .int .i64 x5, .bool x6, .bool x7, .bool x8, .slice a xs.length cap] 25)) ⟨y1, y2, y3, y4, y5, y6, y7, y8, ys⟩ c dap
    simp only [World.size_alloc] at this
    exact this
  have KC := hide (copy7_any ⟨x1, x2, x3, x4, x5, x6, x7, x8, xs⟩ a cap ((w.alloc (.cells #[.int .i64 x1, .int .i64 x2, .int .u64 (x3 : Int), .int .i64 x4, .int .i64 x5, .bool x6, .bool x7, .bool x8, .slice a xs.length cap] 25)).alloc (.cells #[.int .i64 y1, .int .i64 y2, .int .u64 (y3 : Int), .int .i64 y4, .int .i64 y5, .bool y6, .bool y7, .bool y8, .slice c ys.length dap] 25)) (hx.at_.later (unhide B0)) x24 (unhide X64))
  clear hx hy
  go_enter Try.func7, Try.ntmps7
  go_wp2_with fail
  refine (unhide KC).mono ?_
  rintro e w2 ⟨a2, c2, rfl, cp2⟩
  obtain ⟨pd2, _, bl2⟩ := cp2
  obtain ⟨az, cz, ez, r2, _⟩ := pd2.parts
  cases ez
  have KE := hide (encode_any ⟨x1, x2, x3, x4, x5, x6, x7, x8, xs⟩ a2 c2 w2 r2 (unhide HX).fits)
  have B2 := hide ((unhide B0).trans (bl2.mono (unhide B0).size))
  have BX2 := hide ((unhide BX0).later bl2)
  have BY2 := hide ((unhide BY0).later bl2)
  clear pd2 bl2 r2 KC B0 BX0 BY0
  go_wp2_with fail
  refine (unhide KE).mono ?_
  rintro e w3 ⟨vo, rfl, fo⟩
  have B3 := hide ((unhide B2).trans (fo.2.2.mono (unhide B2).size))
  have BX3 := hide ((unhide BX2).later fo.2.2)
  have BY3 := hide ((unhide BY2).later fo.2.2)
  obtain ⟨ao, co, rfl, lo, _, _, _, _, _⟩ := fo.1.parts
  have LO3 := hide lo
  have KC := hide (copy7_any ⟨y1, y2, y3, y4, y5, y6, y7, y8, ys⟩ c dap w3 ((unhide HY).at_.later (unhide B3)) y24 (unhide Y64))
  obtain ⟨k0, k1, k2, k3, k4, k5, k6, k7, k8⟩ := (unhide BY3).cells
  simp only at k0 k1 k2 k3 k4 k5 k6 k7 k8
  clear fo lo KE B2 BX2 BY2
  go_wp2_with fail
  refine (unhide KC).mono ?_
  rintro e w4 ⟨a4, c4, rfl, cp4⟩
  obtain ⟨pd4, _, bl4⟩ := cp4
  obtain ⟨az, cz, ez, r4, _⟩ := pd4.parts
  cases ez
  have KE := hide (encode_any ⟨y1, y2, y3, y4, y5, y6, y7, y8, ys⟩ a4 c4 w4 r4 (unhide HY).fits)
  have B4 := hide ((unhide B3).trans (bl4.mono (unhide B3).size))
  have BX4 := hide ((unhide BX3).later bl4)
  have BY4 := hide ((unhide BY3).later bl4)
  have LO4 := hide ((unhide LO3).later bl4)
  clear pd4 bl4 r4 KC B3 BX3 BY3 LO3 k0 k1 k2 k3 k4 k5 k6 k7 k8
  go_wp2_with fail
  refine (unhide KE).mono ?_
  rintro e w6 ⟨vu, rfl, fu⟩
  have B6 := hide ((unhide B4).trans (fu.2.2.mono (unhide B4).size))
  have BX6 := hide ((unhide BX4).later fu.2.2)
  have BY6 := hide ((unhide BY4).later fu.2.2)
  have LO6 := hide ((unhide LO4).later fu.2.2)
  obtain ⟨au, cu, rfl, lu, _, _, _, _, _⟩ := fu.1.parts
  have LU6 := hide lu
  have KA : Hid (∀ w', Below w6.heap.size w6 w' → Calls Try.prog 10 #[] w' fun e w'' => e = .returned (.bool true) ∧ Below w6.heap.size w6 w'') := fun w' hb => (awake7_any w').mono fun e w'' h => ⟨h.1, hb.trans (h.2.mono hb.size)⟩
  have hg0 : w.heap.size < w6.heap.size := lt_of_heap (unhide BX6)
  have hg1 : w.heap.size + 1 < w6.heap.size := lt_of_heap (unhide BY6)
  have K18 := hide (And.intro (unhide BX6).cells (unhide BY6).cells)
  simp only [and_assoc] at K18
  clear fu lu KE B4 BX4 BY4 LO4
  by_cases hzx : chk ⟨x1, x2, x3, x4, x5, x6, x7, x8, xs⟩ = 0
  · by_cases hzy : chk ⟨y1, y2, y3, y4, y5, y6, y7, y8, ys⟩ = 0
    · have hinj := encB_inj (unhide HX).fits hzx (unhide HY).fits hzy
      have hiff : encB ⟨x1, x2, x3, x4, x5, x6, x7, x8, xs⟩ = encB ⟨y1, y2, y3, y4, y5, y6, y7, y8, ys⟩ ↔ (⟨x1, x2, x3, x4, x5, x6, x7, x8, xs⟩ : Bt) = ⟨y1, y2, y3, y4, y5, y6, y7, y8, ys⟩ := ⟨hinj, fun e => by rw [e]⟩
      have hlx := encB_len (unhide HX).fits hzx
      rw [hzx, hzy]
      rw [outE_ok hzx] at LO6 ⊢
      rw [outE_ok hzy] at LU6 ⊢
      have hq : ∃ q : Bool, (q = true ↔ (⟨x1, x2, x3, x4, x5, x6, x7, x8, xs⟩ : Bt) = ⟨y1, y2, y3, y4, y5, y6, y7, y8, ys⟩) := by
        by_cases h : (⟨x1, x2, x3, x4, x5, x6, x7, x8, xs⟩ : Bt) = ⟨y1, y2, y3, y4, y5, y6, y7, y8, ys⟩
        · exact ⟨true, iff_yes h⟩
        · exact ⟨false, iff_no h⟩
      obtain ⟨q, hq⟩ := hq
      have KS : Hid (∀ w', Below w6.heap.size w6 w' → Calls Try.prog 17 #[.slice ao (encB ⟨x1, x2, x3, x4, x5, x6, x7, x8, xs⟩).length co, .slice au (encB ⟨y1, y2, y3, y4, y5, y6, y7, y8, ys⟩).length cu] w' fun e w'' => e = .returned (.bool q) ∧ Below w6.heap.size w6 w'') := fun w' hb => (same_gen w' ao au co cu _ _ ((unhide LO6).later hb) ((unhide LU6).later hb) (by omega)).mono fun e w'' h => by
        obtain ⟨p, n, e1, e2, e3⟩ := h
        refine ⟨by rw [e1, bool_same (e2.trans hiff) hq], by rw [e3]; exact below_drewN3 hb n⟩
      have KR : Hid (∀ w', Below w6.heap.size w6 w' → Calls Try.prog 18 #[.agg #[.int .i64 x1, .int .i64 x2, .int .u64 (x3 : Int), .int .i64 x4, .int .i64 x5, .bool x6, .bool x7, .bool x8, .slice a xs.length cap], .agg #[.int .i64 y1, .int .i64 y2, .int .u64 (y3 : Int), .int .i64 y4, .int .i64 y5, .bool y6, .bool y7, .bool y8, .slice c ys.length dap]] w' fun e w'' => e = .returned (.bool q) ∧ Below w6.heap.size w6 w'') := fun w' hb => (rsame_any ⟨x1, x2, x3, x4, x5, x6, x7, x8, xs⟩ ⟨y1, y2, y3, y4, y5, y6, y7, y8, ys⟩ a c cap dap w' ((unhide HX).at_.later ((unhide B6).trans (hb.mono (unhide B6).size))) ((unhide HY).at_.later ((unhide B6).trans (hb.mono (unhide B6).size))) (fun v hv => by have := unhide X64 v hv; omega) (by show xs.length ≤ _; omega)).mono fun e w'' h => by
        obtain ⟨p, e1, e2, e3⟩ := h
        exact ⟨by rw [e1, bool_same e2 hq], hb.trans (e3.mono hb.size)⟩
      clear hinj hiff hlx hzx hzy hq LO6 LU6 BX6 BY6
      generalize (encB ⟨x1, x2, x3, x4, x5, x6, x7, x8, xs⟩).length = LX at *
      generalize (encB ⟨y1, y2, y3, y4, y5, y6, y7, y8, ys⟩).length = LY at *
      go_wp2_with fail
      go_region_held3 (fun w' => w'.cell? ⟨w.heap.size, 0, none⟩ = some (.int .i64 x1) ∧ w'.cell? ⟨w.heap.size, 1, none⟩ = some (.int .i64 x2) ∧ w'.cell? ⟨w.heap.size, 2, none⟩ = some (.int .u64 (x3 : Int)) ∧ w'.cell? ⟨w.heap.size, 3, none⟩ = some (.int .i64 x4) ∧ w'.cell? ⟨w.heap.size, 4, none⟩ = some (.int .i64 x5) ∧ w'.cell? ⟨w.heap.size, 5, none⟩ = some (.bool x6) ∧ w'.cell? ⟨w.heap.size, 6, none⟩ = some (.bool x7) ∧ w'.cell? ⟨w.heap.size, 7, none⟩ = some (.bool x8) ∧ w'.cell? ⟨w.heap.size, 8, none⟩ = some (.slice a xs.length cap) ∧ w'.cell? ⟨w.heap.size + 1, 0, none⟩ = some (.int .i64 y1) ∧ w'.cell? ⟨w.heap.size + 1, 1, none⟩ = some (.int .i64 y2) ∧ w'.cell? ⟨w.heap.size + 1, 2, none⟩ = some (.int .u64 (y3 : Int)) ∧ w'.cell? ⟨w.heap.size + 1, 3, none⟩ = some (.int .i64 y4) ∧ w'.cell? ⟨w.heap.size + 1, 4, none⟩ = some (.int .i64 y5) ∧ w'.cell? ⟨w.heap.size + 1, 5, none⟩ = some (.bool y6) ∧ w'.cell? ⟨w.heap.size + 1, 6, none⟩ = some (.bool y7) ∧ w'.cell? ⟨w.heap.size + 1, 7, none⟩ = some (.bool y8) ∧ w'.cell? ⟨w.heap.size + 1, 8, none⟩ = some (.slice c ys.length dap)) (first | exact unhide K18 | exact keep18 hg0 hg1 (unhide K18) (by go_grown)) (first
      | (go_at_call 10; refine (unhide KA _ (by go_grown)).mono ?_; rintro e wp ⟨rfl, bwp⟩)
      | (go_at_call 17; refine (unhide KS _ (by go_grown)).mono ?_; rintro e wq ⟨rfl, bwq⟩)
      | (go_at_call 18; refine (unhide KR _ (by go_grown)).mono ?_; rintro e wr ⟨rfl, bwr⟩))
      all_goals go_wp2
      all_goals go_returns
      all_goals exact ⟨by simp, (unhide B6).trans (Below.mono (by first | assumption | go_grown) (unhide B6).size)⟩
    · rw [hzx]
      clear hzx
      clear LO6 LU6 BX6 BY6
      generalize (outE ⟨x1, x2, x3, x4, x5, x6, x7, x8, xs⟩).length = LX at *
      generalize (outE ⟨y1, y2, y3, y4, y5, y6, y7, y8, ys⟩).length = LY at *
      generalize chk ⟨y1, y2, y3, y4, y5, y6, y7, y8, ys⟩ = cy at *
      have hzy' : ¬ (cy : Int) = 0 := by omega
      go_wp2_with fail
      refine wp_region_any (by kernel_rfl) ?_
      refine wpAny_ready (rs := [0]) (by kernel_rfl) (by simp) ?_
      refine AllReady.cons rfl ?_ AllReady.nil
      intro K hK
      go_simp
      refine (unhide KA _ (by go_grown)).mono ?_
      rintro e wp ⟨rfl, bwp⟩
      simp only []
      refine hK _ _ ?_
      clear hK
      refine wpAny_take (i := 1) (v := .bool true) rfl (by kernel_rfl) (by kernel_rfl) (by kernel_rfl) (fun _ _ _ h => h) (Or.inl ⟨by kernel_rfl, by intro w; go_simp⟩) ?_
      refine wpAny_take (i := 2) (v := .int .i64 0) rfl (by kernel_rfl) (by kernel_rfl) (by kernel_rfl) (fun _ _ _ h => h) (Or.inl ⟨by kernel_rfl, by intro w; go_simp⟩) ?_
      refine wpAny_take (i := 3) (v := .bool false) rfl (by kernel_rfl) (by kernel_rfl) (by kernel_rfl) (fun _ _ _ h => h) (Or.inl ⟨by kernel_rfl, by intro w; go_simp⟩) ?_
      refine wpAny_take (i := 4) (v := .bool false) rfl (by kernel_rfl) (by kernel_rfl) (by kernel_rfl) (fun _ _ _ h => h) (Or.inl ⟨by kernel_rfl, by intro w; go_simp⟩) ?_
      refine wpAny_take (i := 5) (v := .int .i64 (cy : Int)) rfl (by kernel_rfl) (by kernel_rfl) (by kernel_rfl) (fun _ _ _ h => h) (Or.inl ⟨by kernel_rfl, by intro w; go_simp⟩) ?_
      refine wpAny_take (i := 6) (v := .bool true) rfl (by kernel_rfl) (by kernel_rfl) (by kernel_rfl) (fun _ _ _ h => h) (Or.inl ⟨by kernel_rfl, by intro w; go_simp⟩) ?_
      refine wpAny_take (i := 7) (v := .bool true) rfl (by kernel_rfl) (by kernel_rfl) (by kernel_rfl) (fun _ _ _ h => h) (Or.inl ⟨by kernel_rfl, by intro w; go_simp⟩) ?_
      refine wpAny_take (i := 8) (v := .bool true) rfl (by kernel_rfl) (by kernel_rfl) (by kernel_rfl) (fun _ _ _ h => h) (Or.inl ⟨by kernel_rfl, by intro w; go_simp⟩) ?_
      refine wpAny_take (i := 9) (v := undef) rfl (by kernel_rfl) (by kernel_rfl) (by kernel_rfl) (fun _ _ _ h => h) (Or.inr ⟨by kernel_rfl, rfl⟩) ?_
      refine wpAny_take (i := 10) (v := undef) rfl (by kernel_rfl) (by kernel_rfl) (by kernel_rfl) (fun _ _ _ h => h) (Or.inr ⟨by kernel_rfl, rfl⟩) ?_
      refine wpAny_take (i := 11) (v := undef) rfl (by kernel_rfl) (by kernel_rfl) (by kernel_rfl) (fun _ _ _ h => h) (Or.inr ⟨by kernel_rfl, rfl⟩) ?_
      refine wpAny_take (i := 12) (v := undef) rfl (by kernel_rfl) (by kernel_rfl) (by kernel_rfl) (fun _ _ _ h => h) (Or.inr ⟨by kernel_rfl, rfl⟩) ?_
      refine wpAny_take (i := 13) (v := undef) rfl (by kernel_rfl) (by kernel_rfl) (by kernel_rfl) (fun _ _ _ h => h) (Or.inr ⟨by kernel_rfl, rfl⟩) ?_
      refine wpAny_take (i := 14) (v := undef) rfl (by kernel_rfl) (by kernel_rfl) (by kernel_rfl) (fun _ _ _ h => h) (Or.inr ⟨by kernel_rfl, rfl⟩) ?_
      refine wpAny_take (i := 15) (v := undef) rfl (by kernel_rfl) (by kernel_rfl) (by kernel_rfl) (fun _ _ _ h => h) (Or.inr ⟨by kernel_rfl, rfl⟩) ?_
      refine wpAny_take (i := 16) (v := .bool true) rfl (by kernel_rfl) (by kernel_rfl) (by kernel_rfl) (fun _ _ _ h => h) (Or.inl ⟨by kernel_rfl, by intro w; go_simp⟩) ?_
      refine wpAny_take (i := 17) (v := .bool true) rfl (by kernel_rfl) (by kernel_rfl) (by kernel_rfl) (fun _ _ _ h => h) (Or.inl ⟨by kernel_rfl, by intro w; go_simp⟩) ?_
      refine wpAny_take (i := 18) (v := .bool true) rfl (by kernel_rfl) (by kernel_rfl) (by kernel_rfl) (fun _ _ _ h => h) (Or.inl ⟨by kernel_rfl, by intro w; go_simp⟩) ?_
      refine wpAny_done (by kernel_rfl) ?_ _
      go_wp2
      go_returns
      exact ⟨by kernel_rfl, (unhide B6).trans (Below.mono (by first | assumption | go_grown) (unhide B6).size)⟩
  · clear LO6 LU6 BX6 BY6
    generalize (outE ⟨x1, x2, x3, x4, x5, x6, x7, x8, xs⟩).length = LX at *
    generalize (outE ⟨y1, y2, y3, y4, y5, y6, y7, y8, ys⟩).length = LY at *
    generalize chk ⟨x1, x2, x3, x4, x5, x6, x7, x8, xs⟩ = cx at *
    generalize chk ⟨y1, y2, y3, y4, y5, y6, y7, y8, ys⟩ = cy at *
    have hzx' : ¬ (cx : Int) = 0 := by omega
    go_wp2_with fail
    refine wp_region_any (by kernel_rfl) ?_
    refine wpAny_ready (rs := [0]) (by kernel_rfl) (by simp) ?_
    refine AllReady.cons rfl ?_ AllReady.nil
    intro K hK
    go_simp
    refine (unhide KA _ (by go_grown)).mono ?_
    rintro e wp ⟨rfl, bwp⟩
    simp only []
    refine hK _ _ ?_
    clear hK
    refine wpAny_take (i := 1) (v := .bool true) rfl (by kernel_rfl) (by kernel_rfl) (by kernel_rfl) (fun _ _ _ h => h) (Or.inl ⟨by kernel_rfl, by intro w; go_simp⟩) ?_
    refine wpAny_take (i := 2) (v := .int .i64 (cx : Int)) rfl (by kernel_rfl) (by kernel_rfl) (by kernel_rfl) (fun _ _ _ h => h) (Or.inl ⟨by kernel_rfl, by intro w; go_simp⟩) ?_
    refine wpAny_take (i := 3) (v := .bool true) rfl (by kernel_rfl) (by kernel_rfl) (by kernel_rfl) (fun _ _ _ h => h) (Or.inl ⟨by kernel_rfl, by intro w; go_simp⟩) ?_
    refine wpAny_take (i := 4) (v := .bool true) rfl (by kernel_rfl) (by kernel_rfl) (by kernel_rfl) (fun _ _ _ h => h) (Or.inl ⟨by kernel_rfl, by intro w; go_simp⟩) ?_
    refine wpAny_take (i := 5) (v := undef) rfl (by kernel_rfl) (by kernel_rfl) (by kernel_rfl) (fun _ _ _ h => h) (Or.inr ⟨by kernel_rfl, rfl⟩) ?_
    refine wpAny_take (i := 6) (v := undef) rfl (by kernel_rfl) (by kernel_rfl) (by kernel_rfl) (fun _ _ _ h => h) (Or.inr ⟨by kernel_rfl, rfl⟩) ?_
    refine wpAny_take (i := 7) (v := .bool true) rfl (by kernel_rfl) (by kernel_rfl) (by kernel_rfl) (fun _ _ _ h => h) (Or.inl ⟨by kernel_rfl, by intro w; go_simp⟩) ?_
    refine wpAny_take (i := 8) (v := .bool true) rfl (by kernel_rfl) (by kernel_rfl) (by kernel_rfl) (fun _ _ _ h => h) (Or.inl ⟨by kernel_rfl, by intro w; go_simp⟩) ?_
    refine wpAny_take (i := 9) (v := undef) rfl (by kernel_rfl) (by kernel_rfl) (by kernel_rfl) (fun _ _ _ h => h) (Or.inr ⟨by kernel_rfl, rfl⟩) ?_
    refine wpAny_take (i := 10) (v := undef) rfl (by kernel_rfl) (by kernel_rfl) (by kernel_rfl) (fun _ _ _ h => h) (Or.inr ⟨by kernel_rfl, rfl⟩) ?_
    refine wpAny_take (i := 11) (v := undef) rfl (by kernel_rfl) (by kernel_rfl) (by kernel_rfl) (fun _ _ _ h => h) (Or.inr ⟨by kernel_rfl, rfl⟩) ?_
    refine wpAny_take (i := 12) (v := undef) rfl (by kernel_rfl) (by kernel_rfl) (by kernel_rfl) (fun _ _ _ h => h) (Or.inr ⟨by kernel_rfl, rfl⟩) ?_
    refine wpAny_take (i := 13) (v := undef) rfl (by kernel_rfl) (by kernel_rfl) (by kernel_rfl) (fun _ _ _ h => h) (Or.inr ⟨by kernel_rfl, rfl⟩) ?_
    refine wpAny_take (i := 14) (v := undef) rfl (by kernel_rfl) (by kernel_rfl) (by kernel_rfl) (fun _ _ _ h => h) (Or.inr ⟨by kernel_rfl, rfl⟩) ?_
    refine wpAny_take (i := 15) (v := undef) rfl (by kernel_rfl) (by kernel_rfl) (by kernel_rfl) (fun _ _ _ h => h) (Or.inr ⟨by kernel_rfl, rfl⟩) ?_
    refine wpAny_take (i := 16) (v := .bool true) rfl (by kernel_rfl) (by kernel_rfl) (by kernel_rfl) (fun _ _ _ h => h) (Or.inl ⟨by kernel_rfl, by intro w; go_simp⟩) ?_
    refine wpAny_take (i := 17) (v := .bool true) rfl (by kernel_rfl) (by kernel_rfl) (by kernel_rfl) (fun _ _ _ h => h) (Or.inl ⟨by kernel_rfl, by intro w; go_simp⟩) ?_
    refine wpAny_take (i := 18) (v := .bool true) rfl (by kernel_rfl) (by kernel_rfl) (by kernel_rfl) (fun _ _ _ h => h) (Or.inl ⟨by kernel_rfl, by intro w; go_simp⟩) ?_
    refine wpAny_done (by kernel_rfl) ?_ _
    go_wp2
    go_returns
    exact ⟨by kernel_rfl, (unhide B6).trans (Below.mono (by first | assumption | go_grown) (unhide B6).size)⟩
end Go.Proofs.Ytfccddcoindnlaa
