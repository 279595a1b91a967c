/-
  BatchChecks answers true. Conditions: lengths as memory allows them.
-/
import Derived.Test.YtfccddcoindnlaaK18
import Derived.Deep.RegionHeld3
import Derived.Test.YtfccddcoindnlaaDe7
namespace Go.Proofs.Ytfccddcoindnlaa
open Go.RowKit
set_option linter.unusedVariables false

set_option maxRecDepth 100000 in
set_option maxHeartbeats 8000000 in
theorem batchChecks_walk (x : Bt) (a : Option Addr) (cap : Nat) (w : World) (hx : BIn w x a cap) :
    Calls Try.prog 3 #[bv x a cap] w fun e w' => e = .returned (.bool true) ∧ Below w.heap.size w w' := by
  have HX := hide hx
  have x24 : x.vs.length * 24 ≤ 140737488355328 := by have := hx.len; unfold reachBytes at this; omega
  have X64 : Hid (∀ p ∈ x.vs, p.length ≤ 140737488355328) := fun p hp => by have := hx.each p hp; unfold reachBytes at this; omega
  obtain ⟨x1, x2, x3, x4, x5, x6, x7, x8, xs⟩ := x
  simp only at x24
  have B0 : Hid (Below w.heap.size w (w.alloc (.cells #[.int .i64 x1, .int .i64 x2, .int .u64 (x3 : Int), .int .i64 x4, .int .i64 x5, .bool x6, .bool x7, .bool x8, .slice a xs.length cap] 25))) := (Below.refl _ _).alloc (Nat.le_refl _) _
  have BX0 := hide (Box.new w ⟨x1, x2, x3, x4, x5, x6, x7, x8, xs⟩ a cap)
  have KD := hide (docencode_any ⟨x1, x2, x3, x4, x5, x6, x7, x8, xs⟩ a cap _ (hx.at_.later (unhide B0)) hx.fits)
  clear hx
  go_enter Try.func3, Try.ntmps3
  go_wp2_with fail
  refine (unhide KD).mono ?_
  rintro e w1 ⟨vo, rfl, fo⟩
  have B1 := hide ((unhide B0).trans (fo.2.2.mono (unhide B0).size))
  have BX1 := hide ((unhide BX0).later fo.2.2)
  obtain ⟨ao, co, rfl, lo, _, _, _, _, _⟩ := fo.1.parts
  have LO1 := hide lo
  have KA := hide (awake7_any w1)
  clear fo lo KD B0 BX0
  go_wp2_with fail
  refine (unhide KA).mono ?_
  rintro e w2 ⟨rfl, b2⟩
  have B2 := hide ((unhide B1).trans (b2.mono (unhide B1).size))
  have BX2 := hide ((unhide BX1).later b2)
  have LO2 := hide ((unhide LO1).later b2)
  have KC := hide (copy7_any ⟨x1, x2, x3, x4, x5, x6, x7, x8, xs⟩ a cap w2 ((unhide HX).at_.later (unhide B2)) x24 (unhide X64))
  obtain ⟨k0, k1, k2, k3, k4, k5, k6, k7, k8⟩ := (unhide BX2).cells
  simp only at k0 k1 k2 k3 k4 k5 k6 k7 k8
  clear b2 KA B1 BX1 LO1
  go_wp2_with fail
  refine (unhide KC).mono ?_
  rintro e w3 ⟨a3, c3, rfl, cp3⟩
  obtain ⟨pd3, _, bl3⟩ := cp3
  obtain ⟨az, cz, ez, r3, _⟩ := pd3.parts
  cases ez
  have hW : Below w3.heap.size w3 (w3.alloc (.cells #[.int .i64 x1, .int .i64 x2, .int .u64 (x3 : Int), .int .i64 x4, .int .i64 x5, .bool x6, .bool x7, .bool x8, .slice a3 xs.length c3] 25)) := (Below.refl _ _).alloc (Nat.le_refl _) _
  have B3 := hide (((unhide B2).trans (bl3.mono (unhide B2).size)).trans (hW.mono ((unhide B2).trans (bl3.mono (unhide B2).size)).size))
  have BX3 := hide (((unhide BX2).later bl3).later hW)
  have BC3 := hide (Box.new w3 ⟨x1, x2, x3, x4, x5, x6, x7, x8, xs⟩ a3 c3)
  have LO3 := hide (((unhide LO2).later bl3).later hW)
  have RC3 := hide (r3.later hW)
  have KE := hide (encode_any ⟨x1, x2, x3, x4, x5, x6, x7, x8, xs⟩ a3 c3 _ (r3.later hW) (unhide HX).fits)
  clear pd3 bl3 r3 hW KC B2 BX2 LO2 k0 k1 k2 k3 k4 k5 k6 k7 k8
  go_wp2_with fail
  refine (unhide KE).mono ?_
  rintro e w5 ⟨vt, rfl, ft⟩
  have B6 := hide ((unhide B3).trans (ft.2.2.mono (unhide B3).size))
  have BX5 := hide ((unhide BX3).later ft.2.2)
  have BC5 := hide ((unhide BC3).later ft.2.2)
  have LO5 := hide ((unhide LO3).later ft.2.2)
  have RC5 := hide ((unhide RC3).later ft.2.2)
  obtain ⟨at_, ct, rfl, lt, hlc, hlm, _, _, _⟩ := ft.1.parts
  have LT5 := hide lt
  have hg0 : w.heap.size < w5.heap.size := lt_of_heap (unhide BX5)
  have hg1 : w3.heap.size < w5.heap.size := lt_of_heap (unhide BC5)
  have K18 := hide (And.intro (unhide BX5).cells (unhide BC5).cells)
  simp only [and_assoc] at K18
  have hlo : (outE ⟨x1, x2, x3, x4, x5, x6, x7, x8, xs⟩).length ≤ 9223372036854775807 := by unfold maxLen at hlm; omega
  clear ft lt KE B3 BX3 BC3 LO3 RC3
  have KZ : Hid (∀ w', Below w5.heap.size w5 w' → Calls Try.prog 13 #[.agg #[.int .i64 x1, .int .i64 x2, .int .u64 (x3 : Int), .int .i64 x4, .int .i64 x5, .bool x6, .bool x7, .bool x8, .slice a3 xs.length c3]] w' fun e w'' => e = .returned (.int .i64 ((if (⟨x1, x2, x3, x4, x5, x6, x7, x8, xs⟩ : Bt).ctl = true then 1 else xs.length : Nat) : Int)) ∧ Below w5.heap.size w5 w'') := fun w' hb => (size7_any ⟨x1, x2, x3, x4, x5, x6, x7, x8, xs⟩ a3 c3 w').mono fun e w'' h => ⟨h.1, hb.trans (h.2.mono hb.size)⟩
  have KY : Hid (∀ w', Below w5.heap.size w5 w' → Calls Try.prog 14 #[.agg #[.int .i64 x1, .int .i64 x2, .int .u64 (x3 : Int), .int .i64 x4, .int .i64 x5, .bool x6, .bool x7, .bool x8, .slice a xs.length cap]] w' fun e w'' => e = .returned (.int .i64 ((if (⟨x1, x2, x3, x4, x5, x6, x7, x8, xs⟩ : Bt).ctl = true then 1 else xs.length : Nat) : Int)) ∧ Below w5.heap.size w5 w'') := fun w' hb => (rsize_any ⟨x1, x2, x3, x4, x5, x6, x7, x8, xs⟩ a cap w').mono fun e w'' h => ⟨h.1, hb.trans (h.2.mono hb.size)⟩
  have KH : Hid (∀ w', Below w5.heap.size w5 w' → Calls Try.prog 15 #[.agg #[.int .i64 x1, .int .i64 x2, .int .u64 (x3 : Int), .int .i64 x4, .int .i64 x5, .bool x6, .bool x7, .bool x8, .slice a3 xs.length c3]] w' fun e w'' => e = .returned (.int .i64 (chk ⟨x1, x2, x3, x4, x5, x6, x7, x8, xs⟩ : Nat)) ∧ Below w5.heap.size w5 w'') := fun w' hb => (check_any ⟨x1, x2, x3, x4, x5, x6, x7, x8, xs⟩ a3 c3 w' ((unhide RC5).later hb)).mono fun e w'' h => ⟨h.1, hb.trans (h.2.mono hb.size)⟩
  have KG : Hid (∀ w', Below w5.heap.size w5 w' → Calls Try.prog 16 #[.agg #[.int .i64 x1, .int .i64 x2, .int .u64 (x3 : Int), .int .i64 x4, .int .i64 x5, .bool x6, .bool x7, .bool x8, .slice a xs.length cap]] w' fun e w'' => e = .returned (.int .i64 (chk ⟨x1, x2, x3, x4, x5, x6, x7, x8, xs⟩ : Nat)) ∧ Below w5.heap.size w5 w'') := fun w' hb => (doccheck_any ⟨x1, x2, x3, x4, x5, x6, x7, x8, xs⟩ a cap w' ((unhide HX).at_.later ((unhide B6).trans (hb.mono (unhide B6).size)))).mono fun e w'' h => ⟨h.1, hb.trans (h.2.mono hb.size)⟩
  have KS : Hid (∀ w', Below w5.heap.size w5 w' → Calls Try.prog 17 #[.slice at_ (outE ⟨x1, x2, x3, x4, x5, x6, x7, x8, xs⟩).length ct, .slice ao (outE ⟨x1, x2, x3, x4, x5, x6, x7, x8, xs⟩).length co] w' fun e w'' => e = .returned (.bool true) ∧ Below w5.heap.size w5 w'') := fun w' hb => (same_gen w' at_ ao ct co _ _ ((unhide LT5).later hb) ((unhide LO5).later hb) hlo).mono fun e w'' h => by
    obtain ⟨p, n, e1, e2, e3⟩ := h
    exact ⟨by rw [e1, e2.2 rfl], by rw [e3]; exact below_drewN3 hb n⟩
  have KR : Hid (∀ w', Below w5.heap.size w5 w' → Calls Try.prog 18 #[.agg #[.int .i64 x1, .int .i64 x2, .int .u64 (x3 : Int), .int .i64 x4, .int .i64 x5, .bool x6, .bool x7, .bool x8, .slice a3 xs.length c3], .agg #[.int .i64 x1, .int .i64 x2, .int .u64 (x3 : Int), .int .i64 x4, .int .i64 x5, .bool x6, .bool x7, .bool x8, .slice a xs.length cap]] w' fun e w'' => e = .returned (.bool true) ∧ Below w5.heap.size w5 w'') := fun w' hb => (rsame_any ⟨x1, x2, x3, x4, x5, x6, x7, x8, xs⟩ ⟨x1, x2, x3, x4, x5, x6, x7, x8, xs⟩ a3 a c3 cap w' ((unhide RC5).later hb) ((unhide HX).at_.later ((unhide B6).trans (hb.mono (unhide B6).size))) (fun v hv => by have := unhide X64 v hv; omega) (by show xs.length ≤ _; omega)).mono fun e w'' h => by
    obtain ⟨p, e1, e2, e3⟩ := h
    exact ⟨by rw [e1, e2.2 rfl], hb.trans (e3.mono hb.size)⟩
  clear LO5 LT5 RC5 BX5 BC5 hlo hlc hlm
  generalize (if (⟨x1, x2, x3, x4, x5, x6, x7, x8, xs⟩ : Bt).ctl = true then 1 else xs.length) = NN at *
  generalize (outE ⟨x1, x2, x3, x4, x5, x6, x7, x8, xs⟩).length = LX at *
  generalize chk ⟨x1, x2, x3, x4, x5, x6, x7, x8, xs⟩ = cx at *
  go_wp2_with fail
  go_region_held3 (fun w' => w'.cell? ⟨w.heap.size, 0, none⟩ = some (.int .i64 x1) ∧ w'.cell? ⟨w.heap.size, 1, none⟩ = some (.int .i64 x2) ∧ w'.cell? ⟨w.heap.size, 2, none⟩ = some (.int .u64 (x3 : Int)) ∧ w'.cell? ⟨w.heap.size, 3, none⟩ = some (.int .i64 x4) ∧ w'.cell? ⟨w.heap.size, 4, none⟩ = some (.int .i64 x5) ∧ w'.cell? ⟨w.heap.size, 5, none⟩ = some (.bool x6) ∧ w'.cell? ⟨w.heap.size, 6, none⟩ = some (.bool x7) ∧ w'.cell? ⟨w.heap.size, 7, none⟩ = some (.bool x8) ∧ w'.cell? ⟨w.heap.size, 8, none⟩ = some (.slice a xs.length cap) ∧ w'.cell? ⟨w3.heap.size, 0, none⟩ = some (.int .i64 x1) ∧ w'.cell? ⟨w3.heap.size, 1, none⟩ = some (.int .i64 x2) ∧ w'.cell? ⟨w3.heap.size, 2, none⟩ = some (.int .u64 (x3 : Int)) ∧ w'.cell? ⟨w3.heap.size, 3, none⟩ = some (.int .i64 x4) ∧ w'.cell? ⟨w3.heap.size, 4, none⟩ = some (.int .i64 x5) ∧ w'.cell? ⟨w3.heap.size, 5, none⟩ = some (.bool x6) ∧ w'.cell? ⟨w3.heap.size, 6, none⟩ = some (.bool x7) ∧ w'.cell? ⟨w3.heap.size, 7, none⟩ = some (.bool x8) ∧ w'.cell? ⟨w3.heap.size, 8, none⟩ = some (.slice a3 xs.length c3)) (first | exact unhide K18 | exact keep18 hg0 hg1 (unhide K18) (by go_grown)) (first
      | (go_at_call 13; refine (unhide KZ _ (by go_grown)).mono ?_; rintro e wp ⟨rfl, bwp⟩)
      | (go_at_call 14; refine (unhide KY _ (by go_grown)).mono ?_; rintro e wq ⟨rfl, bwq⟩)
      | (go_at_call 15; refine (unhide KH _ (by go_grown)).mono ?_; rintro e wr ⟨rfl, bwr⟩)
      | (go_at_call 16; refine (unhide KG _ (by go_grown)).mono ?_; rintro e ws ⟨rfl, bws⟩)
      | (go_at_call 17; refine (unhide KS _ (by go_grown)).mono ?_; rintro e wt ⟨rfl, bwt⟩)
      | (go_at_call 18; refine (unhide KR _ (by go_grown)).mono ?_; rintro e wu ⟨rfl, bwu⟩))
  all_goals go_wp2
  all_goals go_returns
  all_goals exact ⟨by simp, (unhide B6).trans (Below.mono (by first | assumption | go_grown) (unhide B6).size)⟩
end Go.Proofs.Ytfccddcoindnlaa
