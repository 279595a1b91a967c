/-
  awake of layer 19: a client without operations has ended; one with a value to send asks for a producer. No conditions.
-/
import Derived.Test.YtbonlonkienhaaaCs11
namespace Go.Proofs.Ytbonlonkienhaaa
open Go.RowKit
set_option linter.unusedVariables false

theorem ClAt.keepS {S : Nat → Prop} {w w' : World} {b : Nat} {c : Cl} (h : ClAt w b c) (t : Touch S w w') (hb : ¬ S b) (ho : ∀ k, (Value.slice c.oa c.os.length c.oc).ownBlock = some k → ¬ S k) (ht : ∀ k, (trV c).ownBlock = some k → ¬ S k) : ClAt w' b c := ⟨t.keep h.cl hb, h.ops.keep t ho, h.tr.keep t ht⟩
/-- Another client's block is none of its own rows'. -/
theorem ClAt.other {w w' : World} {b d : Nat} {c e : Cl} (h : ClAt w b c) (g : ClAt w d e) (hne : b ≠ d) (t : Touch (· = d) w w') : ClAt w' b c :=
  h.keepS t hne (fun k hk ek => by
    subst ek
    obtain ⟨cs, h1⟩ := h.ops.heap hk
    rw [g.cl] at h1
    exact absurd (Obj.cells.inj (Option.some.inj h1)).2.1 (by decide)) (fun k hk ek => by
    subst ek
    obtain ⟨cs, h1⟩ := h.tr.heap hk
    rw [g.cl] at h1
    exact absurd (Obj.cells.inj (Option.some.inj h1)).2.1 (by decide))
def pA : Po := ⟨1, 0, 0, 0, ⟨#[97]⟩⟩
set_option maxRecDepth 100000 in
set_option maxHeartbeats 8000000 in
theorem awake19 (w : World) : Calls Try.prog 9 #[] w fun e w' => e = .returned (.bool true) ∧ Below w.heap.size w w' := by
  have KO := hide (one_any w none 0 0)
  go_enter Try.func9, Try.ntmps9
  go_wp2_with fail
  refine (unhide KO).mono ?_
  rintro e w1 ⟨g1, rfl, h1, b1, _⟩
  have K1 : Hid (Calls Try.prog 7 #[.int .i64 0, .agg #[.int .i64 1, .int .i64 1, .int .i64 1, .slice (some ⟨g1, 0, none⟩) 1 1]] w1 fun e w' => NwP w1 (oneC g1 none 0 []) 0 ⟨0, none, 0, []⟩ e w') := hide (new_ok (one_in (os := []) h1 (fun i hi => by cases hi) (by decide)) (by kernel_rfl) (by show 0 < 1; decide) rfl (by show 0 ≤ 64; decide) (fun _ => rfl))
  have B1 := hide b1
  clear h1 b1 KO
  go_wp2_with fail
  refine (unhide K1).mono ?_
  rintro e w2 ⟨bA, aA, kA, rfl, hbA, hA, _, t2⟩
  have HA := hide hA
  have B2 := hide (below_touch (unhide B1) t2 (unhide B1).size (fun k hk => hk.elim))
  have HBA : Hid (w.heap.size ≤ bA) := hide (Nat.le_trans (unhide B1).size hbA)
  clear K1 B1 hA t2 hbA
  generalize hcA : newC (oneC g1 none 0 []) 0 ⟨0, none, 0, []⟩ aA kA = cA at *
  have HCA := hide hcA
  clear hcA
  go_upto_region 2 with fail
  have b3 := (Below.refl w2.heap.size w2).alloc (Nat.le_refl _) (.cells #[.int .i64 1, .int .i64 0, .int .i64 0, .int .i64 0, .string { data := #[97] }] 36)
  have hO := heap_new w2 (.cells #[.int .i64 1, .int .i64 0, .int .i64 0, .int .i64 0, .string { data := #[97] }] 36)
  have KO : Hid (Calls Try.prog 10 #[.slice (some ⟨w2.heap.size, 0, none⟩) 1 1] (w2.alloc (.cells #[.int .i64 1, .int .i64 0, .int .i64 0, .int .i64 0, .string { data := #[97] }] 36)) fun e w' => OneP (w2.alloc (.cells #[.int .i64 1, .int .i64 0, .int .i64 0, .int .i64 0, .string { data := #[97] }] 36)) (.slice (some ⟨w2.heap.size, 0, none⟩) 1 1) e w') := hide (one_any _ _ _ _)
  have B3 := hide ((unhide B2).trans (Below.mono b3 (unhide B2).size))
  have HA3 := hide ((unhide HA).keep (Touch.of_below b3))
  have HO := hide hO
  have L3 : Hid (w2.heap.size < (w2.alloc (.cells #[.int .i64 1, .int .i64 0, .int .i64 0, .int .i64 0, .string { data := #[97] }] 36)).heap.size) := hide (lt_of_heap hO)
  have LA : Hid (bA < w2.heap.size) := hide (lt_of_heap (unhide HA).cl)
  clear b3 hO B2 HA
  go_wp2_with fail
  generalize w2.alloc (.cells #[.int .i64 1, .int .i64 0, .int .i64 0, .int .i64 0, .string { data := #[97] }] 36) = w3 at *
  generalize w2.heap.size = ob at *
  refine (unhide KO).mono ?_
  rintro e w4 ⟨g4, rfl, h4, b4, _⟩
  have K4 : Hid (Calls Try.prog 7 #[.int .i64 0, .agg #[.int .i64 1, .int .i64 1, .int .i64 1, .slice (some ⟨g4, 0, none⟩) 1 1]] w4 fun e w' => NwP w4 (oneC g4 (some ⟨ob, 0, none⟩) 1 [pA]) 0 ⟨0, some ⟨ob, 0, none⟩, 1, [pA]⟩ e w') := hide (new_ok (one_in (os := [pA]) h4 (fun i hi => by
      obtain rfl : i = 0 := by simpa using hi
      exact ⟨ob, 0, rfl, Nat.lt_of_lt_of_le (unhide L3) b4.size, fun j hj => by rw [show 0 + 0 * 5 + j = j by omega, cell_of (below_keep b4 (unhide HO))]; simp [pA, cellsPo]⟩) (by decide)) (by kernel_rfl) (by show 0 < 1; decide) rfl (by show 1 ≤ 64; decide) (fun h => by cases h))
  have B4 := hide ((unhide B3).trans (Below.mono b4 (unhide B3).size))
  have HA4 := hide ((unhide HA3).keep (Touch.of_below b4))
  have LA4 : Hid (bA < w4.heap.size) := hide (lt_of_heap (unhide HA4).cl)
  clear h4 b4 KO B3 HA3 HO L3
  go_wp2_with fail
  refine (unhide K4).mono ?_
  rintro e w5 ⟨bB, aB, kB, rfl, hbB, hB, nB, t5⟩
  have hne : bA ≠ bB := by have := unhide LA4; omega
  have QB : Hid (First (newC (oneC g4 (some ⟨ob, 0, none⟩) 1 [pA]) 0 ⟨0, some ⟨ob, 0, none⟩, 1, [pA]⟩ aB kB) pA) := hide ⟨rfl, rfl, rfl, rfl, rfl, rfl, rfl, rfl, rfl⟩
  have HB := hide hB
  have HBB : Hid (w.heap.size ≤ bB) := hide (Nat.le_trans (unhide B4).size hbB)
  have B5 := hide (below_touch (unhide B4) t5 (unhide B4).size (fun k hk => hk.elim))
  have HA5 := hide ((unhide HA4).keep t5)
  have NB : Hid (∀ k, (Value.slice aB 1 kB).ownBlock = some k → bA < k) := hide (fun k hk => by
    cases aB with
    | none => simp [Value.ownBlock] at hk
    | some x =>
      have := (nB x rfl).1
      have := unhide LA4
      have hx : x.block = k := by simpa [Value.ownBlock] using hk
      omega)
  clear hB t5 nB K4 B4 HA4 LA4 hbB
  have KT := hide (tick_end (unhide HA5) (by rw [← unhide HCA]; show 0 ≤ 4096; decide) (by rw [← unhide HCA]; rfl) (by rw [← unhide HCA]; rfl))
  go_wp2_with fail
  refine (unhide KT).mono ?_
  rintro e w6 ⟨rfl, a6, k6, hA6, t6, _⟩
  have HS : Hid (∀ q, Mine bA cA q → q = bA) := hide (fun q hq => hq.elim id (fun h => by
    rw [← unhide HCA] at h
    simp [trV, newC, Value.ownBlock] at h))
  have HB6 := hide ((unhide HB).keepS (t6.mono (unhide HS)) (fun e => hne e.symm) (fun k hk e => by have := unhide NB k hk; omega) (fun k hk e => by simp [trV, newC, Value.ownBlock] at hk))
  have B6 := hide (below_touch (unhide B5) (t6.mono (unhide HS)) (unhide B5).size (fun k hk => by rw [hk]; exact unhide HBA))
  have HA6 := hide hA6
  have KB := hide (tick_first (unhide HB6) (unhide QB))
  have HT6 : Hid ((endC cA a6 k6).tr = [endS cA]) := hide (by rw [← unhide HCA]; rfl)
  clear hA6 t6 KT HA5 HB HS NB B5 QB
  go_wp2_with fail
  refine (unhide KB).mono ?_
  rintro e w7 ⟨x, M, rfl, hx, hM, m0, m1, m2, t7⟩
  have HA7 := hide ((unhide HA6).other (unhide HB6) hne t7)
  have B7 : Hid (Below w.heap.size w w7) := by
    have hb := unhide HBB
    exact hide (below_touch (unhide B6) t7 (unhide B6).size (fun k hk => by omega))
  have HM := hide hM
  have M0 := hide m0
  have M1 := hide m1
  have M2 := hide m2
  have KR := hide (trace_any (unhide HA7) (by rw [unhide HT6]; show 1 ≤ 4097; decide))
  clear hM m0 m1 m2 hx t7 KB HA6 HB6 B6
  rw [unhide HT6] at KR
  go_wp2_with fail
  refine (unhide KR).mono ?_
  rintro e w8 ⟨a8, k8, rfl, r8, _, b8⟩
  have HM8 := below_keep b8 (unhide HM)
  have z0 : w8.cell? ⟨x, 0, none⟩ = some (.int .i64 7) := (cell_of HM8 0).trans (by simpa using unhide M0)
  have z1 : w8.cell? ⟨x, 1, none⟩ = some (.int .i64 1) := (cell_of HM8 1).trans (by simpa using unhide M1)
  have z2 : w8.cell? ⟨x, 2, none⟩ = some (.int .i64 0) := (cell_of HM8 2).trans (by simpa using unhide M2)
  obtain ⟨gb, off, ea, _, hcell⟩ := RowsP.of_wide (f := cellsSn) (m := 7) (fun _ => rfl) r8 (by decide) 0 (by show 0 < 1; decide)
  have y0 := hcell 0 (by decide)
  have FF : Hid (Below w.heap.size w w8) := hide ((unhide B7).trans (Below.mono b8 (unhide B7).size))
  subst ea
  rw [show off + 0 * 7 + 0 = off by omega] at y0
  simp only [List.getElem_cons_zero, cellsSn, List.getElem?_cons_zero, endS] at y0
  clear HM8 hcell r8 b8 KR HM M0 M1 M2 B7 HA7
  go_wp2
  go_returns
  exact ⟨rfl, unhide FF⟩
end Go.Proofs.Ytbonlonkienhaaa
