/-
  Decode, with where a record's members lie. Conditions: none beyond those of the parameters' types.
-/
import Derived.Test.YtfbnkeflgddcmaaCrg2
import Derived.Deep.CutBlock
namespace Go.Proofs.Ytfbnkeflgddcmaa
open Go.RowKit
set_option linter.unusedVariables false

theorem IRow.shape0 {w : World} {v : Value} {l : List Int} (h : IRow w v l) : ∃ (g : Option Nat) (c : Nat), v = .slice (g.map (fun g => (⟨g, 0, none⟩ : Addr))) l.length c := by
  rcases h.2 with ⟨e, e2⟩ | ⟨g, cap, cur, e, _⟩
  · refine ⟨none, 0, ?_⟩
    rw [show (ivals l).length = l.length from by simp [ivals]] at e2
    rw [e, e2]; rfl
  · rw [show (ivals l).length = l.length from by simp [ivals]] at e
    exact ⟨some g, cap, e⟩
/-- What is told: a record, and an error. -/
def DeS (w : World) (kd : Int) (gr : Int) (gen : Int) (l : List Int) (pt : Int) (off : Int) (E : Int) (e : Ending) (w' : World) : Prop :=
  ∃ (og : Option Nat) (k : Nat), e = .returned (.tuple #[.agg #[.int .i64 kd, .int .i64 gr, .int .i64 gen, .slice (Option.map (fun g => (⟨g, 0, none⟩ : Addr)) og) l.length k, .int .i64 pt, .int .i64 off], .int .i64 E]) ∧ IAt w' (Option.map (fun g => (⟨g, 0, none⟩ : Addr)) og) l ∧ Below w.heap.size w w'
def DeQ (w : World) (kd : Int) (gr : Int) (gen : Int) (l : List Int) (pt : Int) (off : Int) (n : Nat) (e : Ending) (w' : World) : Prop :=
  (n ≠ 0 → DeS w 0 0 0 [] 0 0 n e w') ∧ (n = 0 → isR ⟨kd, gr, gen, l, pt, off⟩ = false → DeS w 0 0 0 [] 0 0 1 e w') ∧ (n = 0 → isR ⟨kd, gr, gen, l, pt, off⟩ = true → DeS w kd gr gen l pt off 0 e w')
theorem DeS.zero {w w' : World} {E : Int} (hb : Below w.heap.size w w') : DeS w 0 0 0 [] 0 0 E (.returned (.tuple #[.agg #[.int .i64 0, .int .i64 0, .int .i64 0, .slice none 0 0, .int .i64 0, .int .i64 0], .int .i64 E])) w' :=
  ⟨none, 0, rfl, (fun i hi => by cases hi), hb⟩
set_option maxHeartbeats 8000000 in
theorem decodeS_any {w : World} {a : Option Addr} {cap : Nat} {t : List Nat} {kd : Int} {gr : Int} {gen : Int} {l : List Int} {pt : Int} {off : Int} {s1 s2 s3 s4 s5 s6 : Rst} {n : Nat} (ht : LAt w a t) (hn : a = none → cap = 0) (hc : t.length ≤ cap) (hl : t.length ≤ 140737488355328) (e1 : rI t ⟨0, 0⟩ = (kd, s1)) (e2 : rI t s1 = (gr, s2)) (e3 : rI t s2 = (gen, s3)) (e4 : rI t s3 = (pt, s4)) (e5 : rI t s4 = (off, s5)) (e6 : rL t s5 = (l, s6)) (e7 : rE t s6 = n) :
    Calls Try.prog 28 #[.slice a t.length cap] w fun e w' => DeQ w kd gr gen l pt off n e w' := by
  have B0 := hide ((Below.refl w.heap.size w).alloc (Nat.le_refl _) (.cells #[.int .i64 0, .int .i64 0, .int .i64 0, .slice none 0 0, .int .i64 0, .int .i64 0] 29))
  have Z0 := hide (heap_new w (.cells #[.int .i64 0, .int .i64 0, .int .i64 0, .slice none 0 0, .int .i64 0, .int .i64 0] 29))
  have K0 := hide (reader_c (w0 := w.alloc (.cells #[.int .i64 0, .int .i64 0, .int .i64 0, .slice none 0 0, .int .i64 0, .int .i64 0] 29)) (Below.refl _ _) a cap t (ht.later (unhide B0)) hn hl)
  clear ht hn hc hl
  have E1 := hide e1
  have E2 := hide e2
  have E3 := hide e3
  have E4 := hide e4
  have E5 := hide e5
  have E6 := hide e6
  have E7 := hide e7
  clear e1 e2 e3 e4 e5 e6 e7
  generalize t.length = tl at *
  go_enter Try.func28, Try.ntmps28
  go_wp2_with fail
  refine (unhide K0).mono ?_
  rintro e y0 ⟨b, a', cap', rfl, c0, _, _, _⟩
  have C0 := hide c0
  clear c0 K0
  go_wp2_with fail
  refine (rint_c (unhide C0) (unhide E1)).mono ?_
  rintro e y1 ⟨rfl, c1⟩
  have C1 := hide c1
  clear c1 C0
  go_wp2_with fail
  refine (rint_c (unhide C1) (unhide E2)).mono ?_
  rintro e y2 ⟨rfl, c2⟩
  have C2 := hide c2
  clear c2 C1
  go_wp2_with fail
  refine (rint_c (unhide C2) (unhide E3)).mono ?_
  rintro e y3 ⟨rfl, c3⟩
  have C3 := hide c3
  clear c3 C2
  go_wp2_with fail
  refine (rint_c (unhide C3) (unhide E4)).mono ?_
  rintro e y4 ⟨rfl, c4⟩
  have C4 := hide c4
  clear c4 C3
  go_wp2_with fail
  refine (rint_c (unhide C4) (unhide E5)).mono ?_
  rintro e y5 ⟨rfl, c5⟩
  have C5 := hide c5
  clear c5 C4
  go_wp2_with fail
  refine (rints_c (unhide C5) (unhide E6)).mono ?_
  rintro e y6 ⟨v, rfl, r6, n6, c6⟩
  have hsh := IRow.shape0 r6
  obtain ⟨av, kv, rfl, q6, _, q8, q9, _⟩ := r6.parts
  obtain ⟨og, ogk, hog⟩ := hsh
  injection hog with hog1 hog2 hog3
  have HOG := hide hog1
  clear hog1 hog2 hog3
  have hll : l.length ≤ maxLen := by omega
  have NB : Hid (∀ x, av = some x → w.heap.size < x.block) := hide (fun x hx => by
    have h1 := n6 x.block (by rw [hx]; rfl)
    have h2 := (unhide C5).below.size
    simp at h2
    omega)
  have NR : Hid (∀ x, av = some x → x.block ≠ b) := hide (fun x hx e => by
    have h1 := n6 x.block (by rw [hx]; rfl)
    have h2 := (unhide C5).rd.lt
    omega)
  have Q6 := hide q6
  have C6 := hide c6
  clear c6 r6 n6 q6 q8 q9 C5
  have CB := hide ((unhide C6).alloc (.cells #[.int .i64 kd, .int .i64 gr, .int .i64 gen, .slice av l.length kv, .int .i64 pt, .int .i64 off] 29))
  have HB6 := hide (heap_new y6 (.cells #[.int .i64 kd, .int .i64 gr, .int .i64 gen, .slice av l.length kv, .int .i64 pt, .int .i64 off] 29))
  have QA := hide ((unhide Q6).later ((Below.refl y6.heap.size y6).alloc (Nat.le_refl _) (.cells #[.int .i64 kd, .int .i64 gr, .int .i64 gen, .slice av l.length kv, .int .i64 pt, .int .i64 off] 29)))
  have KE := hide (end_any _ (unhide CB).rd)
  rw [unhide E7] at KE
  have ZZ0 := hide (below_keep (unhide CB).below (unhide Z0))
  have BW0 := hide ((unhide B0).trans ((unhide CB).below.mono (unhide B0).size))
  clear C6 CB B0 Z0 Q6 NR
  go_wp2_with fail
  generalize y6.alloc (.cells #[.int .i64 kd, .int .i64 gr, .int .i64 gen, .slice av l.length kv, .int .i64 pt, .int .i64 off] 29) = Y6 at *
  generalize y6.heap.size = bx at *
  refine (unhide KE).mono ?_
  rintro e y9 ⟨rfl, qd, hq⟩
  have T7 : Hid (Touch (fun _ => False) Y6 y9) := hide (by rw [hq]; exact ⟨rfl, rfl, rfl, Nat.le_refl _, fun _ _ _ => rfl⟩)
  have ZZ := hide ((unhide T7).keep (unhide ZZ0) (fun h => h))
  have BX := hide ((unhide T7).keep (unhide HB6) (fun h => h))
  have QA7 := hide ((unhide QA).keep (unhide T7) (fun _ _ _ h => h))
  have BW := hide (below_touch (unhide BW0) (unhide T7) (unhide BW0).size (fun _ h => h.elim))
  clear hq T7 ZZ0 BW0 HB6 QA KE
  have z0 := cell_of (unhide ZZ) 0
  have z1 := cell_of (unhide ZZ) 1
  have z2 := cell_of (unhide ZZ) 2
  have z3 := cell_of (unhide ZZ) 3
  have z4 := cell_of (unhide ZZ) 4
  have z5 := cell_of (unhide ZZ) 5
  simp at z0 z1 z2 z3 z4 z5
  have zf := fun j => frozen_of (unhide ZZ) j
  have k0 := cell_of (unhide BX) 0
  have k1 := cell_of (unhide BX) 1
  have k2 := cell_of (unhide BX) 2
  have k3 := cell_of (unhide BX) 3
  have k4 := cell_of (unhide BX) 4
  have k5 := cell_of (unhide BX) 5
  simp at k0 k1 k2 k3 k4 k5
  generalize hzb : w.heap.size = zb at *
  by_cases hn0 : n = 0
  · subst hn0
    have KC := isRec_any y9 ⟨kd, gr, gen, l, pt, off⟩ av kv (unhide QA7) hll
    have HKC := hide KC
    unfold rxA at HKC
    simp only at HKC
    clear KC
    cases hC : isR ⟨kd, gr, gen, l, pt, off⟩ with
    | false =>
      rw [hC] at HKC
      go_wp2_with (go_at_call 40; refine (unhide HKC).mono ?_; rintro e ya ⟨rfl, b8⟩; have ZZ1 := hide (below_keep b8 (unhide ZZ)); have BX1 := hide (below_keep b8 (unhide BX)); have QA8 := hide ((unhide QA7).later b8); have BW1 := hide ((unhide BW).trans (b8.mono (by have := (unhide BW).size; omega))); have g0 := cell_of (unhide ZZ1) 0; have g1 := cell_of (unhide ZZ1) 1; have g2 := cell_of (unhide ZZ1) 2; have g3 := cell_of (unhide ZZ1) 3; have g4 := cell_of (unhide ZZ1) 4; have g5 := cell_of (unhide ZZ1) 5; have gf := fun j => frozen_of (unhide ZZ1) j; have j0 := cell_of (unhide BX1) 0; have j1 := cell_of (unhide BX1) 1; have j2 := cell_of (unhide BX1) 2; have j3 := cell_of (unhide BX1) 3; have j4 := cell_of (unhide BX1) 4; have j5 := cell_of (unhide BX1) 5; simp at g0 g1 g2 g3 g4 g5 j0 j1 j2 j3 j4 j5; clear b8)
      obtain ⟨S1, S2⟩ := stR (.int .i64 0) (.int .i64 0) (.int .i64 0) (.slice none 0 0) (.int .i64 0) (.int .i64 0) (unhide ZZ1)
      generalize ((((((ya.setCell ⟨zb, 0, none⟩ (.int .i64 0)).setCell ⟨zb, 1, none⟩ (.int .i64 0)).setCell ⟨zb, 2, none⟩ (.int .i64 0)).setCell ⟨zb, 3, none⟩ (.slice none 0 0)).setCell ⟨zb, 4, none⟩ (.int .i64 0)).setCell ⟨zb, 5, none⟩ (.int .i64 0)) = Y at *
      have w0 := cell_of S1 0
      have w1 := cell_of S1 1
      have w2 := cell_of S1 2
      have w3 := cell_of S1 3
      have w4 := cell_of S1 4
      have w5 := cell_of S1 5
      simp at w0 w1 w2 w3 w4 w5
      refine bodyPost_ret (by simp [results, Try.results28, go_sem, w0, w1, w2, w3, w4, w5]; try rfl) rfl ?_
      have bb : Below w.heap.size w Y := by
        rw [hzb]
        exact below_touch (unhide BW1) S2 (by have := (unhide BW1).size; omega) (fun k hk => by omega)
      exact ⟨fun h => absurd rfl h, fun _ _ => DeS.zero bb, fun _ h => absurd (hC.symm.trans h) (by simp)⟩
    | true =>
      rw [hC] at HKC
      go_wp2_with (go_at_call 40; refine (unhide HKC).mono ?_; rintro e ya ⟨rfl, b8⟩; have ZZ1 := hide (below_keep b8 (unhide ZZ)); have BX1 := hide (below_keep b8 (unhide BX)); have QA8 := hide ((unhide QA7).later b8); have BW1 := hide ((unhide BW).trans (b8.mono (by have := (unhide BW).size; omega))); have g0 := cell_of (unhide ZZ1) 0; have g1 := cell_of (unhide ZZ1) 1; have g2 := cell_of (unhide ZZ1) 2; have g3 := cell_of (unhide ZZ1) 3; have g4 := cell_of (unhide ZZ1) 4; have g5 := cell_of (unhide ZZ1) 5; have gf := fun j => frozen_of (unhide ZZ1) j; have j0 := cell_of (unhide BX1) 0; have j1 := cell_of (unhide BX1) 1; have j2 := cell_of (unhide BX1) 2; have j3 := cell_of (unhide BX1) 3; have j4 := cell_of (unhide BX1) 4; have j5 := cell_of (unhide BX1) 5; simp at g0 g1 g2 g3 g4 g5 j0 j1 j2 j3 j4 j5; clear b8)
      obtain ⟨S1, S2⟩ := stR (.int .i64 kd) (.int .i64 gr) (.int .i64 gen) (.slice av l.length kv) (.int .i64 pt) (.int .i64 off) (unhide ZZ1)
      generalize ((((((ya.setCell ⟨zb, 0, none⟩ (.int .i64 kd)).setCell ⟨zb, 1, none⟩ (.int .i64 gr)).setCell ⟨zb, 2, none⟩ (.int .i64 gen)).setCell ⟨zb, 3, none⟩ (.slice av l.length kv)).setCell ⟨zb, 4, none⟩ (.int .i64 pt)).setCell ⟨zb, 5, none⟩ (.int .i64 off)) = Y at *
      have w0 := cell_of S1 0
      have w1 := cell_of S1 1
      have w2 := cell_of S1 2
      have w3 := cell_of S1 3
      have w4 := cell_of S1 4
      have w5 := cell_of S1 5
      simp at w0 w1 w2 w3 w4 w5
      refine bodyPost_ret (by simp [results, Try.results28, go_sem, w0, w1, w2, w3, w4, w5]; try rfl) rfl ?_
      have bb : Below w.heap.size w Y := by
        rw [hzb]
        exact below_touch (unhide BW1) S2 (by have := (unhide BW1).size; omega) (fun k hk => by omega)
      exact ⟨fun h => absurd rfl h, fun _ h => absurd (hC.symm.trans h) (by simp), fun _ _ => ⟨og, kv, by rw [← unhide HOG], by rw [← unhide HOG]; exact (unhide QA8).keep S2 (fun h0 x hx e => by have := unhide NB x hx; omega), bb⟩⟩
  · have hnz : ((n : Int) == 0) = false := by simp; omega
    have hnz2 : ¬ (n : Int) = 0 := by omega
    go_wp2
    obtain ⟨S1, S2⟩ := stR (.int .i64 0) (.int .i64 0) (.int .i64 0) (.slice none 0 0) (.int .i64 0) (.int .i64 0) (unhide ZZ)
    generalize ((((((y9.setCell ⟨zb, 0, none⟩ (.int .i64 0)).setCell ⟨zb, 1, none⟩ (.int .i64 0)).setCell ⟨zb, 2, none⟩ (.int .i64 0)).setCell ⟨zb, 3, none⟩ (.slice none 0 0)).setCell ⟨zb, 4, none⟩ (.int .i64 0)).setCell ⟨zb, 5, none⟩ (.int .i64 0)) = Y at *
    have w0 := cell_of S1 0
    have w1 := cell_of S1 1
    have w2 := cell_of S1 2
    have w3 := cell_of S1 3
    have w4 := cell_of S1 4
    have w5 := cell_of S1 5
    simp at w0 w1 w2 w3 w4 w5
    refine bodyPost_ret (by simp [results, Try.results28, go_sem, w0, w1, w2, w3, w4, w5]; try rfl) rfl ?_
    have bb : Below w.heap.size w Y := by
      rw [hzb]
      exact below_touch (unhide BW) S2 (by have := (unhide BW).size; omega) (fun k hk => by omega)
    exact ⟨fun _ => DeS.zero bb, fun h => absurd h hn0, fun h => absurd h hn0⟩
theorem decS_enc {r : Rx} (hf : RFit r) (hC : isR r = true) {w : World} {a : Option Addr} {cap : Nat} (h1 : LAt w a (encR r)) (h2 : a = none → cap = 0) (h3 : (encR r).length ≤ cap) (hl : (encR r).length ≤ 140737488355328) :
    Calls Try.prog 28 #[.slice a (encR r).length cap] w fun e w' => DeS w r.kd r.gr r.gen r.l r.pt r.off 0 e w' := by
  have hl5 := isR_few hC
  obtain ⟨T, hT⟩ : ∃ T, T = encR r := ⟨_, rfl⟩
  have d0 : T.drop 0 = enc (zig r.kd) ++ (enc (zig r.gr) ++ (enc (zig r.gen) ++ (enc (zig r.pt) ++ (enc (zig r.off) ++ ((enc r.l.length ++ encL r.l) ++ (([] : List Nat))))))) := by rw [hT]; simp [encR]
  have e1 := rI_enc (t := T) (s := ⟨0, 0⟩) rfl d0 hf.kd.1 hf.kd.2
  have d1 := drop_next d0
  have e2 := rI_enc (t := T) (s := ⟨0 + (enc (zig r.kd)).length, 0⟩) rfl d1 hf.gr.1 hf.gr.2
  have d2 := drop_next d1
  have e3 := rI_enc (t := T) (s := ⟨0 + (enc (zig r.kd)).length + (enc (zig r.gr)).length, 0⟩) rfl d2 hf.gen.1 hf.gen.2
  have d3 := drop_next d2
  have e4 := rI_enc (t := T) (s := ⟨0 + (enc (zig r.kd)).length + (enc (zig r.gr)).length + (enc (zig r.gen)).length, 0⟩) rfl d3 hf.pt.1 hf.pt.2
  have d4 := drop_next d3
  have e5 := rI_enc (t := T) (s := ⟨0 + (enc (zig r.kd)).length + (enc (zig r.gr)).length + (enc (zig r.gen)).length + (enc (zig r.pt)).length, 0⟩) rfl d4 hf.off.1 hf.off.2
  have d5 := drop_next d4
  have e6 := rL_enc (t := T) (s := ⟨0 + (enc (zig r.kd)).length + (enc (zig r.gr)).length + (enc (zig r.gen)).length + (enc (zig r.pt)).length + (enc (zig r.off)).length, 0⟩) rfl d5 (by omega) hf.l
  have d6 := drop_next d5
  have e7 : rE T ⟨0 + (enc (zig r.kd)).length + (enc (zig r.gr)).length + (enc (zig r.gen)).length + (enc (zig r.pt)).length + (enc (zig r.off)).length + ((enc r.l.length ++ encL r.l)).length, 0⟩ = 0 := by
    unfold rE
    rw [if_neg]
    simp only [true_and, Nat.not_lt]
    rw [hT]
    simp only [encR, List.length_append]
    omega
  rw [← hT] at h1 h3 hl ⊢
  refine (decodeS_any h1 h2 h3 hl e1 e2 e3 e4 e5 e6 e7).mono fun e w' h => ?_
  exact h.2.2 rfl (by rw [← hC])
end Go.Proofs.Ytfbnkeflgddcmaa
