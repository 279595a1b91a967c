/-
  NetCuts' walk: between two that are cut nothing comes through, and all else does. Conditions: the packet and the pairs are such.
-/
import Derived.Test.YtgpfkedihgoohaaPr11
namespace Go.Proofs.Ytgpfkedihgoohaa
open Go.RowKit
set_option linter.unusedVariables false

/-- Between two pairs. -/
structure CutsIn (w wr : World) (nb : Nat) (p : Pk) (D : Cts) : Prop where
  ex : ∃ R, ND w wr nb R [] D ∧ ¬ R w.heap.size ∧ BoxP wr w.heap.size p
theorem tk_one (q : Pa) (D : Cts) : tkB [q] D 0 = (!isC D q.fr q.to) ∧ tkP [q] D 0 = (if isC D q.fr q.to then ⟨0, 0, []⟩ else q) ∧ ([q] : List Pa).eraseIdx (rnd 0 ([q] : List Pa).length) = [] := ⟨rfl, rfl, rfl⟩
theorem isC_swapC (D : Cts) (x y a b : Int) (c : Bool) (h : isC D a b = c) : isC (cutE D x y) a b = (c || (decide (x ≠ y) && (decide (x = a ∧ y = b) || decide (x = b ∧ y = a)))) := by rw [isC_cut, h]
set_option maxRecDepth 100000 in
set_option maxHeartbeats 8000000 in
theorem netCuts_walk (a0 : Option Addr) (cap0 : Nat) (xs : List (Int × Int)) (p : Pk) (w : World) (hr : RowsAt prC 2 w a0 xs) (hxs : ∀ x ∈ xs, InR x.1 ∧ InR x.2) (hl : xs.length ≤ 9000000000000) (hp : PIn w p) :
    Calls Try.prog 5 #[.slice a0 xs.length cap0, pkV p] w fun e w' => e = .returned (.bool true) ∧ Below w.heap.size w w' := by
  have HR := hide hr
  have HX := hide hxs
  have HP := hide hp
  have BA : Hid (Below w.heap.size w (w.alloc (.cells #[.int .i64 p.fr, .int .i64 p.to, .slice p.a p.l.length p.c] 33))) := (Below.refl _ _).alloc (Nat.le_refl _) _
  have BX : Hid (BoxP (w.alloc (.cells #[.int .i64 p.fr, .int .i64 p.to, .slice p.a p.l.length p.c] 33)) w.heap.size p) := BoxP.new w p
  have HSZ : Hid ((w.alloc (.cells #[.int .i64 p.fr, .int .i64 p.to, .slice p.a p.l.length p.c] 33)).heap.size = w.heap.size + 1) := by show _ = _; simp
  have hpf := hp.in_.fr
  have hpt := hp.in_.to
  simp only at hpf hpt
  clear hr hxs hp
  simp only [pkV, pkS]
  go_enter Try.func5, Try.ntmps5
  go_wp2_with fail
  generalize w.alloc (.cells #[.int .i64 p.fr, .int .i64 p.to, .slice p.a p.l.length p.c] 33) = W at *
  refine (new11_any W).mono ?_
  rintro e w1 ⟨rfl, rfl⟩
  have N1 := hide (ND.new W)
  have hA1 : Below W.heap.size W (W.alloc (.cells #[.slice none 0 0, .map none] 56)) := (Below.refl _ _).alloc (Nat.le_refl _) _
  have X1 := hide ((unhide BX).later hA1)
  have B1 := hide ((unhide BA).trans (hA1.mono (unhide BA).size))
  clear hA1 BX BA
  generalize W.alloc (.cells #[.slice none 0 0, .map none] 56) = w1 at *
  rw [unhide HSZ] at N1 ⊢
  have AW := hide (awake11_any w1)
  go_wp2_with fail
  refine (unhide AW).mono ?_
  rintro e w2 ⟨rfl, b2⟩
  have FA : Hid (CutsIn w w2 (w.heap.size + 1) p (Ck xs 0)) := by
    refine ⟨(· = w.heap.size + 1), ⟨(unhide N1).net.later b2, fun j hj => by omega, (unhide B1).trans (b2.mono (unhide B1).size)⟩, fun h => by simp only at h; omega, (unhide X1).later b2⟩
  clear N1 X1 B1 AW b2 HSZ
  go_wp2_with fail
  go_loopw [6, 20] (fun pc pl wr => ∃ k : Nat, k ≤ xs.length ∧ pc = .bool (isC (Ck xs k) p.fr p.to) ∧ pl = .int .i64 (k : Int) ∧ CutsIn w wr (w.heap.size + 1) p (Ck xs k)) (fun _ pl _ => xs.length - (intOf pl).toNat)
  case atStart => exact ⟨0, Nat.zero_le _, rfl, rfl, unhide FA⟩
  case round =>
    obtain ⟨k, hk, rfl, rfl, hC⟩ := hrel
    clear FA
    by_cases hkl : k < xs.length
    · have hkl' : (k : Int) < (xs.length : Int) := by omega
      have hz : (0 : Int) ≤ (k : Int) := by omega
      have hw1 : IntKind.i64.wrap ((k : Int) + 1) = (k : Int) + 1 := wrap_low (by omega) (by omega)
      obtain ⟨R, nd, hR, bx⟩ := hC.ex
      obtain ⟨b, off, rfl, hbl, hcell⟩ := (unhide HR) k hkl
      have y0 : wr.cell? ⟨b, off + k * 2, none⟩ = some (.int .i64 xs[k].1) := (nd.below.cell (p := ⟨b, off + k * 2 + 0, none⟩) hbl).trans (hcell 0 (by omega))
      have y1 : wr.cell? ⟨b, off + k * 2 + 1, none⟩ = some (.int .i64 xs[k].2) := (nd.below.cell (p := ⟨b, off + k * 2 + 1, none⟩) hbl).trans (hcell 1 (by omega))
      obtain ⟨hx1, hx2⟩ := (unhide HX) _ (List.getElem_mem hkl)
      have CS := hide (Ck_step hkl)
      have hA : Below wr.heap.size wr (wr.alloc (.cells #[.int .i64 xs[k].1, .int .i64 xs[k].2] 46)) := (Below.refl _ _).alloc (Nat.le_refl _) _
      have CT := hide (cut_any (nd.later hA).net hx1 hx2 (by have := Ck_len xs k; unfold maxLen; omega))
      unfold CutPost at CT
      have ND2 := hide (nd.later hA)
      have BX2 := hide (bx.later hA)
      have GP : Hid ((wr.alloc (.cells #[.int .i64 xs[k].1, .int .i64 xs[k].2] 46)).heap[wr.heap.size]? = some (.cells #[.int .i64 xs[k].1, .int .i64 xs[k].2] 46)) := heap_new _ _
      have HRR := hide hR
      have HLT := hide nd.net.lt
      clear nd hA hC bx hR hcell
      generalize xs[k] = x at *
      have E1 := fun w => eql_pair hx1 hx2 hpf hpt w
      have E2 := fun w => eql_pair hx1 hx2 hpt hpf w
      obtain ⟨xa, xb⟩ := x
      dsimp only at *
      have u0 : (wr.alloc (.cells #[.int .i64 xa, .int .i64 xb] 46)).cell? ⟨wr.heap.size, 0, none⟩ = some (.int .i64 xa) := by rw [cell_of (unhide GP)]; rfl
      have u1 : (wr.alloc (.cells #[.int .i64 xa, .int .i64 xb] 46)).cell? ⟨wr.heap.size, 1, none⟩ = some (.int .i64 xb) := by rw [cell_of (unhide GP)]; rfl
      obtain ⟨cc, hcc⟩ : ∃ cc, isC (Ck xs k) p.fr p.to = cc := ⟨_, rfl⟩
      have NX := hide (isC_swapC (Ck xs k) xa xb p.fr p.to cc hcc)
      rw [hcc]
      clear hcc
      rw [unhide CS] at CT NX
      clear CS
      go_wp2_with fail
      generalize wr.alloc (.cells #[.int .i64 xa, .int .i64 xb] 46) = wr2 at *
      refine (unhide CT).mono ?_
      rintro e w3 ⟨rfl, np⟩
      obtain ⟨R3, ND3, hn3, t3⟩ := (unhide ND2).post np
      have bx3 := (unhide BX2).keep t3 (unhide HRR)
      have hwr : ¬ R wr.heap.size := fun h => by
        have := unhide HLT _ h
        omega
      have gp3 := t3.keep (unhide GP) hwr
      have FA2 : Hid (CutsIn w w3 (w.heap.size + 1) p (Ck xs (k + 1))) := by
        refine ⟨R3, ND3, fun h => ?_, bx3⟩
        rcases hn3 _ h with e | e
        · exact unhide HRR e
        · have := lt_of_heap (unhide BX2); omega
      obtain ⟨k0, k1, k2⟩ := bx3.cells
      have v0 : w3.cell? ⟨wr.heap.size, 0, none⟩ = some (.int .i64 xa) := by rw [cell_of gp3]; rfl
      have v1 : w3.cell? ⟨wr.heap.size, 1, none⟩ = some (.int .i64 xb) := by rw [cell_of gp3]; rfl
      clear np ND3 hn3 t3 bx3 hwr gp3 CT ND2 BX2 GP HRR u0 u1 y0 y1 HR HX
      have FIN : Hid (∀ cb : Bool, cb = (cc || (decide (xa ≠ xb) && (decide (xa = p.fr ∧ xb = p.to) || decide (xa = p.to ∧ xb = p.fr)))) → ∃ k' : Nat, k' ≤ xs.length ∧ Value.bool cb = .bool (isC (Ck xs k') p.fr p.to) ∧ Value.int .i64 ((k : Int) + 1) = .int .i64 (k' : Int) ∧ CutsIn w w3 (w.heap.size + 1) p (Ck xs k')) := fun cb h => ⟨k + 1, by omega, by rw [unhide NX, h], by simp, unhide FA2⟩
      clear NX FA2 HLT
      cases cc
      · by_cases hab : xa = xb
        · subst hab
          go_wp2
          go_roundw
          case rel => exact unhide FIN _ (by simp)
          case measure => simp [intOf]; omega
        · have hne1 : (xa != xb) = true := by simpa using hab
          by_cases h1 : xa = p.fr ∧ xb = p.to
          · have h1d : decide (xa = p.fr ∧ xb = p.to) = true := decide_eq_true h1
            rw [h1d] at FIN
            simp only [h1d] at E1
            clear h1 h1d
            go_wp2
            go_roundw
            case rel => exact unhide FIN _ (by simp [hab])
            case measure => simp [intOf]; omega
          · have h1d : decide (xa = p.fr ∧ xb = p.to) = false := decide_eq_false h1
            rw [h1d] at FIN
            simp only [h1d] at E1
            clear h1 h1d
            generalize decide (xa = p.to ∧ xb = p.fr) = e2 at *
            go_wp2
            go_roundw
            case rel => exact unhide FIN _ (by simp [hab])
            case measure => simp [intOf]; omega
      · go_wp2
        go_roundw
        case rel => exact unhide FIN _ (by simp)
        case measure => simp [intOf]; omega
    · obtain rfl : k = xs.length := by omega
      have hkl' : ¬ (xs.length : Int) < (xs.length : Int) := by omega
      obtain ⟨R, nd, hR, bx⟩ := hC.ex
      clear hC HR HX
      generalize Ck xs xs.length = D at *
      obtain ⟨cc, hcc⟩ : ∃ cc, isC D p.fr p.to = cc := ⟨_, rfl⟩
      rw [hcc]
      have HCC := hide hcc
      clear hcc
      have LO := hide (lown_any ((unhide HP).later nd.below))
      simp only [pkV, pkS] at LO
      obtain ⟨k0, k1, k2⟩ := bx.cells
      have NDH := hide nd
      have HRR := hide hR
      have BX := hide bx
      clear nd hR bx
      go_wp2_with fail
      refine (unhide LO).mono ?_
      rintro e w3 ⟨p', rfl, ha, pr, nw, b3⟩
      have ND3 := hide ((unhide NDH).later b3)
      have BX3 := hide ((unhide BX).later b3)
      have SD := hide (send_any (unhide ND3).net pr.pin)
      rw [ha] at SD
      clear pr nw b3 ha LO NDH BX k0 k1 k2
      simp only [pkV, pkS] at SD ⊢
      go_wp2_with fail
      refine (unhide SD).mono ?_
      rintro e w4 ⟨rfl, np⟩
      obtain ⟨R4, ND4, hn4, t4⟩ := (unhide ND3).post np
      have BX4 := hide ((unhide BX3).keep t4 (unhide HRR))
      have HR4 : Hid (¬ R4 w.heap.size) := fun h => by
        rcases hn4 _ h with e | e
        · exact unhide HRR e
        · have := lt_of_heap (unhide BX3); omega
      have TK : Hid (Calls Try.prog 15 #[.pointer (some ⟨w.heap.size + 1, 0, none⟩), .int .i64 0] w4 fun e w' => ∃ p', e = .returned (.tuple #[pkV p', .bool (!cc)]) ∧ p'.abs = (if cc = true then ⟨0, 0, []⟩ else p.abs) ∧ PRow w' p' ∧ NPost w4 (w.heap.size + 1) R4 [] D w') := by
        have h := take_any ND4.net 0 (by unfold InR; omega)
        obtain ⟨e1, e2, e3⟩ := tk_one p.abs D
        have hs : sendE [] p.abs = [p.abs] := rfl
        unfold TakePost at h
        rw [hs, e1, e2, e3] at h
        simp only [unhide HCC] at h
        exact h
      have NDH4 := hide ND4
      clear np ND4 hn4 t4 SD ND3 BX3 HRR HCC
      go_wp2_with fail
      refine (unhide TK).mono ?_
      rintro e w5 ⟨p2, rfl, ha2, pr2, np⟩
      obtain ⟨R5, ND5, hn5, t5⟩ := (unhide NDH4).post np
      have hA : Below w5.heap.size w5 (w5.alloc (.cells #[.int .i64 p2.fr, .int .i64 p2.to, .slice p2.a p2.l.length p2.c] 33)) := (Below.refl _ _).alloc (Nat.le_refl _) _
      have bx5 := (unhide BX4).keep t5 (unhide HR4)
      have BX6 := hide (bx5.later hA)
      have BQ6 : Hid (BoxP (w5.alloc (.cells #[.int .i64 p2.fr, .int .i64 p2.to, .slice p2.a p2.l.length p2.c] 33)) w5.heap.size p2) := BoxP.new w5 p2
      have ND6 := hide (ND5.later hA)
      have PR6 := hide (pr2.later hA)
      have HR6 : Hid (¬ R5 w.heap.size ∧ ¬ R5 w5.heap.size) := ⟨fun h => by
        rcases hn5 _ h with e | e
        · exact unhide HR4 e
        · have := lt_of_heap (unhide BX4); omega, fun h => by have := ND5.net.lt _ h; omega⟩
      have HQB : Hid (w.heap.size < w5.heap.size) := lt_of_heap bx5
      clear np ND5 hn5 t5 hA bx5 TK NDH4 BX4 HR4 pr2
      simp only [pkV, pkS]
      have CT := hide (Count_any (unhide ND6).net)
      cases cc
      · simp only [Bool.false_eq_true, if_false] at ha2
        have SM := hide (same11_any ((unhide HP).later (unhide ND6).below) (unhide PR6).pin ha2.symm)
        simp only [pkV, pkS] at SM
        obtain ⟨k0, k1, k2⟩ := (unhide BX6).cells
        obtain ⟨q0, q1, q2⟩ := (unhide BQ6).cells
        go_wp2_with fail
        generalize w5.alloc (.cells #[.int .i64 p2.fr, .int .i64 p2.to, .slice p2.a p2.l.length p2.c] 33) = w6 at *
        generalize w5.heap.size = qb at *
        refine (unhide SM).mono ?_
        rintro e w7 ⟨rfl, b7⟩
        have ND7 := hide ((unhide ND6).later b7)
        have BX7 := hide ((unhide BX6).later b7)
        have BQ7 := hide ((unhide BQ6).later b7)
        have HR7 := HR6
        have CT7 := hide (Count_any (unhide ND7).net)
        clear b7 SM ND6 BX6 BQ6 PR6 HR6 CT k0 k1 k2 q0 q1 q2 ha2
        go_wp2_with fail
        refine (unhide CT7).mono ?_
        rintro e w7' ⟨rfl, rfl⟩
        clear CT7
        have HL := hide (heal_any (unhide ND7).net)
        unfold CutPost at HL
        go_wp2_with fail
        refine (unhide HL).mono ?_
        rintro e w8 ⟨rfl, np8⟩
        obtain ⟨R8, ND8, hn8, t8⟩ := (unhide ND7).post np8
        have BX8 := hide ((unhide BX7).keep t8 (unhide HR7).1)
        have BQ8 := hide ((unhide BQ7).keep t8 (unhide HR7).2)
        have HR8 : Hid (¬ R8 w.heap.size ∧ ¬ R8 qb) := by
          refine ⟨fun h => ?_, fun h => ?_⟩
          · rcases hn8 _ h with e | e
            · exact (unhide HR7).1 e
            · have := lt_of_heap (unhide BX7); omega
          · rcases hn8 _ h with e | e
            · exact (unhide HR7).2 e
            · have := lt_of_heap (unhide BQ7); omega
        have NDH8 := hide ND8
        clear np8 ND8 hn8 t8 HL ND7 BX7 BQ7 HR7
        have LO := hide (lown_any ((unhide HP).later (unhide NDH8).below))
        simp only [pkV, pkS] at LO
        obtain ⟨k0, k1, k2⟩ := (unhide BX8).cells
        go_wp2_with fail
        refine (unhide LO).mono ?_
        rintro e w9 ⟨pc, rfl, ha9, pr9, nw9, b9⟩
        have ND9 := hide ((unhide NDH8).later b9)
        have BX9 := hide ((unhide BX8).later b9)
        have BQ9 := hide ((unhide BQ8).later b9)
        have SD := hide (send_any (unhide ND9).net pr9.pin)
        rw [ha9] at SD
        clear pr9 nw9 b9 ha9 LO NDH8 BX8 BQ8 k0 k1 k2
        simp only [pkV, pkS] at SD ⊢
        go_wp2_with fail
        refine (unhide SD).mono ?_
        rintro e w10 ⟨rfl, np⟩
        obtain ⟨R10, ND10, hn10, t10⟩ := (unhide ND9).post np
        have BX10 := hide ((unhide BX9).keep t10 (unhide HR8).1)
        have BQ10 := hide ((unhide BQ9).keep t10 (unhide HR8).2)
        have HR10 : Hid (¬ R10 w.heap.size ∧ ¬ R10 qb) := by
          refine ⟨fun h => ?_, fun h => ?_⟩
          · rcases hn10 _ h with e | e
            · exact (unhide HR8).1 e
            · have := lt_of_heap (unhide BX9); omega
          · rcases hn10 _ h with e | e
            · exact (unhide HR8).2 e
            · have := lt_of_heap (unhide BQ9); omega
        have TK : Hid (Calls Try.prog 15 #[.pointer (some ⟨w.heap.size + 1, 0, none⟩), .int .i64 0] w10 fun e w' => ∃ p', e = .returned (.tuple #[pkV p', .bool true]) ∧ p'.abs = p.abs ∧ PRow w' p' ∧ NPost w10 (w.heap.size + 1) R10 [] [] w') := take_any ND10.net 0 (by unfold InR; omega)
        have NDH10 := hide ND10
        clear np ND10 hn10 t10 SD ND9 BX9 BQ9 HR8
        go_wp2_with fail
        refine (unhide TK).mono ?_
        rintro e w11 ⟨p3, rfl, ha3, pr3, np⟩
        obtain ⟨R11, ND11, hn11, t11⟩ := (unhide NDH10).post np
        have bx11 := (unhide BX10).keep t11 (unhide HR10).1
        have bq11 := (unhide BQ10).keep t11 (unhide HR10).2
        have hb11 := ND11.below
        have hqb : w.heap.size < qb := unhide HQB
        obtain ⟨z0, z1, z2⟩ := bq11.cells
        have f0 : w11.frozen? ⟨qb, 0, none⟩ = false := frozen_of bq11 0
        have f1 : w11.frozen? ⟨qb, 1, none⟩ = false := frozen_of bq11 1
        have f2 : w11.frozen? ⟨qb, 2, none⟩ = false := frozen_of bq11 2
        have nq : ¬ qb = w.heap.size := by omega
        have nq2 : ¬ w.heap.size = qb := by omega
        have T12 : Touch (· = qb) w11 (((w11.setCell ⟨qb, 0, none⟩ (.int .i64 p3.fr)).setCell ⟨qb, 1, none⟩ (.int .i64 p3.to)).setCell ⟨qb, 2, none⟩ (.slice p3.a p3.l.length p3.c)) := (((Touch.refl (· = qb) w11).setCell (p := ⟨qb, 0, none⟩) rfl _).setCell (p := ⟨qb, 1, none⟩) rfl _).setCell (p := ⟨qb, 2, none⟩) rfl _
        have BQ12 : Hid (BoxP (((w11.setCell ⟨qb, 0, none⟩ (.int .i64 p3.fr)).setCell ⟨qb, 1, none⟩ (.int .i64 p3.to)).setCell ⟨qb, 2, none⟩ (.slice p3.a p3.l.length p3.c)) qb p3) := set3 bq11 _ _ _
        have BX12 := hide (bx11.keep T12 nq2)
        have PR12 := hide (pr3.keep T12 (fun j hj e => by
          obtain ⟨cs, hc⟩ := pr3.row.heap hj
          rw [e, bq11] at hc
          exact absurd (Obj.cells.inj (Option.some.inj hc)).2.1 (by decide)))
        have B12 : Hid (Below w.heap.size w (((w11.setCell ⟨qb, 0, none⟩ (.int .i64 p3.fr)).setCell ⟨qb, 1, none⟩ (.int .i64 p3.to)).setCell ⟨qb, 2, none⟩ (.slice p3.a p3.l.length p3.c))) := below_touch hb11 T12 hb11.size (fun j hj => by omega)
        have SM := hide (same11_any ((unhide HP).later (unhide B12)) (unhide PR12).pin ha3.symm)
        obtain ⟨k0, k1, k2⟩ := bx11.cells
        obtain ⟨q0, q1, q2⟩ := (unhide BX12).cells
        obtain ⟨y0, y1, y2⟩ := (unhide BQ12).cells
        clear np ND11 hn11 t11 bx11 bq11 T12 BQ12 BX12 PR12 TK NDH10 BX10 BQ10 HR10 pr3 ha3 hb11
        simp only [pkV, pkS] at SM ⊢
        go_wp2_with fail
        generalize ((w11.setCell ⟨qb, 0, none⟩ (.int .i64 p3.fr)).setCell ⟨qb, 1, none⟩ (.int .i64 p3.to)).setCell ⟨qb, 2, none⟩ (.slice p3.a p3.l.length p3.c) = w12 at *
        refine (unhide SM).mono ?_
        rintro e w13 ⟨rfl, b13⟩
        have BB := hide ((unhide B12).trans (b13.mono (unhide B12).size))
        clear SM b13 B12
        go_wp2
        go_returns
        exact ⟨rfl, unhide BB⟩
      · simp only [if_true] at ha2
        obtain ⟨fr2, to2, a2, c2, l2⟩ := p2
        simp only [Pk.abs, Pa.mk.injEq] at ha2
        obtain ⟨rfl, rfl, rfl⟩ := ha2
        obtain ⟨q0, q1, q2⟩ := (unhide BQ6).cells
        simp only [List.length_nil] at *
        go_wp2_with fail
        generalize w5.alloc (.cells #[.int .i64 0, .int .i64 0, .slice a2 0 c2] 33) = w6 at *
        generalize w5.heap.size = qb at *
        refine (unhide CT).mono ?_
        rintro e w7 ⟨rfl, rfl⟩
        have ND7 := ND6
        have BX7 := BX6
        have BQ7 := BQ6
        have HR7 := HR6
        clear ND6 BX6 BQ6 PR6 HR6 CT q0 q1 q2
        have HL := hide (heal_any (unhide ND7).net)
        unfold CutPost at HL
        go_wp2_with fail
        refine (unhide HL).mono ?_
        rintro e w8 ⟨rfl, np8⟩
        obtain ⟨R8, ND8, hn8, t8⟩ := (unhide ND7).post np8
        have BX8 := hide ((unhide BX7).keep t8 (unhide HR7).1)
        have BQ8 := hide ((unhide BQ7).keep t8 (unhide HR7).2)
        have HR8 : Hid (¬ R8 w.heap.size ∧ ¬ R8 qb) := by
          refine ⟨fun h => ?_, fun h => ?_⟩
          · rcases hn8 _ h with e | e
            · exact (unhide HR7).1 e
            · have := lt_of_heap (unhide BX7); omega
          · rcases hn8 _ h with e | e
            · exact (unhide HR7).2 e
            · have := lt_of_heap (unhide BQ7); omega
        have NDH8 := hide ND8
        clear np8 ND8 hn8 t8 HL ND7 BX7 BQ7 HR7
        have LO := hide (lown_any ((unhide HP).later (unhide NDH8).below))
        simp only [pkV, pkS] at LO
        obtain ⟨k0, k1, k2⟩ := (unhide BX8).cells
        go_wp2_with fail
        refine (unhide LO).mono ?_
        rintro e w9 ⟨pc, rfl, ha9, pr9, nw9, b9⟩
        have ND9 := hide ((unhide NDH8).later b9)
        have BX9 := hide ((unhide BX8).later b9)
        have BQ9 := hide ((unhide BQ8).later b9)
        have SD := hide (send_any (unhide ND9).net pr9.pin)
        rw [ha9] at SD
        clear pr9 nw9 b9 ha9 LO NDH8 BX8 BQ8 k0 k1 k2
        simp only [pkV, pkS] at SD ⊢
        go_wp2_with fail
        refine (unhide SD).mono ?_
        rintro e w10 ⟨rfl, np⟩
        obtain ⟨R10, ND10, hn10, t10⟩ := (unhide ND9).post np
        have BX10 := hide ((unhide BX9).keep t10 (unhide HR8).1)
        have BQ10 := hide ((unhide BQ9).keep t10 (unhide HR8).2)
        have HR10 : Hid (¬ R10 w.heap.size ∧ ¬ R10 qb) := by
          refine ⟨fun h => ?_, fun h => ?_⟩
          · rcases hn10 _ h with e | e
            · exact (unhide HR8).1 e
            · have := lt_of_heap (unhide BX9); omega
          · rcases hn10 _ h with e | e
            · exact (unhide HR8).2 e
            · have := lt_of_heap (unhide BQ9); omega
        have TK : Hid (Calls Try.prog 15 #[.pointer (some ⟨w.heap.size + 1, 0, none⟩), .int .i64 0] w10 fun e w' => ∃ p', e = .returned (.tuple #[pkV p', .bool true]) ∧ p'.abs = p.abs ∧ PRow w' p' ∧ NPost w10 (w.heap.size + 1) R10 [] [] w') := take_any ND10.net 0 (by unfold InR; omega)
        have NDH10 := hide ND10
        clear np ND10 hn10 t10 SD ND9 BX9 BQ9 HR8
        go_wp2_with fail
        refine (unhide TK).mono ?_
        rintro e w11 ⟨p3, rfl, ha3, pr3, np⟩
        obtain ⟨R11, ND11, hn11, t11⟩ := (unhide NDH10).post np
        have bx11 := (unhide BX10).keep t11 (unhide HR10).1
        have bq11 := (unhide BQ10).keep t11 (unhide HR10).2
        have hb11 := ND11.below
        have hqb : w.heap.size < qb := unhide HQB
        obtain ⟨z0, z1, z2⟩ := bq11.cells
        have f0 : w11.frozen? ⟨qb, 0, none⟩ = false := frozen_of bq11 0
        have f1 : w11.frozen? ⟨qb, 1, none⟩ = false := frozen_of bq11 1
        have f2 : w11.frozen? ⟨qb, 2, none⟩ = false := frozen_of bq11 2
        have nq : ¬ qb = w.heap.size := by omega
        have nq2 : ¬ w.heap.size = qb := by omega
        have T12 : Touch (· = qb) w11 (((w11.setCell ⟨qb, 0, none⟩ (.int .i64 p3.fr)).setCell ⟨qb, 1, none⟩ (.int .i64 p3.to)).setCell ⟨qb, 2, none⟩ (.slice p3.a p3.l.length p3.c)) := (((Touch.refl (· = qb) w11).setCell (p := ⟨qb, 0, none⟩) rfl _).setCell (p := ⟨qb, 1, none⟩) rfl _).setCell (p := ⟨qb, 2, none⟩) rfl _
        have BQ12 : Hid (BoxP (((w11.setCell ⟨qb, 0, none⟩ (.int .i64 p3.fr)).setCell ⟨qb, 1, none⟩ (.int .i64 p3.to)).setCell ⟨qb, 2, none⟩ (.slice p3.a p3.l.length p3.c)) qb p3) := set3 bq11 _ _ _
        have BX12 := hide (bx11.keep T12 nq2)
        have PR12 := hide (pr3.keep T12 (fun j hj e => by
          obtain ⟨cs, hc⟩ := pr3.row.heap hj
          rw [e, bq11] at hc
          exact absurd (Obj.cells.inj (Option.some.inj hc)).2.1 (by decide)))
        have B12 : Hid (Below w.heap.size w (((w11.setCell ⟨qb, 0, none⟩ (.int .i64 p3.fr)).setCell ⟨qb, 1, none⟩ (.int .i64 p3.to)).setCell ⟨qb, 2, none⟩ (.slice p3.a p3.l.length p3.c))) := below_touch hb11 T12 hb11.size (fun j hj => by omega)
        have SM := hide (same11_any ((unhide HP).later (unhide B12)) (unhide PR12).pin ha3.symm)
        obtain ⟨k0, k1, k2⟩ := bx11.cells
        obtain ⟨q0, q1, q2⟩ := (unhide BX12).cells
        obtain ⟨y0, y1, y2⟩ := (unhide BQ12).cells
        clear np ND11 hn11 t11 bx11 bq11 T12 BQ12 BX12 PR12 TK NDH10 BX10 BQ10 HR10 pr3 ha3 hb11
        simp only [pkV, pkS] at SM ⊢
        go_wp2_with fail
        generalize ((w11.setCell ⟨qb, 0, none⟩ (.int .i64 p3.fr)).setCell ⟨qb, 1, none⟩ (.int .i64 p3.to)).setCell ⟨qb, 2, none⟩ (.slice p3.a p3.l.length p3.c) = w12 at *
        refine (unhide SM).mono ?_
        rintro e w13 ⟨rfl, b13⟩
        have BB := hide ((unhide B12).trans (b13.mono (unhide B12).size))
        clear SM b13 B12
        go_wp2
        go_returns
        exact ⟨rfl, unhide BB⟩
end Go.Proofs.Ytgpfkedihgoohaa
