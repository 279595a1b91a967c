/-
  NetFull's walk: of more packets than may be in flight the first ones are. Conditions: the packet is one.
-/
import Derived.Test.YtgpfkedihgoohaaNetNoneWalk
namespace Go.Proofs.Ytgpfkedihgoohaa
open Go.RowKit
set_option linter.unusedVariables false

/-- The first n packets. -/
def Tp (to : Int) (l : List Nat) (n : Nat) : List Pa := (List.range n).map (fun j : Nat => (⟨(j : Int), to, l⟩ : Pa))
theorem Tp_len (to : Int) (l : List Nat) (n : Nat) : (Tp to l n).length = n := by simp [Tp]
theorem Tp_at (to : Int) (l : List Nat) {n j : Nat} (h : j < n) : (Tp to l n)[j]? = some ⟨(j : Int), to, l⟩ := by simp [Tp, h]
theorem Tp_send (to : Int) (l : List Nat) (i : Nat) : sendE (Tp to l (min i 256)) ⟨(i : Int), to, l⟩ = Tp to l (min (i + 1) 256) := by
  unfold sendE
  rw [Tp_len]
  by_cases h : i < 256
  · rw [if_pos (by omega), Nat.min_eq_left (by omega), Nat.min_eq_left (by omega)]
    simp [Tp, List.range_succ]
  · rw [if_neg (by omega), Nat.min_eq_right (by omega), Nat.min_eq_right (by omega)]
/-- Between two rounds. -/
structure FullAt (w wr : World) (nb : Nat) (to : Int) (a : Option Addr) (c : Nat) (l : List Nat) (i : Nat) : Prop where
  ex : ∃ R x, InR x ∧ BoxP wr w.heap.size ⟨x, to, a, c, l⟩ ∧ ND w wr nb R (Tp to l (min i 256)) [] ∧ ¬ R w.heap.size
set_option maxRecDepth 100000 in
set_option maxHeartbeats 4000000 in
theorem netFull_walk (m : Int) (p : Pk) (w : World) (hm : 0 ≤ m) (hm2 : m < 65536) (hp : PIn w p) : Calls Try.prog 7 #[.int .u16 m, pkV p] w fun e w' => e = .returned (.bool true) ∧ Below w.heap.size w w' := by
  obtain ⟨fr, to, a, c, l⟩ := p
  obtain ⟨k, hk, hk6⟩ : ∃ k : Nat, Int.tmod m 600 = (k : Int) ∧ k < 600 := by
    refine ⟨(m % 600).toNat, ?_, ?_⟩
    · rw [Int.tmod_eq_emod_of_nonneg hm]; omega
    · omega
  have hkw : IntKind.u16.wrap (k : Int) = (k : Int) := by
    simp [IntKind.wrap, IntKind.bits, IntKind.signed]; omega
  have hkw2 : IntKind.i64.wrap (k : Int) = (k : Int) := wrap_low (by omega) (by omega)
  have BA : Hid (Below w.heap.size w (w.alloc (.cells #[.int .i64 fr, .int .i64 to, .slice a l.length c] 33))) := (Below.refl _ _).alloc (Nat.le_refl _) _
  have BX : Hid (BoxP (w.alloc (.cells #[.int .i64 fr, .int .i64 to, .slice a l.length c] 33)) w.heap.size ⟨fr, to, a, c, l⟩) := BoxP.new w ⟨fr, to, a, c, l⟩
  have HP := hide hp
  have hsz : (w.alloc (.cells #[.int .i64 fr, .int .i64 to, .slice a l.length c] 33)).heap.size = w.heap.size + 1 := by simp
  have HSZ := hide hsz
  clear hsz hp
  simp only [pkV, pkS]
  generalize hlm : l.length = ln at *
  have HLM := hide hlm
  clear hlm
  go_enter Try.func7, Try.ntmps7
  go_wp2_with fail
  generalize w.alloc (.cells #[.int .i64 fr, .int .i64 to, .slice a ln c] 33) = W at *
  refine (new11_any W).mono ?_
  rintro e w1 ⟨rfl, rfl⟩
  have N1 := hide (ND.new W)
  have hA1 : Below W.heap.size W (W.alloc (.cells #[.slice none 0 0, .map none] 56)) := (Below.refl _ _).alloc (Nat.le_refl _) _
  have X1 := hide ((unhide BX).later hA1)
  have B1 := hide ((unhide BA).trans (hA1.mono (unhide BA).size))
  clear hA1 BX BA
  generalize W.alloc (.cells #[.slice none 0 0, .map none] 56) = w1 at *
  rw [unhide HSZ] at N1 ⊢
  have AW := hide (awake11_any w1)
  go_wp2_with fail
  refine (unhide AW).mono ?_
  rintro e w2 ⟨rfl, b2⟩
  have FA : Hid (FullAt w w2 (w.heap.size + 1) to a c l 0) := by
    refine ⟨(· = w.heap.size + 1), fr, (unhide HP).in_.fr, (unhide X1).later b2, ⟨(unhide N1).net.later b2, fun j hj => by omega, (unhide B1).trans (b2.mono (unhide B1).size)⟩, fun h => by simp only at h; omega⟩
  clear N1 X1 B1 AW b2 HSZ
  go_wp2_with fail
  go_loopw [7] (fun pl wr => ∃ i : Nat, i ≤ k ∧ pl = .int .i64 (i : Int) ∧ FullAt w wr (w.heap.size + 1) to a c l i) (fun pl _ => k - (intOf pl).toNat)
  case atStart => exact ⟨0, Nat.zero_le _, rfl, unhide FA⟩
  case round =>
    obtain ⟨i, hik, rfl, hF⟩ := hrel
    clear FA
    by_cases hi : i < k
    · have hi' : (i : Int) < (k : Int) := by omega
      obtain ⟨R, x, hx, bx, nd, hR⟩ := hF.ex
      obtain ⟨y0, y1, y2⟩ := bx.cells
      simp only at y0 y1 y2
      rw [unhide HLM] at y2
      have f0 : wr.frozen? ⟨w.heap.size, 0, none⟩ = false := frozen_of bx 0
      have ts := touch_set wr w.heap.size 0 (.int .i64 (i : Int))
      have BX2 : Hid (BoxP (wr.setCell ⟨w.heap.size, 0, none⟩ (.int .i64 (i : Int))) w.heap.size ⟨(i : Int), to, a, c, l⟩) := by
        have := heap_set bx 0 (.int .i64 (i : Int))
        simp only [List.setIfInBounds_toArray, List.set_cons_zero] at this
        exact this
      have ND2 : Hid (ND w (wr.setCell ⟨w.heap.size, 0, none⟩ (.int .i64 (i : Int))) (w.heap.size + 1) R (Tp to l (min i 256)) []) := nd.keep ts (fun j hj e => hR (by rw [← e]; exact hj)) (fun j hj => by omega)
      have PI2 : PIn (wr.setCell ⟨w.heap.size, 0, none⟩ (.int .i64 (i : Int))) ⟨(i : Int), to, a, c, l⟩ := ⟨(unhide HP).at_.later (unhide ND2).below, (unhide HP).none, ⟨⟨by show _ ≤ (i : Int); omega, by show (i : Int) ≤ _; omega⟩, (unhide HP).in_.to, (unhide HP).in_.l⟩⟩
      have LO := hide (lown_any PI2)
      have HR := hide hR
      have hw1 : IntKind.i64.wrap ((i : Int) + 1) = (i : Int) + 1 := wrap_low (by omega) (by omega)
      have z1 : (wr.setCell ⟨w.heap.size, 0, none⟩ (.int .i64 (i : Int))).cell? ⟨w.heap.size, 0, none⟩ = some (.int .i64 (i : Int)) := by rw [cell_of (unhide BX2)]; rfl
      have z2 : (wr.setCell ⟨w.heap.size, 0, none⟩ (.int .i64 (i : Int))).cell? ⟨w.heap.size, 1, none⟩ = some (.int .i64 to) := by rw [cell_of (unhide BX2)]; rfl
      have z3 : (wr.setCell ⟨w.heap.size, 0, none⟩ (.int .i64 (i : Int))).cell? ⟨w.heap.size, 2, none⟩ = some (.slice a ln c) := by rw [cell_of (unhide BX2), ← unhide HLM]; rfl
      clear hF bx nd ts PI2 hR
      simp only [pkV, pkS] at LO
      rw [unhide HLM] at LO
      go_wp2_with fail
      generalize wr.setCell ⟨w.heap.size, 0, none⟩ (.int .i64 (i : Int)) = wr2 at *
      refine (unhide LO).mono ?_
      rintro e w3 ⟨p', rfl, ha, pr, nw, b3⟩
      have BX3 := hide ((unhide BX2).later b3)
      have ND3 := hide ((unhide ND2).later b3)
      have SD := hide (send_any (unhide ND3).net pr.pin)
      rw [ha] at SD
      unfold SendPost at SD
      rw [Tp_len, Tp_send] at SD
      have hde : decide (min i 256 < 256) = decide ((i : Int) < 256) := decide_eq_decide.2 (by omega)
      rw [hde] at SD
      clear hde b3 nw pr ha LO BX2 ND2 z1 z2 z3 y0 y1 y2 f0
      go_wp2_with fail
      refine (unhide SD).mono ?_
      rintro e w4 ⟨rfl, np⟩
      obtain ⟨R4, ND4, hn4, t4⟩ := (unhide ND3).post np
      have FA2 : Hid (FullAt w w4 (w.heap.size + 1) to a c l (i + 1)) := by
        refine ⟨R4, (i : Int), ⟨by omega, by omega⟩, (unhide BX3).keep t4 (unhide HR), ND4, fun h => ?_⟩
        rcases hn4 _ h with e | e
        · exact unhide HR e
        · have := lt_of_heap (unhide BX3); omega
      clear np ND4 hn4 t4 SD ND3 BX3 HR
      by_cases h3 : (i : Int) < 256
      · rw [decide_eq_true h3]
        go_wp2
        go_roundw
        case rel => exact ⟨i + 1, by omega, by go_num, unhide FA2⟩
        case measure => simp [intOf]; omega
      · rw [decide_eq_false h3]
        go_wp2
        go_roundw
        case rel => exact ⟨i + 1, by omega, by go_num, unhide FA2⟩
        case measure => simp [intOf]; omega
    · obtain rfl : i = k := by omega
      have hik' : ¬ (i : Int) < (i : Int) := by omega
      obtain ⟨R, x, hx, bx, nd, hR⟩ := hF.ex
      have CT := hide (Count_any nd.net)
      rw [Tp_len] at CT
      by_cases h2 : i < 256
      · rw [Nat.min_eq_left (by omega)] at CT nd
        have h2' : (i : Int) < 256 := by omega
        have h2'' : ¬ (256 : Int) < (i : Int) := by omega
        have h2a : (i : Int) ≤ 256 := by omega
        have CP := hide (copy_any nd.net 0 (by unfold InR; omega))
        unfold CopyPost at CP
        rw [Tp_len] at CP
        have hde : (decide (0 < i) && decide (i < 256)) = decide (0 < (i : Int)) := by rw [decide_eq_true h2, Bool.and_true]; exact decide_eq_decide.2 (by omega)
        rw [hde] at CP
        have NDH := hide nd
        clear hF bx nd hR hde hx
        go_wp2_with fail
        refine (unhide CT).mono ?_
        rintro e w3 ⟨rfl, rfl⟩
        clear CT
        go_wp2_with fail
        refine (unhide CP).mono ?_
        rintro e w4 ⟨rfl, np⟩
        obtain ⟨R4, ND4, _, _⟩ := (unhide NDH).post np
        have B4 := hide ND4.below
        clear np ND4 CP NDH
        go_wp2
        go_returns
        exact ⟨by simp, unhide B4⟩
      · rw [Nat.min_eq_right (by omega)] at CT nd
        have h2' : ¬ (i : Int) < 256 := by omega
        have h2'' : (256 : Int) ≤ (i : Int) := by omega
        have hmin : (if (256 : Int) < (i : Int) then (256 : Int) else (i : Int)) = 256 := by split <;> omega
        have PK := hide (peek_any nd.net 255 (by unfold InR; omega))
        have NDH := hide nd
        clear hF bx nd hR hx
        go_wp2_with fail
        refine (unhide CT).mono ?_
        rintro e w3 ⟨rfl, rfl⟩
        clear CT
        go_wp2_with fail
        refine (unhide PK).mono ?_
        rintro e w4 ⟨p', rfl, ha, pr, nw, b4⟩
        rw [Tp_len]
        have hpe : pkE (Tp to l 256) 255 = ⟨255, to, l⟩ := by
          unfold pkE
          rw [Tp_len, show rnd 255 256 = 255 from by decide, Tp_at to l (by omega)]
          rfl
        rw [hpe] at ha
        obtain ⟨fr', to', a', c', l'⟩ := p'
        simp only [Pk.abs, Pa.mk.injEq] at ha
        obtain ⟨rfl, rfl, rfl⟩ := ha
        have hA : Below w4.heap.size w4 (w4.alloc (.cells #[.int .i64 255, .int .i64 to', .slice a' l'.length c'] 33)) := (Below.refl _ _).alloc (Nat.le_refl _) _
        have ND5 := hide ((unhide NDH).later (b4.trans (hA.mono b4.size)))
        have x0 : (w4.alloc (.cells #[.int .i64 255, .int .i64 to', .slice a' l'.length c'] 33)).cell? ⟨w4.heap.size, 0, none⟩ = some (.int .i64 255) := by rw [cell_of (heap_new _ _)]; rfl
        have CP := hide (copy_any (unhide ND5).net 3 (by unfold InR; omega))
        unfold CopyPost at CP
        rw [Tp_len, show cpE (Tp to' l' 256) 3 = Tp to' l' 256 from by
          unfold cpE
          rw [Tp_len, show rnd 3 256 = 3 from by decide, Tp_at to' l' (by omega)]
          show sendE _ _ = _
          unfold sendE
          rw [Tp_len, if_neg (by omega)], show (decide (0 < 256) && decide (256 < 256)) = false from by decide] at CP
        clear pr nw b4 hA PK NDH hpe
        simp only [pkV, pkS]
        generalize l'.length = ln' at *
        go_wp2_with fail
        generalize w4.alloc (.cells #[.int .i64 255, .int .i64 to', .slice a' ln' c'] 33) = w5 at *
        refine (unhide CP).mono ?_
        rintro e w6 ⟨rfl, np6⟩
        obtain ⟨R6, ND6, _, _⟩ := (unhide ND5).post np6
        have DP := hide (drop_any ND6.net 3 (by unfold InR; omega))
        unfold DropPost at DP
        rw [Tp_len, show rnd 3 256 = 3 from by decide, show decide (0 < 256) = true from by decide] at DP
        have NDH6 := hide ND6
        clear np6 ND6 CP ND5
        go_wp2_with fail
        refine (unhide DP).mono ?_
        rintro e w7 ⟨rfl, np7⟩
        obtain ⟨R7, ND7, _, _⟩ := (unhide NDH6).post np7
        obtain ⟨Q, hQ⟩ : ∃ Q, Q = (Tp to' l' 256).eraseIdx 3 := ⟨_, rfl⟩
        have hQl : Q.length = 255 := by rw [hQ, List.length_eraseIdx, if_pos (by rw [Tp_len]; omega), Tp_len]
        rw [← hQ] at ND7
        have CP2 := hide (copy_any ND7.net 3 (by unfold InR; omega))
        unfold CopyPost at CP2
        have hC2 : (cpE Q 3).length = 256 := by
          unfold cpE
          rw [hQl, show rnd 3 255 = 3 from by decide, List.getElem?_eq_getElem (by omega)]
          show (sendE _ _).length = _
          unfold sendE
          rw [if_pos (by omega), List.length_append, List.length_singleton]
          omega
        rw [hQl, show (decide (0 < 255) && decide (255 < 256)) = true from by decide] at CP2
        have NDH7 := hide ND7
        have HC2 := hide hC2
        clear np7 ND7 DP NDH6 hQ hQl hC2
        go_wp2_with fail
        refine (unhide CP2).mono ?_
        rintro e w8 ⟨rfl, np8⟩
        obtain ⟨R8, ND8, _, _⟩ := (unhide NDH7).post np8
        have CT8 := hide (Count_any ND8.net)
        rw [unhide HC2] at CT8
        have B8 := hide ND8.below
        clear np8 ND8 CP2 NDH7 HC2
        go_wp2_with fail
        refine (unhide CT8).mono ?_
        rintro e w9 ⟨rfl, rfl⟩
        go_wp2
        go_returns
        exact ⟨rfl, unhide B8⟩
end Go.Proofs.Ytgpfkedihgoohaa
