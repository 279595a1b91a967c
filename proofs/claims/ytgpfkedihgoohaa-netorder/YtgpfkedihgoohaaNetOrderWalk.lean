/-
  NetOrder's walk: what is sent is taken in its order, or against it. Conditions: the packets are packets.
-/
import Derived.Test.YtgpfkedihgoohaaLd11
namespace Go.Proofs.Ytgpfkedihgoohaa
open Go.RowKit
set_option linter.unusedVariables false

/-- What is left behind i rounds. -/
def Rest (back : Bool) (ps : List Pk) (i : Nat) : List Pa := if back = true then Fst ps (ps.length - i) else (ps.drop i).map Pk.abs
def kOf (back : Bool) : Int := if back = true then -1 else 0
def wOf (back : Bool) (n i : Nat) : Nat := if back = true then n - 1 - i else i
theorem wOf_lt {back : Bool} {n i : Nat} (h : i < n) : wOf back n i < n := by unfold wOf; split <;> omega
theorem Rest_len {back : Bool} {ps : List Pk} {i : Nat} (h : i ≤ ps.length) : (Rest back ps i).length = ps.length - i := by
  unfold Rest
  split
  · exact Fst_len (by omega)
  · simp
theorem Rest_zero (back : Bool) (ps : List Pk) : Rest back ps 0 = ps.map Pk.abs := by
  unfold Rest
  split
  · exact Fst_all ps
  · simp
theorem Rest_at {back : Bool} {ps : List Pk} {i : Nat} (h : i < ps.length) : (Rest back ps i)[rnd (kOf back) (ps.length - i)]? = some (ps[wOf back ps.length i]'(wOf_lt h)).abs := by
  cases back
  · have e : rnd (kOf false) (ps.length - i) = 0 := by unfold rnd kOf; simp
    rw [e]
    unfold Rest
    simp [wOf, h]
  · have e : rnd (kOf true) (ps.length - i) = ps.length - 1 - i := by
      unfold rnd kOf
      have : (-1 : Int) % ((ps.length - i : Nat) : Int) = ((ps.length - i : Nat) : Int) - 1 := by
        rw [show (-1 : Int) = (((ps.length - i : Nat) : Int) - 1) + (-1) * ((ps.length - i : Nat) : Int) by omega, Int.add_mul_emod_self_right]
        exact Int.emod_eq_of_lt (by omega) (by omega)
      simp only [if_true]
      rw [this]
      omega
    rw [e]
    unfold Rest Fst
    simp only [if_true]
    rw [List.getElem?_map, List.getElem?_take, if_pos (by omega), List.getElem?_eq_getElem (by omega)]
    rfl
theorem Rest_erase {back : Bool} {ps : List Pk} {i : Nat} (h : i < ps.length) : (Rest back ps i).eraseIdx (rnd (kOf back) (ps.length - i)) = Rest back ps (i + 1) := by
  cases back
  · have e : rnd (kOf false) (ps.length - i) = 0 := by unfold rnd kOf; simp
    rw [e]
    unfold Rest
    simp
  · have e : rnd (kOf true) (ps.length - i) = ps.length - 1 - i := by
      unfold rnd kOf
      have : (-1 : Int) % ((ps.length - i : Nat) : Int) = ((ps.length - i : Nat) : Int) - 1 := by
        rw [show (-1 : Int) = (((ps.length - i : Nat) : Int) - 1) + (-1) * ((ps.length - i : Nat) : Int) by omega, Int.add_mul_emod_self_right]
        exact Int.emod_eq_of_lt (by omega) (by omega)
      simp only [if_true]
      rw [this]
      omega
    rw [e]
    unfold Rest Fst
    simp only [if_true]
    rw [erase_map]
    congr 1
    have h2 : ps.length - i = (ps.length - 1 - i) + 1 := by omega
    rw [h2, List.take_add_one, List.getElem?_eq_getElem (by omega), show ps.length - (i + 1) = ps.length - 1 - i by omega]
    rw [List.eraseIdx_append_of_length_le (by simp; omega)]
    have h3 : (ps.take (ps.length - 1 - i)).length = ps.length - 1 - i := by simp; omega
    rw [h3, Nat.sub_self]
    simp
set_option maxRecDepth 100000 in
set_option maxHeartbeats 4000000 in
theorem netOrder_walk (a : Option Addr) (cap : Nat) (ps : List Pk) (back : Bool) (w : World) (hr : RowsAt pkC 3 w a ps) (hp : ∀ p ∈ ps, PIn w p) (hl : ps.length ≤ 4000000000000) :
    Calls Try.prog 4 #[.slice a ps.length cap, .bool back] w fun e w' => e = .returned (.bool true) ∧ Below w.heap.size w w' := by
  have HR := hide hr
  have HP := hide hp
  clear hr hp
  go_enter Try.func4, Try.ntmps4
  go_wp2_with fail
  refine (new11_any w).mono ?_
  rintro e w1 ⟨rfl, rfl⟩
  have N1 := hide (ND.new w)
  generalize w.alloc (.cells #[.slice none 0 0, .map none] 56) = w1 at *
  have AW := hide (awake11_any w1)
  go_wp2_with fail
  refine (unhide AW).mono ?_
  rintro e w2 ⟨rfl, b2⟩
  have N2 := hide ((unhide N1).later b2)
  clear N1 AW b2
  by_cases c1 : 256 < ps.length
  · have AW2 := hide (awake11_any w2)
    have END : Hid (∀ w', Below w2.heap.size w2 w' → Below w.heap.size w w') := fun w' h => (unhide N2).below.trans (h.mono (unhide N2).below.size)
    have c1' : (256 : Int) < (ps.length : Int) := by omega
    clear HR HP N2
    go_wp2_with fail
    refine (unhide AW2).mono ?_
    rintro e w3 ⟨rfl, b3⟩
    go_wp2
    go_returns
    exact ⟨rfl, unhide END _ b3⟩
  have c1' : ¬ (256 : Int) < (ps.length : Int) := by omega
  have hn2 : ps.length ≤ 256 := by omega
  go_wp2_with fail
  go_loopw [30] (fun pl wr => ∃ (k : Nat) (R : Nat → Prop), k ≤ ps.length ∧ pl = .int .i64 (k : Int) ∧ ND w wr w.heap.size R (Fst ps k) []) (fun pl _ => ps.length - (intOf pl).toNat)
  case atStart => exact ⟨0, _, Nat.zero_le _, rfl, unhide N2⟩
  case round =>
    obtain ⟨k, R, hk, rfl, nd⟩ := hrel
    clear N2
    by_cases hkl : k < ps.length
    · have hkl' : (k : Int) < (ps.length : Int) := by omega
      have hz : (0 : Int) ≤ (k : Int) := by omega
      have hw1 : IntKind.i64.wrap ((k : Int) + 1) = (k : Int) + 1 := wrap_low (by omega) (by omega)
      obtain ⟨b, off, rfl, y0, y1, y2⟩ := (unhide HR).pk nd.below hkl
      have PI := ((unhide HP) _ (List.getElem_mem hkl)).later nd.below
      have FS := hide (Fst_send hkl hn2)
      have hA : Below wr.heap.size wr (wr.alloc (.cells #[.int .i64 ps[k].fr, .int .i64 ps[k].to, .slice ps[k].a ps[k].l.length ps[k].c] 33)) := (Below.refl _ _).alloc (Nat.le_refl _) _
      have ND2 := hide (nd.later hA)
      have LO := hide (lown_any (PI.later hA))
      obtain ⟨x0, x1, x2⟩ := (BoxP.new wr ps[k]).cells
      clear nd hA PI
      generalize ps[k] = p at *
      obtain ⟨fr, to, a', c', l⟩ := p
      simp only [pkV, pkS] at *
      generalize l.length = ln at *
      go_wp2_with fail
      generalize wr.alloc (.cells #[.int .i64 fr, .int .i64 to, .slice a' ln c'] 33) = wr2 at *
      refine (unhide LO).mono ?_
      rintro e w3 ⟨p', rfl, ha, pr, nw, b3⟩
      have ND3 := hide ((unhide ND2).later b3)
      have SD := hide (send_any (unhide ND3).net pr.pin)
      rw [ha] at SD
      unfold SendPost at SD
      rw [unhide FS, Fst_len hk, decide_eq_true (show k < 256 by omega)] at SD
      clear b3 nw pr ha LO ND2 x0 x1 x2 y0 y1 y2 FS
      go_wp2_with fail
      refine (unhide SD).mono ?_
      rintro e w4 ⟨rfl, np⟩
      obtain ⟨R4, ND4, _, _⟩ := (unhide ND3).post np
      have N4 := hide ND4
      clear np ND4 SD ND3
      go_wp2
      go_roundw
      case rel => exact ⟨k + 1, R4, by omega, by go_num, unhide N4⟩
      case measure => simp [intOf]; omega
    · obtain rfl : k = ps.length := by omega
      have hkl' : ¬ (ps.length : Int) < (ps.length : Int) := by omega
      rw [Fst_all, ← Rest_zero back] at nd
      have N5 := hide nd
      clear nd
      go_wp2_with fail
      go_loopw [8] (fun pl wr => ∃ (i : Nat) (R : Nat → Prop), i ≤ ps.length ∧ pl = .int .i64 (i : Int) ∧ ND w wr w.heap.size R (Rest back ps i) []) (fun pl _ => ps.length - (intOf pl).toNat)
      case atStart => exact ⟨0, _, Nat.zero_le _, rfl, unhide N5⟩
      case round =>
        obtain ⟨i, R, hi, rfl, nd⟩ := hrel
        clear N5
        by_cases hil : i < ps.length
        · have hil' : (i : Int) < (ps.length : Int) := by omega
          have hz : (0 : Int) ≤ (i : Int) := by omega
          have hw1 : IntKind.i64.wrap ((i : Int) + 1) = (i : Int) + 1 := wrap_low (by omega) (by omega)
          obtain ⟨b, off, rfl, y0, y1, y2⟩ := (unhide HR).pk nd.below hil
          have hbl : b < wr.heap.size := lt_of_cell y0
          have PW := hide (((unhide HP) _ (List.getElem_mem (wOf_lt (back := back) hil))).later nd.below)
          have ND1 := hide nd
          have ny := (unhide HR).pk nd.below (wOf_lt (back := back) hil)
          have NY := hide ny
          have SK : Hid (∀ X, Below wr.heap.size wr X → X.cell? ⟨b, off + i * 3, none⟩ = some (.int .i64 ps[i].fr) ∧ X.cell? ⟨b, off + i * 3 + 1, none⟩ = some (.int .i64 ps[i].to) ∧ X.cell? ⟨b, off + i * 3 + 2, none⟩ = some (.slice ps[i].a ps[i].l.length ps[i].c)) := fun X hX => ⟨(hX.cell (p := ⟨b, off + i * 3, none⟩) hbl).trans y0, (hX.cell (p := ⟨b, off + i * 3 + 1, none⟩) hbl).trans y1, (hX.cell (p := ⟨b, off + i * 3 + 2, none⟩) hbl).trans y2⟩
          have TK : Hid (∀ X, Below wr.heap.size wr X → Calls Try.prog 15 #[.pointer (some ⟨w.heap.size, 0, none⟩), .int .i64 (kOf back)] X fun e w' => ∃ p', e = .returned (.tuple #[pkV p', .bool true]) ∧ p'.abs = (ps[wOf back ps.length i]'(wOf_lt hil)).abs ∧ PRow w' p' ∧ NPost X w.heap.size R (Rest back ps (i + 1)) [] w') := fun X hX => by
            have h := take_any (nd.net.later hX) (kOf back) (by unfold InR kOf; split <;> omega)
            have hrl := Rest_len (back := back) (ps := ps) (Nat.le_of_lt hil)
            have hra := Rest_at (back := back) hil
            unfold TakePost tkB tkP at h
            rw [hrl] at h
            rw [hra] at h
            rw [Rest_erase hil] at h
            exact h
          have PQ := hide ((unhide HP) _ (List.getElem_mem (wOf_lt (back := back) hil)))
          have HQ : Hid (back = false → ps[i] = ps[wOf back ps.length i]'(wOf_lt hil)) := fun h => by subst h; rfl
          generalize ps[wOf back ps.length i]'(wOf_lt hil) = q at *
          clear nd ny
          generalize ps[i] = p at *
          obtain ⟨fr, to, a', c', l⟩ := p
          simp only at *
          generalize hln : l.length = ln at *
          have HLN := hide hln
          clear hln
          go_wp2_with fail
          go_region_held3 (fun w' => w'.cell? ⟨b, off + i * 3, none⟩ = some (.int .i64 fr) ∧ w'.cell? ⟨b, off + i * 3 + 1, none⟩ = some (.int .i64 to) ∧ w'.cell? ⟨b, off + i * 3 + 2, none⟩ = some (.slice a' ln c')) (exact unhide SK _ (by go_grown)) (fail)
          have X1 : Hid (BoxP (wr.alloc (.cells #[.int .i64 fr, .int .i64 to, .slice a' ln c'] 33)).drew wr.heap.size ⟨fr, to, a', c', l⟩) := by
            have := BoxP.new wr ⟨fr, to, a', c', l⟩
            simp only at this
            rw [unhide HLN] at this
            exact this
          have B1 : Hid (Below wr.heap.size wr (wr.alloc (.cells #[.int .i64 fr, .int .i64 to, .slice a' ln c'] 33)).drew) := ((Below.refl _ _).alloc (Nat.le_refl _) _).drew
          generalize (wr.alloc (.cells #[.int .i64 fr, .int .i64 to, .slice a' ln c'] 33)).drew = W1 at *
          clear SK y0 y1 y2
          cases back
          · have hwi : wOf false ps.length i = i := rfl
            rw [unhide HQ rfl] at X1
            clear NY HQ HLN hwi
            simp only [kOf, Bool.false_eq_true, if_false] at TK
            go_wp2_with fail
            refine (unhide TK _ (unhide B1)).mono ?_
            rintro e w5 ⟨p', rfl, ha, pr, np⟩
            obtain ⟨R5, ND5, _, t5⟩ := ((unhide ND1).later (unhide B1)).post np
            have hA : Below w5.heap.size w5 (w5.alloc (.cells #[.int .i64 p'.fr, .int .i64 p'.to, .slice p'.a p'.l.length p'.c] 33)) := (Below.refl _ _).alloc (Nat.le_refl _) _
            have X5 := hide (((unhide X1).keep t5 (fun h => by have := (unhide ND1).net.lt _ h; omega)).later hA)
            have ND6 := hide (ND5.later hA)
            have PW5 : Hid (PIn (w5.alloc (.cells #[.int .i64 p'.fr, .int .i64 p'.to, .slice p'.a p'.l.length p'.c] 33)) q) := (unhide PQ).later (unhide ND6).below
            have SM := hide (same11_any (pr.later hA).pin (unhide PW5) ha)
            obtain ⟨z0, z1, z2⟩ := (BoxP.new w5 p').cells
            obtain ⟨x0, x1, x2⟩ := (unhide X5).cells
            clear hA ND5 t5 np pr PW5 TK PW ND1 B1 X1 ha
            simp only [pkV, pkS] at *
            go_wp2_with fail
            generalize w5.alloc (.cells #[.int .i64 p'.fr, .int .i64 p'.to, .slice p'.a p'.l.length p'.c] 33) = W5 at *
            refine (unhide SM).mono ?_
            rintro e w6 ⟨rfl, b6⟩
            have ND7 := hide ((unhide ND6).later b6)
            clear b6 SM ND6 X5 x0 x1 x2 z0 z1 z2
            go_wp2
            go_roundw
            case rel => exact ⟨i + 1, R5, by omega, by go_num, unhide ND7⟩
            case measure => simp [intOf]; omega
          · obtain ⟨b', off', e', y0, y1, y2⟩ := unhide NY
            cases e'
            obtain ⟨j, hj⟩ : ∃ j, j = ps.length - 1 - i := ⟨_, rfl⟩
            have hwj : wOf true ps.length i = j := by rw [hj]; rfl
            have hjl : j < ps.length := by omega
            have hj1 : IntKind.i64.wrap ((ps.length : Int) - 1) = (ps.length : Int) - 1 := wrap_low (by omega) (by omega)
            have hj2 : IntKind.i64.wrap ((ps.length : Int) - 1 - (i : Int)) = (j : Int) := by rw [wrap_low (by omega) (by omega)]; omega
            have hj3 : (j : Int) < (ps.length : Int) := by omega
            have hj4 : (0 : Int) ≤ (j : Int) := by omega
            rw [hwj] at y0 y1 y2
            obtain ⟨u0, u1, u2⟩ := (unhide X1).cells
            simp only at u0 u1 u2
            have hbw : b < W1.heap.size := Nat.lt_of_lt_of_le hbl (unhide B1).size
            have v0 := ((unhide B1).cell (p := ⟨b, off + j * 3, none⟩) hbl).trans y0
            have v1 := ((unhide B1).cell (p := ⟨b, off + j * 3 + 1, none⟩) hbl).trans y1
            have v2 := ((unhide B1).cell (p := ⟨b, off + j * 3 + 2, none⟩) hbl).trans y2
            have f0 : W1.frozen? ⟨wr.heap.size, 0, none⟩ = false := frozen_of (unhide X1) 0
            have f1 : W1.frozen? ⟨wr.heap.size, 1, none⟩ = false := frozen_of (unhide X1) 1
            have f2 : W1.frozen? ⟨wr.heap.size, 2, none⟩ = false := frozen_of (unhide X1) 2
            have hne : ¬ b = wr.heap.size := by omega
            have hne2 : ¬ wr.heap.size = b := by omega
            have FX : Hid (∀ V, V = (((W1.setCell ⟨wr.heap.size, 0, none⟩ (.int .i64 q.fr)).setCell ⟨wr.heap.size, 1, none⟩ (.int .i64 q.to)).setCell ⟨wr.heap.size, 2, none⟩ (.slice q.a q.l.length q.c)).drew → BoxP V wr.heap.size q ∧ Below wr.heap.size wr V) := fun V hV => by
              subst hV
              refine ⟨set3 (unhide X1) _ _ _, ((((unhide B1).setCell (p := ⟨wr.heap.size, 0, none⟩) (Nat.le_refl _) _).setCell (p := ⟨wr.heap.size, 1, none⟩) (Nat.le_refl _) _).setCell (p := ⟨wr.heap.size, 2, none⟩) (Nat.le_refl _) _).drew⟩
            clear y0 y1 y2 NY HQ X1 B1 hj hwj
            simp only [kOf, if_true] at TK
            go_wp2_with fail
            go_region
            obtain ⟨xb, bb⟩ := unhide FX _ rfl
            generalize (((W1.setCell ⟨wr.heap.size, 0, none⟩ (.int .i64 q.fr)).setCell ⟨wr.heap.size, 1, none⟩ (.int .i64 q.to)).setCell ⟨wr.heap.size, 2, none⟩ (.slice q.a q.l.length q.c)).drew = W2 at *
            have X1 := hide xb
            have B1 := hide bb
            clear xb bb FX f0 f1 f2 u0 u1 u2 v0 v1 v2
            go_wp2_with fail
            refine (unhide TK _ (unhide B1)).mono ?_
            rintro e w5 ⟨p', rfl, ha, pr, np⟩
            obtain ⟨R5, ND5, _, t5⟩ := ((unhide ND1).later (unhide B1)).post np
            have hA : Below w5.heap.size w5 (w5.alloc (.cells #[.int .i64 p'.fr, .int .i64 p'.to, .slice p'.a p'.l.length p'.c] 33)) := (Below.refl _ _).alloc (Nat.le_refl _) _
            have X5 := hide (((unhide X1).keep t5 (fun h => by have := (unhide ND1).net.lt _ h; omega)).later hA)
            have ND6 := hide (ND5.later hA)
            have PW5 : Hid (PIn (w5.alloc (.cells #[.int .i64 p'.fr, .int .i64 p'.to, .slice p'.a p'.l.length p'.c] 33)) q) := (unhide PQ).later (unhide ND6).below
            have SM := hide (same11_any (pr.later hA).pin (unhide PW5) ha)
            obtain ⟨z0, z1, z2⟩ := (BoxP.new w5 p').cells
            obtain ⟨x0, x1, x2⟩ := (unhide X5).cells
            clear hA ND5 t5 np pr PW5 TK PW ND1 B1 X1 ha
            simp only [pkV, pkS] at *
            go_wp2_with fail
            generalize w5.alloc (.cells #[.int .i64 p'.fr, .int .i64 p'.to, .slice p'.a p'.l.length p'.c] 33) = W5 at *
            refine (unhide SM).mono ?_
            rintro e w6 ⟨rfl, b6⟩
            have ND7 := hide ((unhide ND6).later b6)
            clear b6 SM ND6 X5 x0 x1 x2 z0 z1 z2
            go_wp2
            go_roundw
            case rel => exact ⟨i + 1, R5, by omega, by go_num, unhide ND7⟩
            case measure => simp [intOf]; omega
        · obtain rfl : i = ps.length := by omega
          have hil' : ¬ (ps.length : Int) < (ps.length : Int) := by omega
          have hre : Rest back ps ps.length = [] := List.eq_nil_of_length_eq_zero (by rw [Rest_len (Nat.le_refl _)]; omega)
          rw [hre] at nd
          have T0 := hide (take_none nd.net 0)
          have NDH := hide nd
          clear nd hre HR HP
          go_wp2_with fail
          refine (unhide T0).mono ?_
          rintro e w5 ⟨p', rfl, ha, pr, np⟩
          obtain ⟨R5, ND5, _, _⟩ := (unhide NDH).post np
          have hA : Below w5.heap.size w5 (w5.alloc (.cells #[.int .i64 p'.fr, .int .i64 p'.to, .slice p'.a p'.l.length p'.c] 33)) := (Below.refl _ _).alloc (Nat.le_refl _) _
          have ND6 := ND5.later hA
          have htb : tkB [] [] 0 = false := rfl
          rw [htb]
          have D6 := hide (drop_any ND6.net 0 (by unfold InR; omega))
          unfold DropPost at D6
          have NDH6 := hide ND6
          clear T0 NDH ND5 hA ND6 np pr ha htb
          simp only [pkV, pkS, List.length_nil, List.eraseIdx_nil, Nat.lt_irrefl, decide_false] at *
          go_wp2_with fail
          generalize w5.alloc (.cells #[.int .i64 p'.fr, .int .i64 p'.to, .slice p'.a p'.l.length p'.c] 33) = W5 at *
          refine (unhide D6).mono ?_
          rintro e w6 ⟨rfl, np⟩
          obtain ⟨R6, ND7, _, _⟩ := (unhide NDH6).post np
          have C7 := hide (copy_any ND7.net 0 (by unfold InR; omega))
          unfold CopyPost at C7
          have NDH7 := hide ND7
          clear D6 NDH6 ND7 np
          have hcp : cpE [] 0 = [] := rfl
          simp only [List.length_nil, Nat.lt_irrefl, decide_false, Bool.false_and, hcp] at C7
          clear hcp
          go_wp2_with fail
          refine (unhide C7).mono ?_
          rintro e w7 ⟨rfl, np⟩
          obtain ⟨R7, ND8, _, _⟩ := (unhide NDH7).post np
          have CT := hide (Count_any ND8.net)
          have BB := hide ND8.below
          clear C7 NDH7 ND8 np
          go_wp2_with fail
          refine (unhide CT).mono ?_
          rintro e w8 ⟨rfl, rfl⟩
          go_wp2
          go_returns
          exact ⟨rfl, unhide BB⟩
end Go.Proofs.Ytgpfkedihgoohaa
