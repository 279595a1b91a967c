/-
  BatchCut answers true. Conditions: lengths as memory allows them.
-/
import Derived.Test.YtfccddcoindnlaaBatchBackWalk
namespace Go.Proofs.Ytfccddcoindnlaa
open Go.RowKit
set_option linter.unusedVariables false

theorem fresh_lit2 {w w2 : World} {g : Nat} {v : Value} {l : List Nat} (hg : w.heap.size = g) (r : Row w2 v l) (t : Touch (fun k => (Value.slice (some ⟨g, 0, none⟩) 0 0).ownBlock = some k) (w.alloc (.cells #[] 5)) w2) (m : Moved (w.alloc (.cells #[] 5)) (.slice (some ⟨g, 0, none⟩) 0 0) v) : Fresh w w2 v l := by
  subst hg; exact fresh_lit r t m
theorem len_pos {t : List Nat} (h : t ≠ []) : 0 < t.length := by
  cases t with
  | nil => exact absurd rfl h
  | cons _ _ => simp

set_option maxRecDepth 100000 in
set_option maxHeartbeats 8000000 in
theorem batchCut_walk (b : Bt) (a : Option Addr) (cap : Nat) (n : Nat) (t : List Nat) (ta : Option Addr) (tcap : Nat) (w : World) (hb : BIn w b a cap) (hn : n < 65536) (ht : LAt w ta t) (htn : ta = none → tcap = 0) (htl : t.length ≤ 140737488351232) :
    Calls Try.prog 6 #[bv b a cap, .int .u16 (n : Nat), .slice ta t.length tcap] w fun e w' => e = .returned (.bool true) ∧ Below w.heap.size w w' := by
  have HT := hide ht
  have HB := hide hb
  have h24 : b.vs.length * 24 ≤ 140737488355328 := by have := hb.len; unfold reachBytes at this; omega
  have H64 : Hid (∀ p ∈ b.vs, p.length ≤ 140737488355328) := fun p hp => by have := hb.each p hp; unfold reachBytes at this; omega
  obtain ⟨base, epoch, pid, pep, seq, txn, ctl, com, vs⟩ := b
  simp only at h24
  have B0 : Hid (Below w.heap.size w (w.alloc (.cells #[.int .i64 base, .int .i64 epoch, .int .u64 (pid : Int), .int .i64 pep, .int .i64 seq, .bool txn, .bool ctl, .bool com, .slice a vs.length cap] 25))) := (Below.refl _ _).alloc (Nat.le_refl _) _
  have KC := hide (copy7_any ⟨base, epoch, pid, pep, seq, txn, ctl, com, vs⟩ a cap _ (hb.at_.later (unhide B0)) h24 (unhide H64))
  clear ht hb
  go_enter Try.func6, Try.ntmps6
  go_wp2_with fail
  refine (unhide KC).mono ?_
  rintro e w2 ⟨a2, c2, rfl, cp2⟩
  obtain ⟨pd2, _, bl2⟩ := cp2
  obtain ⟨ay, cy, ey, r2, _⟩ := pd2.parts
  cases ey
  have KE := hide (encode_any ⟨base, epoch, pid, pep, seq, txn, ctl, com, vs⟩ a2 c2 w2 r2 (unhide HB).fits)
  have B2 := hide ((unhide B0).trans (bl2.mono (unhide B0).size))
  clear pd2 bl2 r2 KC B0
  go_wp2_with fail
  refine (unhide KE).mono ?_
  rintro e w3 ⟨vo, rfl, fo⟩
  have B3 := hide ((unhide B2).trans (fo.2.2.mono (unhide B2).size))
  obtain ⟨ao, co, rfl, lo, hco, _, no, _, _⟩ := fo.1.parts
  have LO3 := hide lo
  clear B2 KE fo lo
  by_cases hz : chk ⟨base, epoch, pid, pep, seq, txn, ctl, com, vs⟩ = 0
  · have hlen := encB_len (unhide HB).fits hz
    have hpos := encB_pos ⟨base, epoch, pid, pep, seq, txn, ctl, com, vs⟩
    have CUT := hide (fun k => cut_short (k := k) (unhide HB).fits hz)
    have BEH := hide (fun (u : List Nat) (hu : 0 < u.length) => behind (u := u) (unhide HB).fits hz hu)
    have THE := hide (there (unhide HB).fits hz)
    rw [hz]
    rw [outE_ok hz] at LO3 hco ⊢
    generalize encB ⟨base, epoch, pid, pep, seq, txn, ctl, com, vs⟩ = T at *
    clear hz
    obtain ⟨TK, hTK⟩ : ∃ TK, TK = T.take (n % T.length) := ⟨_, rfl⟩
    have hml : n % T.length < T.length := Nat.mod_lt _ hpos
    have hTl : TK.length = n % T.length := by rw [hTK, List.length_take]; omega
    have KD1 : Hid (∀ (w' : World) (a : Option Addr) (cap : Nat), LAt w' a TK → (a = none → cap = 0) → Calls Try.prog 20 #[.slice a TK.length cap] w' fun e w'' => ∃ a1 c1, e = .returned (.tuple #[.agg #[.int .i64 0, .int .i64 0, .int .u64 0, .int .i64 0, .int .i64 0, .bool false, .bool false, .bool false, .slice a1 0 c1], .int .i64 6]) ∧ Below w'.heap.size w' w'') := fun w' a cap h hn => (decode_any w' h hn (by omega)).mono fun e w'' h => by
      obtain ⟨a1, c1, e1, e2⟩ := h
      have c6 : decE TK = 6 := by rw [hTK]; exact unhide CUT _ hml
      rw [c6, decB_no (by rw [c6]; omega)] at e1
      exact ⟨a1, c1, e1, e2.2.2⟩
    have KD2 : Hid (∀ (w' : World) (a : Option Addr) (cap : Nat) (TT : List Nat), TT = T ++ t → LAt w' a TT → (a = none → cap = 0) → Calls Try.prog 20 #[.slice a TT.length cap] w' fun e w'' => ∃ (B : Bt) (E : Nat) (a1 : Option Addr) (c1 : Nat), e = .returned (.tuple #[bv B a1 c1, .int .i64 (E : Nat)]) ∧ (E = 0 ↔ t = []) ∧ Below w'.heap.size w' w'') := fun w' a cap TT hTT h hn => (decode_any w' h hn (by rw [hTT, List.length_append]; omega)).mono fun e w'' h => by
      obtain ⟨a1, c1, e1, e2⟩ := h
      refine ⟨_, _, a1, c1, e1, ?_, e2.2.2⟩
      rw [hTT]
      by_cases h0 : t = []
      · subst h0; rw [List.append_nil]; exact ⟨fun _ => rfl, fun _ => (unhide THE).1⟩
      · rw [unhide BEH t (len_pos h0)]
        exact ⟨(fun h => by omega), fun h => absurd h h0⟩
    clear CUT THE BEH
    have KA := hide (awake7_any w3)
    have LO := hide (unhide LO3)
    go_wp2_with fail
    refine (unhide KA).mono ?_
    rintro e w4 ⟨rfl, b4⟩
    have B4 := hide ((unhide B3).trans (b4.mono (unhide B3).size))
    have LO4 := hide ((unhide LO).later b4)
    clear b4 B3 LO LO3 KA
    obtain ⟨kk, hK⟩ : ∃ kk, kk = n % T.length := ⟨_, rfl⟩
    have hkk : (n : Int) % (T.length : Int) = (kk : Int) := by rw [hK]; omega
    have HTL : Hid (TK.length = kk) := by show TK.length = kk; rw [hTl, hK]
    have LK : Hid (LAt w4 ao TK) := by show LAt w4 ao TK; rw [hTK]; exact (unhide LO4).take _
    have hTKl : TK.length ≤ 2000 := by omega
    have hsl := slice_h ao T.length co kk (by omega)
    have hT0 : ¬ (T.length : Int) = 0 := by omega
    have hkl : kk ≤ 2000 := by omega
    clear hTl hml hTK hK hTKl
    have HLEN := hide hlen
    clear hpos
    have R0 := hide (Row.lit w4 [] (fun x hx => by cases hx) #[] rfl (by simp [maxLen]))
    go_wp2_with (at_builtin; refine wpList_row _ rfl (.tmp 32) (.tmp 39) rfl _ [] rfl (unhide R0) ao co TK (by rw [unhide HTL]; rfl) ((unhide LK).keep ((Touch.refl (fun _ => False) w4).alloc _) (fun _ _ _ h => h)) no (by rw [unhide HTL]; simp; omega) ?_)
    intro va wa ra tca ma
    have FA := fresh_lit ra tca ma
    obtain ⟨aa, ca, rfl, la, _, _, na, _, _⟩ := FA.1.parts
    have BA := hide ((unhide B4).trans (FA.2.2.mono (unhide B4).size))
    have LOA := hide ((unhide LO4).later FA.2.2)
    have KD := unhide KD1 wa aa ca la na
    have KDH := hide KD
    clear ra tca ma FA la R0 LK KD LO4 B4 hsl hkk
    go_wp2_with fail
    refine (unhide KDH).mono ?_
    rintro e wd ⟨ad, cd, rfl, bld⟩
    have BD := hide ((unhide BA).trans (bld.mono (unhide BA).size))
    have LOD := hide ((unhide LOA).later bld)
    clear bld KDH BA LOA KD1
    have bW : Below wd.heap.size wd (wd.alloc (.cells #[.int .i64 0, .int .i64 0, .int .u64 0, .int .i64 0, .int .i64 0, .bool false, .bool false, .bool false, .slice ad 0 cd] 25)) := (Below.refl _ _).alloc (Nat.le_refl _) _
    have BE := hide ((unhide BD).trans (bW.mono (unhide BD).size))
    have LOE := hide ((unhide LOD).later bW)
    have HTE := hide ((unhide HT).later (unhide BE))
    clear bW BD LOD
    have r0 := Row.lit (wd.alloc (.cells #[.int .i64 0, .int .i64 0, .int .u64 0, .int .i64 0, .int .i64 0, .bool false, .bool false, .bool false, .slice ad 0 cd] 25)) [] (fun x hx => by cases hx) #[] rfl (by simp [maxLen])
    simp only [World.size_alloc] at r0
    have R0 := hide r0
    clear r0
    go_wp2_with (at_builtin; refine wpList_row _ rfl (.tmp 45) (.tmp 46) rfl _ [] rfl (unhide R0) ao co T rfl ((unhide LOE).keep ((Touch.refl (fun _ => False) (wd.alloc (.cells #[.int .i64 0, .int .i64 0, .int .u64 0, .int .i64 0, .int .i64 0, .bool false, .bool false, .bool false, .slice ad 0 cd] 25))).alloc _) (fun _ _ _ h => h)) no (by simp; omega) ?_)
    intro vb wb rb tcb mb
    have FB := fresh_lit2 (by simp) rb tcb mb
    have HTB := hide ((unhide HTE).later FB.2.2)
    have FBH := hide FB
    obtain ⟨yb, nb, qb, rfl⟩ := rb.shape
    clear rb tcb mb FB R0 HTE
    go_wp2_with (at_builtin; refine wpList_row _ rfl (.tmp 47) (.tmp 48) rfl (.slice yb nb qb) T rfl (unhide FBH).1 ta tcap t rfl (unhide HTB) htn (by omega) ?_)
    intro vc wc rc tcc mc
    have FC := fresh_app (unhide FBH) (Below.refl _ _) rc tcc mc
    obtain ⟨ac, cc, rfl, lc, _, _, nc, _, _⟩ := FC.1.parts
    have BC := hide ((unhide BE).trans (FC.2.2.mono (unhide BE).size))
    obtain ⟨TT, hTT⟩ : ∃ TT, TT = T ++ t := ⟨_, rfl⟩
    have KD3 := hide (unhide KD2 wc ac cc TT hTT (by rw [hTT]; exact lc) nc)
    rw [← hTT]
    clear rc tcc mc FC lc hTT BE FBH HTB LOE KD2
    go_wp2_with fail
    refine (unhide KD3).mono ?_
    rintro e wg ⟨BB, EE, ag, cg, rfl, hiff, blg⟩
    obtain ⟨y1, y2, y3, y4, y5, y6, y7, y8, ys⟩ := BB
    have BE : Hid (Below w.heap.size w (wg.alloc (.cells #[.int .i64 y1, .int .i64 y2, .int .u64 (y3 : Int), .int .i64 y4, .int .i64 y5, .bool y6, .bool y7, .bool y8, .slice ag ys.length cg] 25))) := ((unhide BC).trans (blg.mono (unhide BC).size)).alloc ((unhide BC).trans (blg.mono (unhide BC).size)).size _
    clear blg KD3 BC HT
    by_cases ht0 : t = []
    · obtain rfl := hiff.2 ht0
      subst ht0
      clear hiff
      simp only [List.length_nil]
      go_wp2
      go_returns
      exact ⟨by simp, unhide BE⟩
    · have hE : ¬ EE = 0 := fun h => ht0 (hiff.1 h)
      have hE' : ¬ (EE : Int) = 0 := by omega
      have htp : ¬ (t.length : Int) = 0 := by have := len_pos ht0; omega
      clear hE ht0 hiff
      generalize t.length = tl at *
      have E1 : Hid (((EE : Int) == 0) = false) := by show _ = _; simpa using hE'
      have E2 : Hid (((tl : Int) == 0) = false) := by show _ = _; simpa using htp
      go_wp2
      go_returns
      refine ⟨?_, unhide BE⟩
      rw [beq_iff_eq.2 ((unhide E1).trans (unhide E2).symm)]
      rfl
  · rw [outE_no hz] at LO3 hco ⊢
    generalize chk ⟨base, epoch, pid, pep, seq, txn, ctl, com, vs⟩ = cc at *
    have hcc : ¬ (cc : Int) = 0 := by omega
    have KA := hide (awake7_any w3)
    have LO := hide (unhide LO3)
    go_wp2_with fail
    refine (unhide KA).mono ?_
    rintro e w4 ⟨rfl, b4⟩
    have B4 := hide ((unhide B3).trans (b4.mono (unhide B3).size))
    have LO4 := hide ((unhide LO).later b4)
    clear b4 B3 LO LO3 KA
    have KA2 := hide (awake7_any w4)
    go_wp2_with fail
    refine (unhide KA2).mono ?_
    rintro e w5 ⟨rfl, b5⟩
    have BE := hide ((unhide B4).trans (b5.mono (unhide B4).size))
    clear b5 KA2
    go_wp2
    go_returns
    exact ⟨by simp, unhide BE⟩
end Go.Proofs.Ytfccddcoindnlaa
