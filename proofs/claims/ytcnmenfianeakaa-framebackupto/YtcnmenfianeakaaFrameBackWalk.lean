/-
  FrameBack walked: it answers true. Conditions: the payloads are at most 2^24, the bytes behind them at most 2^24.
-/
import Derived.Test.YtcnmenfianeakaaSc2
namespace Go.Proofs.Ytcnmenfianeakaa
open Go.RowKit
set_option linter.unusedVariables false

set_option maxRecDepth 100000 in
set_option maxHeartbeats 8000000 in
theorem frameBack_walk (a : Option Addr) (cap : Nat) (ls : List (List Nat)) (a1 : Option Addr) (cap1 : Nat) (more : List Nat) (w : World) (hp : RAt w a ls) (hl : ls.length ≤ 16777216) (hm : LAt w a1 more) (hn1 : a1 = none → cap1 = 0) (hl1 : more.length ≤ 16777216) :
    Calls Try.prog 4 #[.slice a ls.length cap, .slice a1 more.length cap1] w fun e w' => e = .returned (.bool true) ∧ Below w.heap.size w w' := by
  have HP := hide hp
  have HM := hide hm
  clear hp hm
  go_enter Try.func4, Try.ntmps4
  go_wp2_with fail
  refine (fnew_any w).mono ?_
  rintro e w1 ⟨rfl, h1, b1⟩
  have R1 := hide h1
  have B1 := hide b1
  have hfb := h1.lt
  have JO := hide (join_any w1 a cap ls ((unhide HP).later b1) hl)
  clear h1 b1
  go_wp2_with fail
  refine (unhide JO).mono ?_
  rintro e w2 ⟨v2, q, rfl, jo⟩
  clear JO
  rcases jo with ⟨h4, rfl, f2⟩ | ⟨hno, rfl, rfl, b2⟩
  · have H4 := hide h4
    have R2 := hide ((unhide R1).keep (Touch.of_below (S := fun _ => False) f2.2.2) (fun h => h))
    have B2 := hide ((unhide B1).trans (f2.2.2.mono (unhide B1).size))
    have ALL2 := hide f2.1
    have NA : Hid (∀ k, v2.ownBlock = some k → w.heap.size < k) := fun k hk => by have := f2.2.1 k hk; omega
    have hflen := frames_len_le h4
    have hfl : (frames ls).length ≤ 4104 * 16777216 := by omega
    obtain ⟨a2, c2, rfl, _⟩ := f2.1.parts
    have hs12 := f2.2.2.size
    clear f2 R1 h4 hflen
    go_wp2_with fail
    refine (awake4_any w2).mono ?_
    rintro e w3 ⟨rfl, b3⟩
    have R3 := hide ((unhide R2).keep (Touch.of_below (S := fun _ => False) b3) (fun h => h))
    have B3 := hide ((unhide B2).trans (b3.mono (unhide B2).size))
    have ALL3 := hide ((unhide ALL2).later b3)
    have hs23 := b3.size
    clear b3 R2 B2 ALL2
    go_wp2_with fail
    go_loopw [8, 34] (fun pv pl wr => ∃ (v1 : Value) (k : Nat), v1 = pv ∧ k ≤ ls.length ∧ pl = .int .i64 k ∧ Row wr v1 (frames (ls.take k)) ∧ New w3 v1 ∧ Fdone w3 wr w.heap.size) (fun _ pl _ => ls.length - (intOf pl).toNat)
    case atStart => exact ⟨_, 0, rfl, Nat.zero_le _, rfl, Row.nil _, New.nil _, unhide R3, Touch.refl _ _⟩
    case round =>
      obtain ⟨v1, k, rfl, hk, rfl, hrw, hnw, hfd⟩ := hrel
      have HRW := hide hrw
      have HNW := hide hnw
      have HFD := hide hfd
      have BR := hide (below_touch (unhide B3) hfd.touch (unhide B3).size (fun i hi => by omega))
      clear hrw hnw hfd R3
      by_cases hkc : k < ls.length
      · have hkc' : (k : Int) < (ls.length : Int) := by omega
        obtain ⟨b, off, x, c, rfl, _, _, lx0, _⟩ := (unhide HP).cell hkc
        obtain ⟨_, _, x', c', e1, _, hcell, lx, hnx⟩ := ((unhide HP).later (unhide BR)).cell hkc
        cases e1
        have hxl : 0 < (ls.getD k []).length → ∀ y, x' = some y → y.block ≠ w.heap.size := fun h0 y hy => by
          obtain ⟨b0, off0, x0, c0, f1, f2, f3, f4, _⟩ := (unhide HP).cell hkc
          cases f1
          have e2 : wr.cell? ⟨b, off + k, none⟩ = w.cell? ⟨b, off + k, none⟩ := (unhide BR).cell (p := ⟨b, off + k, none⟩) f2
          rw [hcell, f3] at e2
          cases e2
          have := lat_lt f4 h0 hy
          omega
        have ET := hide (frames_take_succ hkc)
        have h4k := unhide H4 _ (getD_mem_l hkc)
        have EN := hide (fencode_any (cap := c') (unhide HFD).ready lx hnx hxl h4k)
        have hfl1 := fenc_len (ls.getD k [])
        have hfl' : (fenc (ls.getD k [])).length ≤ 4104 := by omega
        have hmx := frames_len_le (fun p hp => unhide H4 p (List.mem_of_mem_take (i := k) hp))
        have hmx' : (frames (ls.take k)).length ≤ 4104 * 16777216 := by rw [List.length_take] at hmx; omega
        clear lx hnx hxl lx0 hfl1 hmx
        generalize ls.getD k [] = p at *
        generalize hT : frames (ls.take k) = T at *
        clear hT
        generalize hF : fenc p = F at *
        clear hF
        go_wp2_with fail
        refine (unhide EN).mono ?_
        rintro e w4 ⟨v4, rfl, r4, n4, d4⟩
        have FD4 : Hid (Fdone w3 w4 w.heap.size) := ⟨d4.ready, (unhide HFD).touch.trans d4.touch⟩
        have R4 := hide ((unhide HRW).keep d4.touch (fun i hi e => by have := unhide HNW i hi; omega))
        obtain ⟨a4, c4, rfl, l4, _, _, n4', _⟩ := r4.parts
        have L4 := hide l4
        clear r4 l4 n4 d4 EN HRW
        go_wp2_with (at_builtin; refine wpList_row _ rfl (.tmp 46) (.tmp 47) rfl v1 T rfl (unhide R4) a4 c4 F rfl (unhide L4) n4' (by omega) ?_)
        intro v5 w5 r5 t5 m5
        rw [← unhide ET] at r5
        have F5 : Hid (Row w5 v5 (frames (ls.take (k + 1))) ∧ New w3 v5 ∧ Fdone w3 w5 w.heap.size) :=
          ⟨r5, (unhide HNW).moved m5 (unhide FD4).touch.size, (unhide FD4).ready.keep t5 (fun h => by have := unhide HNW _ h; omega), touch_new (unhide FD4).touch t5 (fun i hi => .inr (unhide HNW i hi))⟩
        obtain ⟨a5, m5', c5, rfl⟩ := r5.shape
        clear r5 t5 m5 R4 L4 FD4 HNW HFD BR
        go_wp2
        go_roundw
        case rel => exact ⟨_, k + 1, rfl, by omega, by go_num, unhide F5⟩
        case measure => simp [intOf]; omega
      · have hkc' : ¬ (k : Int) < (ls.length : Int) := by omega
        obtain rfl : k = ls.length := by omega
        have RW := unhide HRW
        rw [List.take_length] at RW
        have SC := hide (scan_whole (unhide H4))
        have SC2 := hide (scan_frames (unhide H4) more)
        have ALLr := hide ((unhide ALL3).keep (unhide HFD).touch (fun i hi e => by have := unhide NA i hi; omega))
        have HOW := hide RW
        have NW : Hid (∀ i, v1.ownBlock = some i → w3.heap.size ≤ i) := unhide HNW
        obtain ⟨ao, co, rfl, lo, hco, _, hno, hoo, _⟩ := RW.parts
        have S1 := fscan_any (unhide HFD).ready lo hno hco (fun h0 x hx => by have := unhide NW _ (hoo x hx); omega) (by omega)
        rw [unhide SC] at S1
        have S1H := hide S1
        clear S1 RW lo hco hoo HRW HNW
        go_wp2_with fail
        refine (unhide S1H).mono ?_
        rintro e w4 ⟨v4, rfl, p4, n4, d4⟩
        have hs34 := (unhide HFD).touch.size
        have hs45 := d4.touch.size
        have OW4 := hide ((unhide HOW).keep d4.touch (fun i hi e => by have := unhide NW i hi; omega))
        have AL4 := hide ((unhide ALLr).keep d4.touch (fun i hi e => by have := unhide NA i hi; omega))
        have B4 := hide (below_touch (unhide BR) d4.touch (unhide BR).size (fun i hi => by omega))
        have P4 := hide p4
        have N4 := hide n4
        have RD4 := hide d4.ready
        obtain ⟨a4, c4, rfl, _⟩ := p4.parts
        clear p4 n4 d4 S1H HOW ALLr BR HFD
        -- the copy, with the other bytes behind it
        obtain ⟨_, _, e4, lo4, _⟩ := (unhide OW4).parts
        cases e4
        have R0 := hide (Row.lit w4 [] (fun x hx => by cases hx) #[] rfl (by simp [maxLen]))
        have LO4 := hide (lo4.keep ((Touch.refl (fun _ => False) w4).alloc (.cells #[] 5)) (fun _ _ _ h => h))
        clear lo4
        generalize hFR : frames ls = FR at *
        go_wp2_with (at_builtin; refine wpList_row _ rfl (.tmp 59) (.tmp 60) rfl _ [] rfl (unhide R0) ao co FR rfl (unhide LO4) hno (by simp; omega) ?_)
        intro v5 w5 r5 t5 m5
        have F5 : Fresh w4 w5 v5 FR := fresh_copy4 r5 t5 m5
        have HF5 := hide F5
        have R5 := hide F5.1
        obtain ⟨a5, c5, rfl, _⟩ := F5.1.parts
        have M5 := hide ((unhide HM).later ((unhide B4).trans (F5.2.2.mono (unhide B4).size)))
        clear r5 t5 m5 F5 R0 LO4
        go_wp2_with (at_builtin; refine wpList_row _ rfl (.tmp 61) (.tmp 62) rfl _ FR rfl (unhide R5) a1 cap1 more rfl (unhide M5) hn1 (by omega) ?_)
        intro v6 w6 r6 t6 m6
        have F6 := fresh_app (unhide HF5) (Below.refl _ _) r6 t6 m6
        have hs46 := F6.2.2.size
        have HF6 := hide F6
        obtain ⟨X, hX⟩ : ∃ X, X = FR ++ more := ⟨_, rfl⟩
        have hXl : X.length ≤ 1099511627776 := by rw [hX, List.length_append]; omega
        rw [← hX] at F6 r6 SC2
        obtain ⟨a6, c6, rfl, l6, hc6, _, hn6, ho6, _⟩ := r6.parts
        have RD6 := hide ((unhide RD4).keep (Touch.of_below (S := fun _ => False) F6.2.2) (fun h => h))
        have S2 := fscan_any (unhide RD6) l6 hn6 hc6 (fun h0 x hx => by have := F6.2.1 _ (ho6 x hx); omega) hXl
        rw [unhide SC2] at S2
        have S2H := hide S2
        have OW6 := hide ((unhide OW4).later F6.2.2)
        have AL6 := hide ((unhide AL4).later F6.2.2)
        have P6 := hide ((unhide P4).keep (unhide N4) (Touch.of_below (S := fun _ => False) F6.2.2) (fun _ h => h.elim))
        have B6 := hide ((unhide B4).trans (F6.2.2.mono (unhide B4).size))
        clear S2 r6 t6 m6 F6 l6 hc6 hn6 ho6 R5 M5 HF5 HF6 OW4 AL4 P4 B4 RD4 hX
        generalize scan more = SMO at *
        obtain ⟨mo, mn, me⟩ := SMO
        simp only at S2H
        go_wp2_with fail
        refine (unhide S2H).mono ?_
        rintro e w7 ⟨v7, rfl, p7, n7, d7⟩
        have OW7 := (unhide OW6).keep d7.touch (fun i hi e => by have := unhide NW i hi; omega)
        have AL7 := (unhide AL6).keep d7.touch (fun i hi e => by have := unhide NA i hi; omega)
        have P7 := (unhide P6).keep (unhide N4) d7.touch (fun i hi => by omega)
        have B7 := hide (below_touch (unhide B6) d7.touch (unhide B6).size (fun i hi => by omega))
        obtain ⟨_, _, e1, lo7, _⟩ := OW7.parts
        cases e1
        obtain ⟨_, _, e1, la7, _⟩ := AL7.parts
        cases e1
        obtain ⟨_, _, e1, rx7, _⟩ := P7.parts
        cases e1
        obtain ⟨a7, c7, rfl, ry7, hcy, _⟩ := p7.parts
        have SM1 := hide (same_any w7 ao a2 co c2 FR lo7 la7 (by omega))
        have hlo : ∀ l ∈ ls, l.length ≤ 9223372036854775807 := fun l h => by have := unhide H4 l h; omega
        have SM2 : Hid (∀ n, Calls Try.prog 13 #[.slice a4 ls.length c4, .slice a ls.length cap] (w7.drewN n) fun e w' => e = .returned (.bool true) ∧ ∃ m, w' = (w7.drewN n).drewN m) := fun n => samelist_any (w7.drewN n) a4 a c4 cap ls rx7 ((unhide HP).later (below_drewN3 (unhide B7) n)) (by omega) hlo
        have RYT : RAt w7 a7 ls := by have := ry7.take ls.length; rwa [List.take_left] at this
        have SM3 : Hid (∀ n, Calls Try.prog 13 #[.slice a7 ls.length c7, .slice a ls.length cap] (w7.drewN n) fun e w' => e = .returned (.bool true) ∧ ∃ m, w' = (w7.drewN n).drewN m) := fun n => samelist_any (w7.drewN n) a7 a c7 cap ls RYT ((unhide HP).later (below_drewN3 (unhide B7) n)) (by omega) hlo
        rw [List.length_append] at hcy
        have hsl := slice_hl a7 (ls ++ mo).length c7 ls.length (by omega)
        have hge : ls.length ≤ (ls ++ mo).length := by rw [List.length_append]; omega
        clear n7 d7 p7 OW7 AL7 P7 lo7 la7 rx7 ry7 RYT OW6 AL6 P6 B6 RD6 S2H hlo
        generalize (ls ++ mo).length = LM at *
        go_wp2_with fail
        refine (unhide SM1).mono ?_
        rintro e w8 ⟨rfl, n8, rfl⟩
        have hge' : (ls.length : Int) ≤ (LM : Int) := by omega
        have hge2 : (FR.length : Int) ≤ ((FR.length + mn : Nat) : Int) := by omega
        go_wp2_with fail
        refine (unhide SM2 n8).mono ?_
        rintro e w9 ⟨rfl, n9, e9⟩
        rw [World.drewN_drewN] at e9
        subst e9
        go_wp2_with fail
        refine (unhide SM3 (n8 + n9)).mono ?_
        rintro e w10 ⟨rfl, n10, e10⟩
        rw [World.drewN_drewN] at e10
        subst e10
        go_wp2
        go_returns
        exact ⟨rfl, below_drewN3 (unhide B7) _⟩
  · have BB := hide ((unhide B1).trans (b2.mono (unhide B1).size))
    clear b2 hno R1
    go_wp2_with fail
    refine (awake4_any w2).mono ?_
    rintro e w3 ⟨rfl, b3⟩
    have B3 := hide ((unhide BB).trans (b3.mono (unhide BB).size))
    clear b3
    go_wp2_with fail
    refine (awake4_any w3).mono ?_
    rintro e w4 ⟨rfl, b4⟩
    have B4 := hide ((unhide B3).trans (b4.mono (unhide B3).size))
    clear b4
    go_wp2
    go_returns
    exact ⟨rfl, unhide B4⟩
end Go.Proofs.Ytcnmenfianeakaa
