/-
  FrameTorn walked: it answers true. Conditions: the payloads are at most 2^24.
-/
import Derived.Test.YtcnmenfianeakaaSc2
namespace Go.Proofs.Ytcnmenfianeakaa
open Go.RowKit
set_option linter.unusedVariables false

theorem frames_pos {ls : List (List Nat)} (h : (frames ls).length ≠ 0) : 0 < ls.length := by
  cases ls with
  | nil => simp [frames] at h
  | cons p r => simp

set_option maxRecDepth 100000 in
set_option maxHeartbeats 8000000 in
theorem frameTorn_walk (a : Option Addr) (cap : Nat) (ls : List (List Nat)) (n : Nat) (w : World) (hp : RAt w a ls) (hcp : ls.length ≤ cap) (hl : ls.length ≤ 16777216) (hn : n < 65536) :
    Calls Try.prog 5 #[.slice a ls.length cap, .int .u16 (n : Nat)] w fun e w' => e = .returned (.bool true) ∧ Below w.heap.size w w' := by
  have HP := hide hp
  clear hp
  go_enter Try.func5, Try.ntmps5
  go_wp2_with fail
  refine (fnew_any w).mono ?_
  rintro e w1 ⟨rfl, h1, b1⟩
  have R1 := hide h1
  have B1 := hide b1
  have hfb := h1.lt
  have JO := hide (join_any w1 a cap ls ((unhide HP).later b1) hl)
  clear h1 b1
  go_wp2_with fail
  refine (unhide JO).mono ?_
  rintro e w2 ⟨v2, q, rfl, jo⟩
  clear JO
  have fin : Hid (∀ w2 : World, Below w.heap.size w w2 → ∀ w3, Below w2.heap.size w2 w3 → ∀ w4, Below w3.heap.size w3 w4 → Below w.heap.size w w4) := fun w2 b2 w3 b3 w4 b4 => by
    have := b2.trans (b3.mono b2.size)
    exact this.trans (b4.mono this.size)
  rcases jo with ⟨h4, rfl, f2⟩ | ⟨hno, rfl, rfl, b2⟩
  · have H4 := hide h4
    have R2 := hide ((unhide R1).keep (Touch.of_below (S := fun _ => False) f2.2.2) (fun h => h))
    have B2 := hide ((unhide B1).trans (f2.2.2.mono (unhide B1).size))
    have ALL2 := hide f2.1
    have hflen := frames_len_le h4
    have hfl : (frames ls).length ≤ 4104 * 16777216 := by omega
    obtain ⟨a2, c2, rfl, _, hc2, _, hn2, _⟩ := f2.1.parts
    have hs12 := f2.2.2.size
    clear f2 R1 h4 hflen
    by_cases h0 : (frames ls).length = 0
    · have h0' : ((frames ls).length : Int) = 0 := by omega
      rw [h0] at *
      clear h0 h0'
      go_wp2_with fail
      refine (awake4_any w2).mono ?_
      rintro e w3 ⟨rfl, b3⟩
      have B3 := hide b3
      clear b3
      go_wp2_with fail
      refine (awake4_any w3).mono ?_
      rintro e w4 ⟨rfl, b4⟩
      have B4 := hide b4
      clear b4
      go_wp2
      go_returns
      exact ⟨rfl, unhide fin _ (unhide B2) _ (unhide B3) _ (unhide B4)⟩
    · have h0' : ¬ ((frames ls).length : Int) = 0 := by omega
      go_wp2_with fail
      refine (awake4_any w2).mono ?_
      rintro e w3 ⟨rfl, b3⟩
      have R3 := hide ((unhide R2).keep (Touch.of_below (S := fun _ => False) b3) (fun h => h))
      have B3 := hide ((unhide B2).trans (b3.mono (unhide B2).size))
      have ALL3 := (unhide ALL2).later b3
      obtain ⟨_, _, e1, la3, _⟩ := ALL3.parts
      cases e1
      have hs23 := b3.size
      have hpos := frames_pos h0
      have FRL : Hid (∀ j, j < ls.length → (frames (ls.take (j + 1))).length = (frames (ls.take j)).length + 8 + (ls.getD j []).length) := fun j hj => by rw [frames_take_succ hj, List.length_append, fenc_len]; omega
      have FRA : Hid ((frames (ls.take ls.length)).length = (frames ls).length) := by show _ = _; rw [List.take_length]
      have TO : Hid (∀ k j, j < ls.length → (frames (ls.take j)).length ≤ k → k < (frames (ls.take j)).length + 8 + (ls.getD j []).length → scan ((frames ls).take k) = (ls.take j, (frames (ls.take j)).length, if (frames (ls.take j)).length = k then 0 else 6)) := fun k j hj g1 g2 => scan_torn (unhide H4) hj g1 g2
      clear b3 R2 B2 ALL2 ALL3
      generalize frames ls = FR at *
      obtain ⟨k, hk⟩ : ∃ k, k = n % FR.length := ⟨_, rfl⟩
      have hkl : k < FR.length := by rw [hk]; exact Nat.mod_lt _ (by omega)
      have hkk : (n : Int) % (FR.length : Int) = (k : Int) := by rw [hk]; omega
      clear hk
      have hsl := slice_h a2 FR.length c2 k (by omega)
      have TK : Hid (∀ j, j < ls.length → (frames (ls.take j)).length ≤ k → k < (frames (ls.take j)).length + 8 + (ls.getD j []).length → scan (FR.take k) = (ls.take j, (frames (ls.take j)).length, if (frames (ls.take j)).length = k then 0 else 6)) := fun j => unhide TO k j
      clear TO
      have hTl : (FR.take k).length = k := by rw [List.length_take]; omega
      have R0 := hide (Row.lit w3 [] (fun x hx => by cases hx) #[] rfl (by simp [maxLen]))
      have L3 := (la3.take k).keep ((Touch.refl (fun _ => False) w3).alloc (.cells #[] 5)) (fun _ _ _ h => h)
      have HL3 := hide L3
      clear L3 la3
      generalize hT : FR.take k = T at *
      clear hT
      subst hTl
      go_wp2_with (at_builtin; refine wpList_row _ rfl (.tmp 41) (.tmp 44) rfl _ [] rfl (unhide R0) a2 c2 T rfl (unhide HL3) hn2 (by simp; omega) ?_)
      intro v5 w5 r5 t5 m5
      have F5 : Fresh w3 w5 v5 T := fresh_copy4 r5 t5 m5
      have R5 := hide ((unhide R3).keep (Touch.of_below (S := fun _ => False) F5.2.2) (fun h => h))
      have B5 := hide ((unhide B3).trans (F5.2.2.mono (unhide B3).size))
      have hs35 := F5.2.2.size
      obtain ⟨a5, c5, rfl, l5, hc5, _, hn5, ho5, _⟩ := F5.1.parts
      have S1H := hide (fscan_any (unhide R5) l5 hn5 hc5 (fun h0 x hx => by have := F5.2.1 _ (ho5 x hx); omega) (by omega))
      clear r5 t5 m5 F5 R0 HL3 R3 B3 l5 hc5 hn5 ho5
      go_wp2_with fail
      refine (unhide S1H).mono ?_
      rintro e w6 ⟨v6, rfl, p6, n6, d6⟩
      have B6 := hide (below_touch (unhide B5) d6.touch (unhide B5).size (fun i hi => by omega))
      have P6 := hide p6
      clear p6 n6 d6 S1H R5 B5
      generalize hS : scan T = SC at *
      obtain ⟨sl, sn, se⟩ := SC
      obtain ⟨a6, c6, rfl, _⟩ := (unhide P6).parts
      have HS := hide hS
      clear hS
      simp only
      go_wp2_with fail
      go_loop [12, 13, 52] (fun wh rs ix => ∃ j : Nat, j ≤ ls.length ∧ wh = .int .i64 j ∧ ix = .int .i64 j ∧ rs = .int .i64 ((frames (ls.take j)).length : Nat) ∧ (frames (ls.take j)).length ≤ T.length) (fun _ _ ix => ls.length - (intOf ix).toNat)
      case atStart => exact ⟨0, Nat.zero_le _, rfl, rfl, rfl, by simp [frames]⟩
      case round =>
        obtain ⟨j, hj, rfl, rfl, rfl, hjk⟩ := hrel
        by_cases hjc : j < ls.length
        · have hjc' : (j : Int) < (ls.length : Int) := by omega
          obtain ⟨b, off, x, c, rfl, _, hcell, _⟩ := ((unhide HP).later (unhide B6)).cell hjc
          have h4j := unhide H4 _ (getD_mem_l hjc)
          have EL := hide (unhide FRL j hjc)
          by_cases hbr : T.length < (frames (ls.take j)).length + 8 + (ls.getD j []).length
          · have E := unhide TK j hjc hjk hbr
            have hbr' : (T.length : Int) < ((frames (ls.take j)).length : Int) + 8 + ((ls.getD j []).length : Int) := by omega
            have hjl : (ls.take j).length = j := by rw [List.length_take]; omega
            simp only [Prod.mk.injEq] at E
            obtain ⟨rfl, rfl, e3⟩ := E
            have RX := (unhide P6).parts
            obtain ⟨_, _, e1, rx, _⟩ := RX
            cases e1
            have SL := samelist_any w6 a6 (some ⟨b, off, none⟩) c6 cap (ls.take j) rx (((unhide HP).later (unhide B6)).take j) (by omega) (fun l hl' => by have := unhide H4 l (List.mem_of_mem_take hl'); omega)
            rw [hjl] at SL ⊢
            have SLH := hide SL
            have hsl2 := slice_hl (some ⟨b, off, none⟩) ls.length cap j (by omega)
            clear SL rx EL FRL FRA TK hjl
            generalize (ls.getD j []).length = L at *
            generalize (frames (ls.take j)).length = RS at *
            by_cases hrk : RS = T.length
            · rw [if_pos hrk] at e3
              subst e3
              subst hrk
              go_wp2_with fail
              refine (unhide SLH).mono ?_
              rintro e w7 ⟨rfl, n7, rfl⟩
              go_wp2
              go_returns
              exact ⟨rfl, below_drewN3 (unhide B6) _⟩
            · rw [if_neg hrk] at e3
              subst e3
              have hrk' : ¬ (RS : Int) = (T.length : Int) := by omega
              go_wp2_with fail
              refine (unhide SLH).mono ?_
              rintro e w7 ⟨rfl, n7, rfl⟩
              go_wp2
              go_returns
              exact ⟨by show Ending.returned (Value.bool (!((RS : Int) == (T.length : Int)))) = _; simp; omega, below_drewN3 (unhide B6) _⟩
          · have hbr' : ¬ (T.length : Int) < ((frames (ls.take j)).length : Int) + 8 + ((ls.getD j []).length : Int) := by omega
            have hj1 : (frames (ls.take (j + 1))).length ≤ T.length := by rw [unhide EL]; omega
            have HJ1 := hide hj1
            clear hj1 TK
            generalize (ls.getD j []).length = L at *
            generalize hRS : (frames (ls.take j)).length = RS at *
            clear hRS
            go_wp2
            go_round
            case rel => exact ⟨j + 1, by omega, by go_num, by go_num, by rw [unhide EL]; go_num, unhide HJ1⟩
            case measure => simp [intOf]; omega
        · obtain rfl : j = ls.length := by omega
          rw [unhide FRA] at hjk
          omega
  · have BB := hide ((unhide B1).trans (b2.mono (unhide B1).size))
    clear b2 hno R1
    go_wp2_with fail
    refine (awake4_any w2).mono ?_
    rintro e w3 ⟨rfl, b3⟩
    have B3 := hide b3
    clear b3
    go_wp2_with fail
    refine (awake4_any w3).mono ?_
    rintro e w4 ⟨rfl, b4⟩
    have B4 := hide b4
    clear b4
    go_wp2
    go_returns
    exact ⟨rfl, unhide fin _ (unhide BB) _ (unhide B3) _ (unhide B4)⟩
end Go.Proofs.Ytcnmenfianeakaa
