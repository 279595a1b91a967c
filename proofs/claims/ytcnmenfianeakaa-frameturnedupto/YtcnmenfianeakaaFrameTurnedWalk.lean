/-
  FrameTurned walked: it answers true. Conditions: the payloads are at most 2^24.
-/
import Derived.Test.YtcnmenfianeakaaSc2
import Derived.Test.YtcnmenfianeakaaTurn
namespace Go.Proofs.Ytcnmenfianeakaa
open Go.RowKit
set_option linter.unusedVariables false

theorem rat_bytes {w : World} {a : Option Addr} {ls : List (List Nat)} (h : RAt w a ls) : ∀ p ∈ ls, ∀ x ∈ p, x < 256 := by
  intro p hp x hx
  obtain ⟨i, hi, rfl⟩ := List.getElem_of_mem hp
  obtain ⟨_, _, _, _, _, _, _, h4, _⟩ := h.cell hi
  have e : ls.getD i [] = ls[i] := by simp [List.getD, hi]
  rw [e] at h4
  exact h4.bytes x hx

theorem xor_byte {f m : Nat} (hf : f < 256) (hm : m < 8) : ∃ v : Nat, bits BinOp.xor IntKind.u8 (f : Int) (2 ^ m % 256) = (v : Int) ∧ Hid (v = f ^^^ 2 ^ m) ∧ v < 256 := by
  have hp : 2 ^ m < 256 := Nat.lt_of_le_of_lt (Nat.pow_le_pow_right (by omega) (show m ≤ 7 by omega)) (by decide)
  have e1 : ((2 : Int) ^ m % 256) = ((2 ^ m : Nat) : Int) := by
    have : ((2 ^ m : Nat) : Int) = (2 : Int) ^ m := by simp
    rw [← this]
    generalize 2 ^ m = q at *
    omega
  rw [e1]
  exact ⟨_, u8_xor_nat _ _ hf hp, rfl, Nat.xor_lt_two_pow (n := 8) hf hp⟩

set_option maxRecDepth 100000 in
set_option maxHeartbeats 1500000 in
theorem frameTurned_walk (a : Option Addr) (cap : Nat) (ls : List (List Nat)) (wh n X : Nat) (w : World) (hp : RAt w a ls) (hcp : ls.length ≤ cap) (hl : ls.length ≤ 16777216) (hwh : wh < 256) (hn : n < 65536) (hX : X < 4294967296) :
    Calls Try.prog 6 #[.slice a ls.length cap, .int .u8 (wh : Nat), .int .u16 (n : Nat), .int .u32 (X : Nat)] w fun e w' => e = .returned (.bool true) ∧ Below w.heap.size w w' := by
  have HP := hide hp
  have HBY := hide (rat_bytes hp)
  clear hp
  go_enter Try.func6, Try.ntmps6
  go_wp2_with fail
  refine (fnew_any w).mono ?_
  rintro e w1 ⟨rfl, h1, b1⟩
  have R1 := hide h1
  have B1 := hide b1
  have hfb := h1.lt
  have JO := hide (join_any w1 a cap ls ((unhide HP).later b1) hl)
  clear h1 b1
  go_wp2_with fail
  refine (unhide JO).mono ?_
  rintro e w2 ⟨v2, q, rfl, jo⟩
  clear JO
  have fin : Hid (∀ w2 : World, Below w.heap.size w w2 → ∀ w3, Below w2.heap.size w2 w3 → ∀ w4, Below w3.heap.size w3 w4 → Below w.heap.size w w4) := fun w2 b2 w3 b3 w4 b4 => by
    have := b2.trans (b3.mono b2.size)
    exact this.trans (b4.mono this.size)
  rcases jo with ⟨h4, rfl, f2⟩ | ⟨hno, rfl, rfl, b2⟩
  · have H4 := hide h4
    have R2 := hide ((unhide R1).keep (Touch.of_below (S := fun _ => False) f2.2.2) (fun h => h))
    have B2 := hide ((unhide B1).trans (f2.2.2.mono (unhide B1).size))
    have ALL2 := hide f2.1
    have hflen := frames_len_le h4
    have hfl : (frames ls).length ≤ 4104 * 16777216 := by omega
    obtain ⟨a2, c2, rfl, _, hc2, _, hn2, _⟩ := f2.1.parts
    have hs12 := f2.2.2.size
    clear f2 R1 h4 hflen
    by_cases h0 : ls.length = 0 ∨ X = 0
    · by_cases h00 : ls.length = 0
      · rw [h00] at *
        clear h00 h0
        go_wp2_with fail
        refine (awake4_any w2).mono ?_
        rintro e w3 ⟨rfl, b3⟩
        have B3 := hide b3
        clear b3
        go_wp2_with fail
        refine (awake4_any w3).mono ?_
        rintro e w4 ⟨rfl, b4⟩
        have B4 := hide b4
        clear b4
        go_wp2
        go_returns
        exact ⟨rfl, unhide fin _ (unhide B2) _ (unhide B3) _ (unhide B4)⟩
      · have hx0 : ((X : Int) == 0) = true := by simp; omega
        have h00' : ((ls.length : Int) == 0) = false := by rw [beq_eq_false_iff_ne]; omega
        clear h0 h00
        go_wp2_with fail
        refine (awake4_any w2).mono ?_
        rintro e w3 ⟨rfl, b3⟩
        have B3 := hide b3
        clear b3
        go_wp2_with fail
        refine (awake4_any w3).mono ?_
        rintro e w4 ⟨rfl, b4⟩
        have B4 := hide b4
        clear b4
        go_wp2
        go_returns
        exact ⟨rfl, unhide fin _ (unhide B2) _ (unhide B3) _ (unhide B4)⟩
    · have hl0 : ¬ ls.length = 0 := fun e => h0 (.inl e)
      have hX0 : ¬ X = 0 := fun e => h0 (.inr e)
      have hl0' : ((ls.length : Int) == 0) = false := by rw [beq_eq_false_iff_ne]; omega
      have hX0' : ((X : Int) == 0) = false := by simp; omega
      have HX0 := hide hX0
      clear h0 hX0
      go_wp2_with fail
      refine (awake4_any w2).mono ?_
      rintro e w3 ⟨rfl, b3⟩
      have R3 := hide ((unhide R2).keep (Touch.of_below (S := fun _ => False) b3) (fun h => h))
      have B3 := hide ((unhide B2).trans (b3.mono (unhide B2).size))
      have ALL3 := (unhide ALL2).later b3
      obtain ⟨_, _, e1, la3, _⟩ := ALL3.parts
      cases e1
      have LA3 := hide la3
      have hs23 := b3.size
      have FB := hide (frames_bytes (unhide HBY))
      have FRL : Hid (∀ j, j < ls.length → (frames (ls.take (j + 1))).length = (frames (ls.take j)).length + 8 + (ls.getD j []).length) := fun j hj => by rw [frames_take_succ hj, List.length_append, fenc_len]; omega
      have FRM : Hid (∀ j, j ≤ ls.length → (frames (ls.take j)).length ≤ (frames ls).length) := fun j hj => by
        conv => rhs; rw [take_frames ls j, List.length_append]
        omega
      obtain ⟨k, hk⟩ : ∃ k, k = wh % ls.length := ⟨_, rfl⟩
      have hkl : k < ls.length := by rw [hk]; exact Nat.mod_lt _ (by omega)
      have hkk : (wh : Int) % (ls.length : Int) = (k : Int) := by rw [hk]; omega
      clear hk
      have h4k := unhide H4 _ (getD_mem_l hkl)
      have EK := unhide FRL k hkl
      have EK2 := unhide FRM (k + 1) (by omega)
      have TURN : Hid (∀ (c : List Nat) (K bit : Nat), c.length = (frames ls).length → (∀ x ∈ c, x < 256) → Turn (fn (frames ls)) (fn c) K X 32 (frames ls).length → (K = 8 * ((frames (ls.take k)).length + 4) ∨ (K = 8 * ((frames (ls.take k)).length + 8) + bit ∧ bit + 32 ≤ 8 * (ls.getD k []).length)) → scan c = (ls.take k, (frames (ls.take k)).length, 8)) := fun c K bit g1 g2 g3 g4 => scan_turn (unhide H4) g1 g2 (unhide FB) hkl hX (unhide HX0) g3 g4
      have hBl : (frames (ls.take k)).length + 8 + (ls.getD k []).length ≤ (frames ls).length := by omega
      clear b3 R2 B2 ALL2 ALL3 la3 EK EK2
      go_wp2_with fail
      go_loop [13, 14] (fun rs ix => ∃ j : Nat, j ≤ k ∧ ix = .int .i64 j ∧ rs = .int .i64 ((frames (ls.take j)).length : Nat)) (fun _ ix => k - (intOf ix).toNat)
      case atStart => exact ⟨0, Nat.zero_le _, rfl, rfl⟩
      case round =>
        obtain ⟨j, hj, rfl, rfl⟩ := hrel
        by_cases hjc : j < k
        · have hjc' : (j : Int) < (k : Int) := by omega
          have hjc2 : (j : Int) < (ls.length : Int) := by omega
          obtain ⟨b, off, x, c, rfl, _, hcell, _⟩ := ((unhide HP).later (unhide B3)).cell (show j < ls.length by omega)
          have EL := hide (unhide FRL j (by omega))
          have h4j := unhide H4 _ (getD_mem_l (show j < ls.length by omega))
          have hmj := unhide FRM j (by omega)
          have HMJ := hide hmj
          clear TURN hBl h4k
          generalize (ls.getD j []).length = L at *
          generalize hRS : (frames (ls.take j)).length = RS at *
          clear hRS
          go_wp2
          go_round
          case rel => exact ⟨j + 1, by omega, by go_num, by rw [unhide EL]; go_num⟩
          case measure => simp [intOf]; omega
        · obtain rfl : j = k := by omega
          have hjc' : ¬ (j : Int) < (j : Int) := by omega
          have hkl' : (j : Int) < (ls.length : Int) := by omega
          obtain ⟨b, off, x, c, rfl, _, hcell, _⟩ := ((unhide HP).later (unhide B3)).cell hkl
          have hjl : (ls.take j).length ≤ j := by rw [List.length_take]; omega
          have hjl2 : Hid ((ls.take j).length = j) := by show _ = _; rw [List.length_take]; omega
          have RT := hide (((unhide HP).take j))
          have LE := hide (fun (l : List Nat) (hl' : l ∈ ls.take j) => unhide H4 l (List.mem_of_mem_take hl'))
          have hsl2 := slice_hl (some ⟨b, off, none⟩) ls.length cap j (by omega)
          clear FRL FRM HBY FB
          generalize (ls.getD j []).length = P at *
          generalize hB : (frames (ls.take j)).length = B at *
          clear hB
          generalize frames ls = FR at *
          generalize ls.take j = LT at *
          by_cases hcs : 5 ≤ P ∧ 0 < n % 3
          · obtain ⟨h5, h3⟩ := hcs
            have h5' : (5 : Int) ≤ (P : Int) := by omega
            have h3' : (0 : Int) < (n : Int) % 3 := by omega
            obtain ⟨bt, hbt⟩ : ∃ bt, bt = n % (8 * P - 31) := ⟨_, rfl⟩
            have hbl : bt + 32 ≤ 8 * P := by have := Nat.mod_lt n (show 0 < 8 * P - 31 by omega); omega
            have hbb : (n : Int) % (8 * (P : Int) - 31) = (bt : Int) := by
              have e : 8 * (P : Int) - 31 = ((8 * P - 31 : Nat) : Int) := by omega
              rw [e, hbt]; simp
            clear hbt
            have R0 := hide (Row.lit w3 [] (fun x hx => by cases hx) #[] rfl (by simp [maxLen]))
            have HL3 := hide ((unhide LA3).keep ((Touch.refl (fun _ => False) w3).alloc (.cells #[] 5)) (fun _ _ _ h => h))
            go_wp2_with (at_builtin; refine wpList_row _ rfl (.tmp 88) (.tmp 89) rfl _ [] rfl (unhide R0) a2 c2 FR rfl (unhide HL3) hn2 (by simp; omega) ?_)
            intro v5 w5 r5 t5 m5
            have F5 : Fresh w3 w5 v5 FR := fresh_copy4 r5 t5 m5
            have R5 := hide ((unhide R3).keep (Touch.of_below (S := fun _ => False) F5.2.2) (fun h => h))
            have B5 := hide ((unhide B3).trans (F5.2.2.mono (unhide B3).size))
            have N5 := hide F5.2.1
            have hs35 := F5.2.2.size
            have C5 := hide F5.1
            obtain ⟨a5, c5, rfl, _⟩ := F5.1.parts
            clear r5 t5 m5 F5 R0 HL3 R3 B3
            go_wp2_with fail
            go_loopw [20] (fun i wr => ∃ (j : Nat) (l : List Nat), j ≤ 32 ∧ i = .int .i64 j ∧ l.length = FR.length ∧ Row wr (.slice a5 FR.length c5) l ∧ Turn (fn FR) (fn l) (8 * (B + 8) + bt) X j FR.length ∧ Ready wr w.heap.size ∧ Below w.heap.size w wr) (fun i _ => 32 - (intOf i).toNat)
            case atStart => exact ⟨0, FR, Nat.zero_le _, rfl, rfl, unhide C5, Turn.zero _ _ _ _, unhide R5, unhide B5⟩
            case round =>
              obtain ⟨i, l, hi, rfl, hll, rl, ht, hrd, hbe⟩ := hrel
              have HLL := hide hll
              have RL := hide rl
              have HT := hide ht
              have HRD := hide hrd
              have HBE := hide hbe
              clear hll rl ht hrd hbe C5 R5 B5
              by_cases hlt : i < 32
              · have hlt' : (i : Int) < 32 := by omega
                have hB := and_bit32 X i hX
                cases hb : X.testBit i
                · rw [hb] at hB
                  have HBT := hide hb
                  clear hb
                  go_wp2
                  go_roundw
                  case rel => exact ⟨i + 1, l, by omega, by go_num, unhide HLL, unhide RL, (unhide HT).miss (unhide HBT), unhide HRD, unhide HBE⟩
                  case measure => simp [intOf]; omega
                · rw [hb] at hB
                  have HBT := hide hb
                  clear hb
                  have hqz : B + 8 + (bt + i) / 8 < FR.length := by omega
                  have hqz' : ((B + 8 + (bt + i) / 8 : Nat) : Int) < (FR.length : Int) := by omega
                  have hfl2 : fn l (B + 8 + (bt + i) / 8) < 256 := fn_lt (unhide RL).bytes (by rw [unhide HLL]; exact hqz)
                  obtain ⟨v, hv, ev, lv⟩ := xor_byte (m := (bt + i) % 8) hfl2 (by omega)
                  obtain ⟨gg, rfl, ⟨y, hcell⟩, hfz, rl2, tl2⟩ := (unhide RL).put (k := B + 8 + (bt + i) / 8) hqz (x := v) lv
                  have hcy : y = fn l (B + 8 + (bt + i) / 8) := by
                    obtain ⟨_, _, e1, lq, _⟩ := (unhide RL).parts
                    simp only [Value.slice.injEq] at e1
                    obtain ⟨rfl, _, rfl⟩ := e1
                    obtain ⟨_, _, e1, _, e3, _⟩ := lq.cell (i := B + 8 + (bt + i) / 8) (by rw [unhide HLL]; exact hqz)
                    cases e1
                    rw [Nat.zero_add, hcell] at e3
                    have : (y : Int) = (l.getD (B + 8 + (bt + i) / 8) 0 : Nat) := by simpa using e3
                    unfold fn; omega
                  subst hcy
                  have TT := (unhide HT).hit (unhide HBT)
                  have eq1 : (8 * (B + 8) + bt + i) / 8 = B + 8 + (bt + i) / 8 := by omega
                  have eq2 : (8 * (B + 8) + bt + i) % 8 = (bt + i) % 8 := by omega
                  rw [eq1, eq2, ← unhide ev, ← fn_set (by rw [unhide HLL]; exact hqz)] at TT
                  have F : Hid ((l.set (B + 8 + (bt + i) / 8) v).length = FR.length ∧ Row (wr.setCell ⟨gg, B + 8 + (bt + i) / 8, none⟩ (.int .u8 (v : Nat))) (.slice (some ⟨gg, 0, none⟩) FR.length c5) (l.set (B + 8 + (bt + i) / 8) v) ∧ Turn (fn FR) (fn (l.set (B + 8 + (bt + i) / 8) v)) (8 * (B + 8) + bt) X (i + 1) FR.length ∧ Ready (wr.setCell ⟨gg, B + 8 + (bt + i) / 8, none⟩ (.int .u8 (v : Nat))) w.heap.size ∧ Below w.heap.size w (wr.setCell ⟨gg, B + 8 + (bt + i) / 8, none⟩ (.int .u8 (v : Nat)))) := by
                    refine ⟨by rw [List.length_set]; exact unhide HLL, rl2, TT, (unhide HRD).keep tl2 (fun e => by have := unhide N5 _ e; omega), below_touch (unhide HBE) tl2 (unhide HBE).size (fun i hi => by have := unhide N5 _ hi; omega)⟩
                  clear rl2 tl2 TT eq1 eq2 RL HT HRD HBE HLL hfl2
                  generalize fn l (B + 8 + (bt + i) / 8) = fl at *
                  go_wp2
                  go_roundw
                  case rel => exact ⟨i + 1, _, by omega, by go_num, unhide F⟩
                  case measure => simp [intOf]; omega
              · obtain rfl : i = 32 := by omega
                have hlt' : ¬ ((32 : Nat) : Int) < 32 := by omega
                obtain ⟨_, _, e1, l7, hc7, _, hn7, ho7, _⟩ := (unhide RL).parts
                have hll := unhide HLL
                rw [hll] at e1 hc7
                cases e1
                have SC := unhide TURN l (8 * (B + 8) + bt) bt (unhide HLL) (unhide RL).bytes (unhide HT) (.inr ⟨rfl, hbl⟩)
                have S1 := fscan_any (unhide HRD) l7 hn7 (by rw [hll]; exact hc7) (fun h0 x hx => by have := unhide N5 _ (ho7 x hx); omega) (by omega)
                rw [SC, hll] at S1
                have S1H := hide S1
                have B7 := hide (unhide HBE)
                clear S1 SC l7 hc7 hn7 ho7 RL HT HRD HBE HLL TURN hll
                go_wp2_with fail
                refine (unhide S1H).mono ?_
                rintro e w8 ⟨v8, rfl, p8, n8, d8⟩
                have B8 := hide (below_touch (unhide B7) d8.touch (unhide B7).size (fun i hi => by omega))
                obtain ⟨a8, c8, rfl, r8, _⟩ := p8.parts
                have SL := samelist_any w8 a8 (some ⟨b, off, none⟩) c8 cap LT r8 ((unhide RT).later (unhide B8)) (by omega) (fun l hl' => by have := unhide LE l hl'; omega)
                rw [unhide hjl2] at SL ⊢
                have SLH := hide SL
                clear SL p8 n8 d8 r8 S1H
                go_wp2_with fail
                refine (unhide SLH).mono ?_
                rintro e w9 ⟨rfl, n9, rfl⟩
                go_wp2
                go_returns
                exact ⟨rfl, below_drewN3 (unhide B8) _⟩
          · clear hsl2
            have hsl2 := slice_hl (some ⟨b, off, none⟩) ls.length cap j (by omega)
            by_cases h5 : 5 ≤ P
            · have h5' : (5 : Int) ≤ (P : Int) := by omega
              have h3' : ¬ (0 : Int) < (n : Int) % 3 := by omega
              have R0 := hide (Row.lit w3 [] (fun x hx => by cases hx) #[] rfl (by simp [maxLen]))
              have HL3 := hide ((unhide LA3).keep ((Touch.refl (fun _ => False) w3).alloc (.cells #[] 5)) (fun _ _ _ h => h))
              go_wp2_with (at_builtin; refine wpList_row _ rfl (.tmp 88) (.tmp 89) rfl _ [] rfl (unhide R0) a2 c2 FR rfl (unhide HL3) hn2 (by simp; omega) ?_)
              intro v5 w5 r5 t5 m5
              have F5 : Fresh w3 w5 v5 FR := fresh_copy4 r5 t5 m5
              have R5 := hide ((unhide R3).keep (Touch.of_below (S := fun _ => False) F5.2.2) (fun h => h))
              have B5 := hide ((unhide B3).trans (F5.2.2.mono (unhide B3).size))
              have N5 := hide F5.2.1
              have hs35 := F5.2.2.size
              have C5 := hide F5.1
              obtain ⟨a5, c5, rfl, _⟩ := F5.1.parts
              clear r5 t5 m5 F5 R0 HL3 R3 B3
              go_wp2_with fail
              go_loopw [20] (fun i wr => ∃ (j : Nat) (l : List Nat), j ≤ 32 ∧ i = .int .i64 j ∧ l.length = FR.length ∧ Row wr (.slice a5 FR.length c5) l ∧ Turn (fn FR) (fn l) (8 * (B + 4)) X j FR.length ∧ Ready wr w.heap.size ∧ Below w.heap.size w wr) (fun i _ => 32 - (intOf i).toNat)
              case atStart => exact ⟨0, FR, Nat.zero_le _, rfl, rfl, unhide C5, Turn.zero _ _ _ _, unhide R5, unhide B5⟩
              case round =>
                obtain ⟨i, l, hi, rfl, hll, rl, ht, hrd, hbe⟩ := hrel
                have HLL := hide hll
                have RL := hide rl
                have HT := hide ht
                have HRD := hide hrd
                have HBE := hide hbe
                clear hll rl ht hrd hbe C5 R5 B5
                by_cases hlt : i < 32
                · have hlt' : (i : Int) < 32 := by omega
                  have hB := and_bit32 X i hX
                  cases hb : X.testBit i
                  · rw [hb] at hB
                    have HBT := hide hb
                    clear hb
                    go_wp2
                    go_roundw
                    case rel => exact ⟨i + 1, l, by omega, by go_num, unhide HLL, unhide RL, (unhide HT).miss (unhide HBT), unhide HRD, unhide HBE⟩
                    case measure => simp [intOf]; omega
                  · rw [hb] at hB
                    have HBT := hide hb
                    clear hb
                    have hqz : B + 4 + i / 8 < FR.length := by omega
                    have hqz' : ((B + 4 + i / 8 : Nat) : Int) < (FR.length : Int) := by omega
                    have hfl2 : fn l (B + 4 + i / 8) < 256 := fn_lt (unhide RL).bytes (by rw [unhide HLL]; exact hqz)
                    obtain ⟨v, hv, ev, lv⟩ := xor_byte (m := i % 8) hfl2 (by omega)
                    obtain ⟨gg, rfl, ⟨y, hcell⟩, hfz, rl2, tl2⟩ := (unhide RL).put (k := B + 4 + i / 8) hqz (x := v) lv
                    have hcy : y = fn l (B + 4 + i / 8) := by
                      obtain ⟨_, _, e1, lq, _⟩ := (unhide RL).parts
                      simp only [Value.slice.injEq] at e1
                      obtain ⟨rfl, _, rfl⟩ := e1
                      obtain ⟨_, _, e1, _, e3, _⟩ := lq.cell (i := B + 4 + i / 8) (by rw [unhide HLL]; exact hqz)
                      cases e1
                      rw [Nat.zero_add, hcell] at e3
                      have : (y : Int) = (l.getD (B + 4 + i / 8) 0 : Nat) := by simpa using e3
                      unfold fn; omega
                    subst hcy
                    have TT := (unhide HT).hit (unhide HBT)
                    have eq1 : (8 * (B + 4) + i) / 8 = B + 4 + i / 8 := by omega
                    have eq2 : (8 * (B + 4) + i) % 8 = i % 8 := by omega
                    rw [eq1, eq2, ← unhide ev, ← fn_set (by rw [unhide HLL]; exact hqz)] at TT
                    have F : Hid ((l.set (B + 4 + i / 8) v).length = FR.length ∧ Row (wr.setCell ⟨gg, B + 4 + i / 8, none⟩ (.int .u8 (v : Nat))) (.slice (some ⟨gg, 0, none⟩) FR.length c5) (l.set (B + 4 + i / 8) v) ∧ Turn (fn FR) (fn (l.set (B + 4 + i / 8) v)) (8 * (B + 4)) X (i + 1) FR.length ∧ Ready (wr.setCell ⟨gg, B + 4 + i / 8, none⟩ (.int .u8 (v : Nat))) w.heap.size ∧ Below w.heap.size w (wr.setCell ⟨gg, B + 4 + i / 8, none⟩ (.int .u8 (v : Nat)))) := by
                      refine ⟨by rw [List.length_set]; exact unhide HLL, rl2, TT, (unhide HRD).keep tl2 (fun e => by have := unhide N5 _ e; omega), below_touch (unhide HBE) tl2 (unhide HBE).size (fun i hi => by have := unhide N5 _ hi; omega)⟩
                    clear rl2 tl2 TT eq1 eq2 RL HT HRD HBE HLL hfl2
                    generalize fn l (B + 4 + i / 8) = fl at *
                    go_wp2
                    go_roundw
                    case rel => exact ⟨i + 1, _, by omega, by go_num, unhide F⟩
                    case measure => simp [intOf]; omega
                · obtain rfl : i = 32 := by omega
                  have hlt' : ¬ ((32 : Nat) : Int) < 32 := by omega
                  obtain ⟨_, _, e1, l7, hc7, _, hn7, ho7, _⟩ := (unhide RL).parts
                  have hll := unhide HLL
                  rw [hll] at e1 hc7
                  cases e1
                  have SC := unhide TURN l (8 * (B + 4)) 0 (unhide HLL) (unhide RL).bytes (unhide HT) (.inl rfl)
                  have S1 := fscan_any (unhide HRD) l7 hn7 (by rw [hll]; exact hc7) (fun h0 x hx => by have := unhide N5 _ (ho7 x hx); omega) (by omega)
                  rw [SC, hll] at S1
                  have S1H := hide S1
                  have B7 := hide (unhide HBE)
                  clear S1 SC l7 hc7 hn7 ho7 RL HT HRD HBE HLL TURN hll
                  go_wp2_with fail
                  refine (unhide S1H).mono ?_
                  rintro e w8 ⟨v8, rfl, p8, n8, d8⟩
                  have B8 := hide (below_touch (unhide B7) d8.touch (unhide B7).size (fun i hi => by omega))
                  obtain ⟨a8, c8, rfl, r8, _⟩ := p8.parts
                  have SL := samelist_any w8 a8 (some ⟨b, off, none⟩) c8 cap LT r8 ((unhide RT).later (unhide B8)) (by omega) (fun l hl' => by have := unhide LE l hl'; omega)
                  rw [unhide hjl2] at SL ⊢
                  have SLH := hide SL
                  clear SL p8 n8 d8 r8 S1H
                  go_wp2_with fail
                  refine (unhide SLH).mono ?_
                  rintro e w9 ⟨rfl, n9, rfl⟩
                  go_wp2
                  go_returns
                  exact ⟨rfl, below_drewN3 (unhide B8) _⟩
            · have h5' : ¬ (5 : Int) ≤ (P : Int) := by omega
              have R0 := hide (Row.lit w3 [] (fun x hx => by cases hx) #[] rfl (by simp [maxLen]))
              have HL3 := hide ((unhide LA3).keep ((Touch.refl (fun _ => False) w3).alloc (.cells #[] 5)) (fun _ _ _ h => h))
              go_wp2_with (at_builtin; refine wpList_row _ rfl (.tmp 88) (.tmp 89) rfl _ [] rfl (unhide R0) a2 c2 FR rfl (unhide HL3) hn2 (by simp; omega) ?_)
              intro v5 w5 r5 t5 m5
              have F5 : Fresh w3 w5 v5 FR := fresh_copy4 r5 t5 m5
              have R5 := hide ((unhide R3).keep (Touch.of_below (S := fun _ => False) F5.2.2) (fun h => h))
              have B5 := hide ((unhide B3).trans (F5.2.2.mono (unhide B3).size))
              have N5 := hide F5.2.1
              have hs35 := F5.2.2.size
              have C5 := hide F5.1
              obtain ⟨a5, c5, rfl, _⟩ := F5.1.parts
              clear r5 t5 m5 F5 R0 HL3 R3 B3
              go_wp2_with fail
              go_loopw [20] (fun i wr => ∃ (j : Nat) (l : List Nat), j ≤ 32 ∧ i = .int .i64 j ∧ l.length = FR.length ∧ Row wr (.slice a5 FR.length c5) l ∧ Turn (fn FR) (fn l) (8 * (B + 4)) X j FR.length ∧ Ready wr w.heap.size ∧ Below w.heap.size w wr) (fun i _ => 32 - (intOf i).toNat)
              case atStart => exact ⟨0, FR, Nat.zero_le _, rfl, rfl, unhide C5, Turn.zero _ _ _ _, unhide R5, unhide B5⟩
              case round =>
                obtain ⟨i, l, hi, rfl, hll, rl, ht, hrd, hbe⟩ := hrel
                have HLL := hide hll
                have RL := hide rl
                have HT := hide ht
                have HRD := hide hrd
                have HBE := hide hbe
                clear hll rl ht hrd hbe C5 R5 B5
                by_cases hlt : i < 32
                · have hlt' : (i : Int) < 32 := by omega
                  have hB := and_bit32 X i hX
                  cases hb : X.testBit i
                  · rw [hb] at hB
                    have HBT := hide hb
                    clear hb
                    go_wp2
                    go_roundw
                    case rel => exact ⟨i + 1, l, by omega, by go_num, unhide HLL, unhide RL, (unhide HT).miss (unhide HBT), unhide HRD, unhide HBE⟩
                    case measure => simp [intOf]; omega
                  · rw [hb] at hB
                    have HBT := hide hb
                    clear hb
                    have hqz : B + 4 + i / 8 < FR.length := by omega
                    have hqz' : ((B + 4 + i / 8 : Nat) : Int) < (FR.length : Int) := by omega
                    have hfl2 : fn l (B + 4 + i / 8) < 256 := fn_lt (unhide RL).bytes (by rw [unhide HLL]; exact hqz)
                    obtain ⟨v, hv, ev, lv⟩ := xor_byte (m := i % 8) hfl2 (by omega)
                    obtain ⟨gg, rfl, ⟨y, hcell⟩, hfz, rl2, tl2⟩ := (unhide RL).put (k := B + 4 + i / 8) hqz (x := v) lv
                    have hcy : y = fn l (B + 4 + i / 8) := by
                      obtain ⟨_, _, e1, lq, _⟩ := (unhide RL).parts
                      simp only [Value.slice.injEq] at e1
                      obtain ⟨rfl, _, rfl⟩ := e1
                      obtain ⟨_, _, e1, _, e3, _⟩ := lq.cell (i := B + 4 + i / 8) (by rw [unhide HLL]; exact hqz)
                      cases e1
                      rw [Nat.zero_add, hcell] at e3
                      have : (y : Int) = (l.getD (B + 4 + i / 8) 0 : Nat) := by simpa using e3
                      unfold fn; omega
                    subst hcy
                    have TT := (unhide HT).hit (unhide HBT)
                    have eq1 : (8 * (B + 4) + i) / 8 = B + 4 + i / 8 := by omega
                    have eq2 : (8 * (B + 4) + i) % 8 = i % 8 := by omega
                    rw [eq1, eq2, ← unhide ev, ← fn_set (by rw [unhide HLL]; exact hqz)] at TT
                    have F : Hid ((l.set (B + 4 + i / 8) v).length = FR.length ∧ Row (wr.setCell ⟨gg, B + 4 + i / 8, none⟩ (.int .u8 (v : Nat))) (.slice (some ⟨gg, 0, none⟩) FR.length c5) (l.set (B + 4 + i / 8) v) ∧ Turn (fn FR) (fn (l.set (B + 4 + i / 8) v)) (8 * (B + 4)) X (i + 1) FR.length ∧ Ready (wr.setCell ⟨gg, B + 4 + i / 8, none⟩ (.int .u8 (v : Nat))) w.heap.size ∧ Below w.heap.size w (wr.setCell ⟨gg, B + 4 + i / 8, none⟩ (.int .u8 (v : Nat)))) := by
                      refine ⟨by rw [List.length_set]; exact unhide HLL, rl2, TT, (unhide HRD).keep tl2 (fun e => by have := unhide N5 _ e; omega), below_touch (unhide HBE) tl2 (unhide HBE).size (fun i hi => by have := unhide N5 _ hi; omega)⟩
                    clear rl2 tl2 TT eq1 eq2 RL HT HRD HBE HLL hfl2
                    generalize fn l (B + 4 + i / 8) = fl at *
                    go_wp2
                    go_roundw
                    case rel => exact ⟨i + 1, _, by omega, by go_num, unhide F⟩
                    case measure => simp [intOf]; omega
                · obtain rfl : i = 32 := by omega
                  have hlt' : ¬ ((32 : Nat) : Int) < 32 := by omega
                  obtain ⟨_, _, e1, l7, hc7, _, hn7, ho7, _⟩ := (unhide RL).parts
                  have hll := unhide HLL
                  rw [hll] at e1 hc7
                  cases e1
                  have SC := unhide TURN l (8 * (B + 4)) 0 (unhide HLL) (unhide RL).bytes (unhide HT) (.inl rfl)
                  have S1 := fscan_any (unhide HRD) l7 hn7 (by rw [hll]; exact hc7) (fun h0 x hx => by have := unhide N5 _ (ho7 x hx); omega) (by omega)
                  rw [SC, hll] at S1
                  have S1H := hide S1
                  have B7 := hide (unhide HBE)
                  clear S1 SC l7 hc7 hn7 ho7 RL HT HRD HBE HLL TURN hll
                  go_wp2_with fail
                  refine (unhide S1H).mono ?_
                  rintro e w8 ⟨v8, rfl, p8, n8, d8⟩
                  have B8 := hide (below_touch (unhide B7) d8.touch (unhide B7).size (fun i hi => by omega))
                  obtain ⟨a8, c8, rfl, r8, _⟩ := p8.parts
                  have SL := samelist_any w8 a8 (some ⟨b, off, none⟩) c8 cap LT r8 ((unhide RT).later (unhide B8)) (by omega) (fun l hl' => by have := unhide LE l hl'; omega)
                  rw [unhide hjl2] at SL ⊢
                  have SLH := hide SL
                  clear SL p8 n8 d8 r8 S1H
                  go_wp2_with fail
                  refine (unhide SLH).mono ?_
                  rintro e w9 ⟨rfl, n9, rfl⟩
                  go_wp2
                  go_returns
                  exact ⟨rfl, below_drewN3 (unhide B8) _⟩
  · have BB := hide ((unhide B1).trans (b2.mono (unhide B1).size))
    clear b2 hno R1
    go_wp2_with fail
    refine (awake4_any w2).mono ?_
    rintro e w3 ⟨rfl, b3⟩
    have B3 := hide b3
    clear b3
    go_wp2_with fail
    refine (awake4_any w3).mono ?_
    rintro e w4 ⟨rfl, b4⟩
    have B4 := hide b4
    clear b4
    go_wp2
    go_returns
    exact ⟨rfl, unhide fin _ (unhide BB) _ (unhide B3) _ (unhide B4)⟩
end Go.Proofs.Ytcnmenfianeakaa
