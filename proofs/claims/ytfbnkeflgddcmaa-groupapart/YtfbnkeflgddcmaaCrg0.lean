/-
  Records as bytes: Encode and the document's, in plain words. Conditions: the numbers are those of their type.
-/
import Derived.Test.YtfbnkeflgddcmaaIl0
import Derived.Test.YtfbnkeflgddcmaaWc
import Derived.Test.YtfbnkeflgddcmaaRf3
import Derived.Test.YtfbnkeflgddcmaaRfe
import Derived.Deep.CutBlock
namespace Go.Proofs.Ytfbnkeflgddcmaa
open Go.RowKit
set_option linter.unusedVariables false

/-- A record, in plain words. -/
structure Rx where
  kd : Int
  gr : Int
  gen : Int
  l : List Int
  pt : Int
  off : Int
def J64 (x : Int) : Prop := -9223372036854775808 ≤ x ∧ x < 9223372036854775808
abbrev rxA (r : Rx) (a : Option Addr) (k : Nat) : Array Value := #[.int .i64 r.kd, .int .i64 r.gr, .int .i64 r.gen, .slice a r.l.length k, .int .i64 r.pt, .int .i64 r.off]
structure RFit (r : Rx) : Prop where
  kd : J64 r.kd
  gr : J64 r.gr
  gen : J64 r.gen
  l : ∀ x ∈ r.l, -9223372036854775808 ≤ x ∧ x < 9223372036854775808
  pt : J64 r.pt
  off : J64 r.off
def encR (r : Rx) : List Nat := (((((enc (zig r.kd)) ++ enc (zig r.gr)) ++ enc (zig r.gen)) ++ enc (zig r.pt)) ++ enc (zig r.off)) ++ (enc r.l.length ++ encL r.l)
def rises (z : Int) : List Int → Bool
  | [] => true
  | x :: r => decide (z < x) && rises x r
theorem rises_drop {l : List Int} {k : Nat} (h : k < l.length) (z : Int) : rises z (l.drop k) = (decide (z < l.getD k 0) && rises (l.getD k 0) (l.drop (k + 1))) := by
  rw [List.drop_eq_getElem_cons h]
  simp only [rises, List.getD, List.getElem?_eq_getElem h, Option.getD_some]
def isR (r : Rx) : Bool := (decide (r.kd = 1) || decide (r.kd = 2)) && (decide (0 ≤ r.gr ∧ r.gr < 8) && (decide (0 ≤ r.gen) && (decide (0 ≤ r.pt) && (decide (r.pt < 4) && (decide (0 ≤ r.off) && (rises (-1) r.l && decide ((r.l.length : Int) ≤ 8)))))))
theorem isR_few {r : Rx} (h : isR r = true) : r.l.length ≤ 8 := by
  unfold isR at h
  simp only [Bool.and_eq_true, decide_eq_true_eq] at h
  omega
set_option maxHeartbeats 1000000 in
theorem areM_any {w : World} {a : Option Addr} {l : List Int} {c : Nat} (hl : IAt w a l) (hm : l.length ≤ maxLen) :
    Calls Try.prog 48 #[.slice a l.length c] w fun e w' => e = .returned (.bool (rises (-1) l && decide ((l.length : Int) ≤ 8))) ∧ w' = w := by
  have HI := hide hl
  have HM := hide hm
  generalize hn : l.length = n
  have HN := hide hn
  obtain ⟨R, HR⟩ : ∃ R, Hid (R = rises (-1) l) := ⟨_, hide rfl⟩
  rw [← unhide HR]
  clear hl hm hn
  go_enter Try.func48, Try.ntmps48
  go_wp2
  go_loopg [3, 5, 8] n (fun gg s3 _ s8 wr => ∃ (kk : Nat) (z : Int), kk ≤ n ∧ n - kk ≤ gg ∧ s3 = .int .i64 z ∧ s8 = .int .i64 kk ∧ wr = w ∧ Hid (R = rises z (l.drop kk)))
  case atStart => exact ⟨0, -1, Nat.zero_le _, by omega, rfl, rfl, rfl, HR⟩
  case round =>
    obtain ⟨kk, z, hkk, hg, rfl, rfl, rfl, A⟩ := hrel
    by_cases hlt : kk < n
    · have hltz : (kk : Int) < (n : Int) := by omega
      have hk' : kk < l.length := by rw [unhide HN]; exact hlt
      have hbig : n ≤ 9223372036854775807 := by have := unhide HM; rw [unhide HN] at this; unfold maxLen at this; omega
      obtain ⟨b, off, rfl, hb0, hcell⟩ := (unhide HI) kk hk'
      have HS := hide (rises_drop hk' z)
      clear hk' hb0
      generalize l.getD kk 0 = y at *
      by_cases hy : y ≤ z
      · have hR : Hid (R = false) := hide (by
          rw [unhide A, unhide HS]
          have : ¬ z < y := by omega
          simp [this])
        go_wp2
        go_ret
        exact ⟨by rw [unhide hR]; rfl, rfl⟩
      · have hy' : z < y := by omega
        have A2 : Hid (R = rises y (l.drop (kk + 1))) := hide (by rw [unhide A, unhide HS]; simp [hy'])
        clear A HS
        go_wp2
        go_roundg (n - (kk + 1))
        case measure => omega
        case rel => exact ⟨kk + 1, y, by omega, by omega, rfl, by go_num, rfl, A2⟩
    · have hltz : ¬ (kk : Int) < (n : Int) := by omega
      have e : kk = n := by omega
      have hR : Hid (R = true) := hide (by
        rw [unhide A, e, ← unhide HN, List.drop_length]; rfl)
      clear A
      by_cases h8 : (n : Int) ≤ 8
      · go_wp2
        go_ret
        exact ⟨by rw [unhide hR]; simp [*], rfl⟩
      · go_wp2
        go_ret
        exact ⟨by rw [unhide hR]; simp [*], rfl⟩
theorem isGroup_any (n : Int) (w : World) : Calls Try.prog 29 #[.int .i64 n] w fun e w' => e = .returned (.bool (decide (0 ≤ n ∧ n < 8))) ∧ w' = w := by
  go_enter Try.func29, Try.ntmps29
  by_cases h0 : 0 ≤ n
  · by_cases h1 : n < 8
    · go_wp2
      go_ret
      simp [h0, h1]
    · go_wp2
      go_ret
      simp [h1]
  · go_wp2
    go_ret
    simp
    omega
set_option maxHeartbeats 8000000 in
theorem isRec_any (w : World) (r : Rx) (a : Option Addr) (k : Nat) (hi : IAt w a r.l) (hl : r.l.length ≤ maxLen) : Calls Try.prog 40 #[.agg (rxA r a k)] w fun e w' => e = .returned (.bool (isR r)) ∧ Below w.heap.size w w' := by
  have B := hide ((Below.refl w.heap.size w).alloc (Nat.le_refl _) (.cells (rxA r a k) 29))
  have KM := hide (areM_any (w := w.alloc (.cells (rxA r a k) 29)) (c := k) (hi.later (unhide B)) hl)
  have KG := hide (isGroup_any r.gr (w.alloc (.cells (rxA r a k) 29)))
  obtain ⟨kd, gr, gen, l, pt, off⟩ := r
  unfold isR rxA at *
  simp only at KM KG hl ⊢
  generalize decide (0 ≤ gr ∧ gr < 8) = qg at *
  generalize (rises (-1) l && decide ((l.length : Int) ≤ 8)) = qm at *
  clear hi hl
  generalize l.length = n at *
  obtain ⟨Q, HQ⟩ : ∃ Q, Hid (Q = (decide (kd = 1) || decide (kd = 2))) := ⟨_, hide rfl⟩
  rw [← unhide HQ]
  by_cases h1 : kd = 1
  · subst h1
    cases qg with
    | false =>
      go_enter Try.func40, Try.ntmps40
      go_wp2_with (first | (go_at_call 29; refine (unhide KG).mono ?_; rintro e w2 ⟨rfl, rfl⟩) | (go_at_call 48; refine (unhide KM).mono ?_; rintro e w3 ⟨rfl, rfl⟩))
      go_returns
      exact ⟨by rw [unhide HQ]; (simp [*]) <;> (intros; omega), unhide B⟩
    | true =>
      by_cases h3 : 0 ≤ gen
      · by_cases h4 : 0 ≤ pt
        · by_cases h5 : pt < 4
          · by_cases h6 : 0 ≤ off
            · cases qm
              all_goals
                go_enter Try.func40, Try.ntmps40
                go_wp2_with (first | (go_at_call 29; refine (unhide KG).mono ?_; rintro e w2 ⟨rfl, rfl⟩) | (go_at_call 48; refine (unhide KM).mono ?_; rintro e w3 ⟨rfl, rfl⟩))
                go_returns
                exact ⟨by rw [unhide HQ]; (simp [*]) <;> (intros; omega), unhide B⟩
            ·
              go_enter Try.func40, Try.ntmps40
              go_wp2_with (first | (go_at_call 29; refine (unhide KG).mono ?_; rintro e w2 ⟨rfl, rfl⟩) | (go_at_call 48; refine (unhide KM).mono ?_; rintro e w3 ⟨rfl, rfl⟩))
              go_returns
              exact ⟨by rw [unhide HQ]; (simp [*]) <;> (intros; omega), unhide B⟩
          ·
            go_enter Try.func40, Try.ntmps40
            go_wp2_with (first | (go_at_call 29; refine (unhide KG).mono ?_; rintro e w2 ⟨rfl, rfl⟩) | (go_at_call 48; refine (unhide KM).mono ?_; rintro e w3 ⟨rfl, rfl⟩))
            go_returns
            exact ⟨by rw [unhide HQ]; (simp [*]) <;> (intros; omega), unhide B⟩
        ·
          go_enter Try.func40, Try.ntmps40
          go_wp2_with (first | (go_at_call 29; refine (unhide KG).mono ?_; rintro e w2 ⟨rfl, rfl⟩) | (go_at_call 48; refine (unhide KM).mono ?_; rintro e w3 ⟨rfl, rfl⟩))
          go_returns
          exact ⟨by rw [unhide HQ]; (simp [*]) <;> (intros; omega), unhide B⟩
      ·
        go_enter Try.func40, Try.ntmps40
        go_wp2_with (first | (go_at_call 29; refine (unhide KG).mono ?_; rintro e w2 ⟨rfl, rfl⟩) | (go_at_call 48; refine (unhide KM).mono ?_; rintro e w3 ⟨rfl, rfl⟩))
        go_returns
        exact ⟨by rw [unhide HQ]; (simp [*]) <;> (intros; omega), unhide B⟩
  · have h1b : (kd == 1) = false := by simpa using h1
    by_cases h2 : kd = 2
    · subst h2
      cases qg with
      | false =>
        go_enter Try.func40, Try.ntmps40
        go_wp2_with (first | (go_at_call 29; refine (unhide KG).mono ?_; rintro e w2 ⟨rfl, rfl⟩) | (go_at_call 48; refine (unhide KM).mono ?_; rintro e w3 ⟨rfl, rfl⟩))
        go_returns
        exact ⟨by rw [unhide HQ]; (simp [*]) <;> (intros; omega), unhide B⟩
      | true =>
        by_cases h3 : 0 ≤ gen
        · by_cases h4 : 0 ≤ pt
          · by_cases h5 : pt < 4
            · by_cases h6 : 0 ≤ off
              · cases qm
                all_goals
                  go_enter Try.func40, Try.ntmps40
                  go_wp2_with (first | (go_at_call 29; refine (unhide KG).mono ?_; rintro e w2 ⟨rfl, rfl⟩) | (go_at_call 48; refine (unhide KM).mono ?_; rintro e w3 ⟨rfl, rfl⟩))
                  go_returns
                  exact ⟨by rw [unhide HQ]; (simp [*]) <;> (intros; omega), unhide B⟩
              ·
                go_enter Try.func40, Try.ntmps40
                go_wp2_with (first | (go_at_call 29; refine (unhide KG).mono ?_; rintro e w2 ⟨rfl, rfl⟩) | (go_at_call 48; refine (unhide KM).mono ?_; rintro e w3 ⟨rfl, rfl⟩))
                go_returns
                exact ⟨by rw [unhide HQ]; (simp [*]) <;> (intros; omega), unhide B⟩
            ·
              go_enter Try.func40, Try.ntmps40
              go_wp2_with (first | (go_at_call 29; refine (unhide KG).mono ?_; rintro e w2 ⟨rfl, rfl⟩) | (go_at_call 48; refine (unhide KM).mono ?_; rintro e w3 ⟨rfl, rfl⟩))
              go_returns
              exact ⟨by rw [unhide HQ]; (simp [*]) <;> (intros; omega), unhide B⟩
          ·
            go_enter Try.func40, Try.ntmps40
            go_wp2_with (first | (go_at_call 29; refine (unhide KG).mono ?_; rintro e w2 ⟨rfl, rfl⟩) | (go_at_call 48; refine (unhide KM).mono ?_; rintro e w3 ⟨rfl, rfl⟩))
            go_returns
            exact ⟨by rw [unhide HQ]; (simp [*]) <;> (intros; omega), unhide B⟩
        ·
          go_enter Try.func40, Try.ntmps40
          go_wp2_with (first | (go_at_call 29; refine (unhide KG).mono ?_; rintro e w2 ⟨rfl, rfl⟩) | (go_at_call 48; refine (unhide KM).mono ?_; rintro e w3 ⟨rfl, rfl⟩))
          go_returns
          exact ⟨by rw [unhide HQ]; (simp [*]) <;> (intros; omega), unhide B⟩
    · have h2b : (kd == 2) = false := by simpa using h2
      go_enter Try.func40, Try.ntmps40
      go_wp2
      go_returns
      exact ⟨by rw [unhide HQ]; (simp [*]) <;> (intros; omega), unhide B⟩
set_option maxHeartbeats 8000000 in
theorem bad_any (w : World) (r : Rx) (a : Option Addr) (k : Nat) (hi : IAt w a r.l) (hl : r.l.length ≤ maxLen) : Calls Try.prog 21 #[.agg (rxA r a k)] w fun e w' => e = .returned (.bool (!isR r)) ∧ Below w.heap.size w w' := by
  have B := hide ((Below.refl w.heap.size w).alloc (Nat.le_refl _) (.cells (rxA r a k) 29))
  have HB := hide (heap_new w (.cells (rxA r a k) 29))
  have HI := hide (hi.later (unhide B))
  have HM := hide hl
  obtain ⟨R, HR⟩ : ∃ R, Hid (R = !isR r) := ⟨_, hide rfl⟩
  rw [← unhide HR]
  obtain ⟨kd, gr, gen, l, pt, off⟩ := r
  unfold isR at HR
  unfold rxA at *
  simp only at HR HM HI hl ⊢
  have hbig : l.length ≤ 9223372036854775807 := by unfold maxLen at hl; omega
  generalize hn : l.length = n at *
  have HN := hide hn
  clear hi hl hn
  by_cases h1 : kd = 1
  · subst h1
    by_cases h3 : 0 ≤ gr
    · have h3' : ¬ gr < 0 := by omega
      by_cases h4 : gr < 8
      · have h4' : ¬ 7 < gr := by omega
        by_cases h5 : 0 ≤ gen
        · have h5' : ¬ gen < 0 := by omega
          by_cases h6 : 0 ≤ off
          · have h6' : ¬ off < 0 := by omega
            by_cases h7 : 0 ≤ pt
            · have h7' : ¬ pt < 0 := by omega
              by_cases h8 : pt < 4
              · have h8' : ¬ 3 < pt := by omega
                by_cases h9 : (n : Int) ≤ 8
                · have h9' : ¬ 8 < (n : Int) := by omega
                  go_enter Try.func21, Try.ntmps21
                  have HRr : Hid (R = !rises (-1) l) := hide (by rw [unhide HR]; simp [*])
                  clear HR
                  go_upto_region 3 with fail
                  generalize hW : w.alloc (.cells #[.int .i64 1, .int .i64 gr, .int .i64 gen, .slice a n k, .int .i64 pt, .int .i64 off] 29) = W at *
                  have z3 := cell_of (unhide HB) 3
                  simp at z3
                  go_wp2
                  go_loopg [3, 4] n (fun gg s3 s4 wr => ∃ (kk : Nat) (z : Int), kk ≤ n ∧ n - kk ≤ gg ∧ s3 = .int .i64 z ∧ s4 = .int .i64 kk ∧ wr = W ∧ Hid (R = !rises z (l.drop kk)))
                  case atStart => exact ⟨0, -1, Nat.zero_le _, by omega, rfl, rfl, rfl, HRr⟩
                  case round =>
                    obtain ⟨kk, z, hkk, hg, rfl, rfl, rfl, A⟩ := hrel
                    by_cases hlt : kk < n
                    · have hltz : (kk : Int) < (n : Int) := by omega
                      have hk' : kk < l.length := by rw [unhide HN]; exact hlt
                      obtain ⟨b, off_, rfl, hb0, hcell⟩ := (unhide HI) kk hk'
                      have HS := hide (rises_drop hk' z)
                      clear hk' hb0
                      generalize l.getD kk 0 = y at *
                      by_cases hy : y ≤ z
                      · have hR : Hid (R = true) := hide (by
                          rw [unhide A, unhide HS]
                          have : ¬ z < y := by omega
                          simp [this])
                        go_wp2
                        go_returns
                        exact ⟨by simp [unhide hR], unhide B⟩
                      · have hy' : z < y := by omega
                        have A2 : Hid (R = !rises y (l.drop (kk + 1))) := hide (by rw [unhide A, unhide HS]; simp [hy'])
                        clear A HS
                        go_wp2
                        go_roundg (n - (kk + 1))
                        case measure => omega
                        case rel => exact ⟨kk + 1, y, by omega, by omega, rfl, by go_num, rfl, A2⟩
                    · have hltz : ¬ (kk : Int) < (n : Int) := by omega
                      have e : kk = n := by omega
                      have hR : Hid (R = false) := hide (by
                        rw [unhide A, e, ← unhide HN, List.drop_length]; rfl)
                      clear A
                      go_wp2
                      go_returns
                      exact ⟨by simp [unhide hR], unhide B⟩
                · have h9' : 8 < (n : Int) := by omega
                  go_enter Try.func21, Try.ntmps21
                  go_wp2
                  go_returns
                  exact ⟨by rw [unhide HR]; (simp [*]) <;> (intros; omega), unhide B⟩
              · have h8' : 3 < pt := by omega
                go_enter Try.func21, Try.ntmps21
                go_wp2
                go_returns
                exact ⟨by rw [unhide HR]; (simp [*]) <;> (intros; omega), unhide B⟩
            · have h7' : pt < 0 := by omega
              go_enter Try.func21, Try.ntmps21
              go_wp2
              go_returns
              exact ⟨by rw [unhide HR]; (simp [*]) <;> (intros; omega), unhide B⟩
          · have h6' : off < 0 := by omega
            go_enter Try.func21, Try.ntmps21
            go_wp2
            go_returns
            exact ⟨by rw [unhide HR]; (simp [*]) <;> (intros; omega), unhide B⟩
        · have h5' : gen < 0 := by omega
          go_enter Try.func21, Try.ntmps21
          go_wp2
          go_returns
          exact ⟨by rw [unhide HR]; (simp [*]) <;> (intros; omega), unhide B⟩
      · have h4' : 7 < gr := by omega
        go_enter Try.func21, Try.ntmps21
        go_wp2
        go_returns
        exact ⟨by rw [unhide HR]; (simp [*]) <;> (intros; omega), unhide B⟩
    · have h3' : gr < 0 := by omega
      go_enter Try.func21, Try.ntmps21
      go_wp2
      go_returns
      exact ⟨by rw [unhide HR]; (simp [*]) <;> (intros; omega), unhide B⟩
  · have h1b : (kd == 1) = false := by simpa using h1
    by_cases h2 : kd = 2
    · subst h2
      by_cases h3 : 0 ≤ gr
      · have h3' : ¬ gr < 0 := by omega
        by_cases h4 : gr < 8
        · have h4' : ¬ 7 < gr := by omega
          by_cases h5 : 0 ≤ gen
          · have h5' : ¬ gen < 0 := by omega
            by_cases h6 : 0 ≤ off
            · have h6' : ¬ off < 0 := by omega
              by_cases h7 : 0 ≤ pt
              · have h7' : ¬ pt < 0 := by omega
                by_cases h8 : pt < 4
                · have h8' : ¬ 3 < pt := by omega
                  by_cases h9 : (n : Int) ≤ 8
                  · have h9' : ¬ 8 < (n : Int) := by omega
                    go_enter Try.func21, Try.ntmps21
                    have HRr : Hid (R = !rises (-1) l) := hide (by rw [unhide HR]; simp [*])
                    clear HR
                    go_upto_region 3 with fail
                    generalize hW : w.alloc (.cells #[.int .i64 2, .int .i64 gr, .int .i64 gen, .slice a n k, .int .i64 pt, .int .i64 off] 29) = W at *
                    have z3 := cell_of (unhide HB) 3
                    simp at z3
                    go_wp2
                    go_loopg [3, 4] n (fun gg s3 s4 wr => ∃ (kk : Nat) (z : Int), kk ≤ n ∧ n - kk ≤ gg ∧ s3 = .int .i64 z ∧ s4 = .int .i64 kk ∧ wr = W ∧ Hid (R = !rises z (l.drop kk)))
                    case atStart => exact ⟨0, -1, Nat.zero_le _, by omega, rfl, rfl, rfl, HRr⟩
                    case round =>
                      obtain ⟨kk, z, hkk, hg, rfl, rfl, rfl, A⟩ := hrel
                      by_cases hlt : kk < n
                      · have hltz : (kk : Int) < (n : Int) := by omega
                        have hk' : kk < l.length := by rw [unhide HN]; exact hlt
                        obtain ⟨b, off_, rfl, hb0, hcell⟩ := (unhide HI) kk hk'
                        have HS := hide (rises_drop hk' z)
                        clear hk' hb0
                        generalize l.getD kk 0 = y at *
                        by_cases hy : y ≤ z
                        · have hR : Hid (R = true) := hide (by
                            rw [unhide A, unhide HS]
                            have : ¬ z < y := by omega
                            simp [this])
                          go_wp2
                          go_returns
                          exact ⟨by simp [unhide hR], unhide B⟩
                        · have hy' : z < y := by omega
                          have A2 : Hid (R = !rises y (l.drop (kk + 1))) := hide (by rw [unhide A, unhide HS]; simp [hy'])
                          clear A HS
                          go_wp2
                          go_roundg (n - (kk + 1))
                          case measure => omega
                          case rel => exact ⟨kk + 1, y, by omega, by omega, rfl, by go_num, rfl, A2⟩
                      · have hltz : ¬ (kk : Int) < (n : Int) := by omega
                        have e : kk = n := by omega
                        have hR : Hid (R = false) := hide (by
                          rw [unhide A, e, ← unhide HN, List.drop_length]; rfl)
                        clear A
                        go_wp2
                        go_returns
                        exact ⟨by simp [unhide hR], unhide B⟩
                  · have h9' : 8 < (n : Int) := by omega
                    go_enter Try.func21, Try.ntmps21
                    go_wp2
                    go_returns
                    exact ⟨by rw [unhide HR]; (simp [*]) <;> (intros; omega), unhide B⟩
                · have h8' : 3 < pt := by omega
                  go_enter Try.func21, Try.ntmps21
                  go_wp2
                  go_returns
                  exact ⟨by rw [unhide HR]; (simp [*]) <;> (intros; omega), unhide B⟩
              · have h7' : pt < 0 := by omega
                go_enter Try.func21, Try.ntmps21
                go_wp2
                go_returns
                exact ⟨by rw [unhide HR]; (simp [*]) <;> (intros; omega), unhide B⟩
            · have h6' : off < 0 := by omega
              go_enter Try.func21, Try.ntmps21
              go_wp2
              go_returns
              exact ⟨by rw [unhide HR]; (simp [*]) <;> (intros; omega), unhide B⟩
          · have h5' : gen < 0 := by omega
            go_enter Try.func21, Try.ntmps21
            go_wp2
            go_returns
            exact ⟨by rw [unhide HR]; (simp [*]) <;> (intros; omega), unhide B⟩
        · have h4' : 7 < gr := by omega
          go_enter Try.func21, Try.ntmps21
          go_wp2
          go_returns
          exact ⟨by rw [unhide HR]; (simp [*]) <;> (intros; omega), unhide B⟩
      · have h3' : gr < 0 := by omega
        go_enter Try.func21, Try.ntmps21
        go_wp2
        go_returns
        exact ⟨by rw [unhide HR]; (simp [*]) <;> (intros; omega), unhide B⟩
    · have h2b : (kd == 2) = false := by simpa using h2
      go_enter Try.func21, Try.ntmps21
      go_wp2
      go_returns
      exact ⟨by rw [unhide HR]; (simp [*]) <;> (intros; omega), unhide B⟩
def EnR (w : World) (E : Int) (l : List Nat) (e : Ending) (w' : World) : Prop := ∃ vo, e = .returned (.tuple #[vo, .int .i64 E]) ∧ Fresh w w' vo l
set_option maxHeartbeats 4000000 in
theorem docencode_bad {w : World} {r : Rx} {a : Option Addr} {k : Nat} (hi : IAt w a r.l) (hl : r.l.length ≤ maxLen) (hC : isR r = false) :
    Calls Try.prog 10 #[.agg (rxA r a k)] w fun e w' => EnR w 1 [] e w' := by
  have b0 := (Below.refl w.heap.size w).alloc (Nat.le_refl _) (.cells (rxA r a k) 29)
  have KK := bad_any (w.alloc (.cells (rxA r a k) 29)) r a k (hi.later b0) hl
  rw [hC] at KK
  have B0 := hide b0
  have HK := hide KK
  obtain ⟨kd, gr, gen, l, pt, off⟩ := r
  clear b0 KK hi hl hC
  unfold rxA at *
  simp only [Bool.not_false] at *
  generalize l.length = n at *
  go_enter Try.func10, Try.ntmps10
  go_wp2_with (go_at_call 21; refine (unhide HK).mono ?_; rintro e w1 ⟨rfl, b1⟩; have B1 := hide ((unhide B0).trans (b1.mono (unhide B0).size)); clear b1)
  go_returns
  exact ⟨_, rfl, Row.nil _, New.nil _, unhide B1⟩
set_option maxHeartbeats 8000000 in
theorem docencode_ok {w : World} {r : Rx} {a : Option Addr} {k : Nat} (hi : IAt w a r.l) (hl : r.l.length ≤ maxLen) (hf : RFit r) (hC : isR r = true) :
    Calls Try.prog 10 #[.agg (rxA r a k)] w fun e w' => EnR w 0 (encR r) e w' := by
  have h5 := isR_few hC
  have b0 := (Below.refl w.heap.size w).alloc (Nat.le_refl _) (.cells (rxA r a k) 29)
  have KK := bad_any (w.alloc (.cells (rxA r a k) 29)) r a k (hi.later b0) hl
  rw [hC] at KK
  have LI := hide (hi.later b0)
  have B0 := hide b0
  have HK := hide KK
  have HF := hide hf
  have HBX := hide (heap_new w (.cells (rxA r a k) 29))
  have HE : Hid (encR r = encR r) := hide rfl
  obtain ⟨kd, gr, gen, l, pt, off⟩ := r
  clear b0 KK hi hl hC hf
  unfold rxA at *
  unfold encR at HE
  simp only [Bool.not_true] at *
  have l0 := enc_len10 (zig_lt (unhide HF).kd.1 (unhide HF).kd.2)
  have l1 := enc_len10 (zig_lt (unhide HF).gr.1 (unhide HF).gr.2)
  have l2 := enc_len10 (zig_lt (unhide HF).gen.1 (unhide HF).gen.2)
  have l3 := enc_len10 (zig_lt (unhide HF).pt.1 (unhide HF).pt.2)
  have l4 := enc_len10 (zig_lt (unhide HF).off.1 (unhide HF).off.2)
  have l5 := enc_len10 (n := l.length) (by omega)
  have l5L := encL_len l (unhide HF).l
  simp only at l0 l1 l2 l3 l4
  go_enter Try.func10, Try.ntmps10
  go_wp2_with fail
  refine (unhide HK).mono ?_
  rintro e w1 ⟨rfl, b1⟩
  have B1 := hide ((unhide B0).trans (b1.mono (unhide B0).size))
  have HX := hide (below_keep b1 (unhide HBX))
  have L1 := hide ((unhide LI).later b1)
  clear b1 B0 HBX LI HK
  have k0 := cell_of (unhide HX) 0
  simp at k0
  go_wp2_with fail
  refine (eint_any kd w1 (unhide HF).kd.1 (unhide HF).kd.2).mono ?_
  rintro e y0 ⟨z0, rfl, f0⟩
  have F0 := hide f0
  obtain ⟨az, nz, cz, es⟩ := f0.1.shape
  subst es
  clear f0 k0
  have k1 := cell_of (below_keep (unhide F0).2.2 (unhide HX)) 1
  simp at k1
  have KI := hide (eint_any gr y0 (unhide HF).gr.1 (unhide HF).gr.2)
  go_upto_region 5 with (first
    | (go_at_call 22; refine (unhide KI).mono ?_; rintro e x1 ⟨v2, rfl, f2⟩; obtain ⟨a2, c2, rfl, q2, _, _, z2, _⟩ := f2.1.parts; have R2 := hide ((unhide F0).1.later f2.2.2); have Q2 := hide q2; have B2 := hide f2.2.2; clear f2 q2)
    | (at_builtin; refine wpList_row _ rfl (.tmp 10) (.tmp 13) rfl _ (enc (zig kd)) rfl (unhide R2) a2 c2 (enc (zig gr)) rfl (unhide Q2) z2 (by first | decide | ((repeat rw [List.length_append]); (try rw [List.length_cons]); (try rw [List.length_nil]); omega)) ?_; intro v3 y1 r3 t3 m3; have F1 := hide (fresh_app (unhide F0) (unhide B2) r3 t3 m3); obtain ⟨a3, n3, c3, e3⟩ := r3.shape; subst e3; clear r3 t3 m3 Q2 R2 B2 z2))
  clear k1 KI
  have k2 := cell_of (below_keep (unhide F1).2.2 (unhide HX)) 2
  simp at k2
  have KI := hide (eint_any gen y1 (unhide HF).gen.1 (unhide HF).gen.2)
  go_upto_region 6 with (first
    | (go_at_call 22; refine (unhide KI).mono ?_; rintro e x2 ⟨v2, rfl, f2⟩; obtain ⟨a2, c2, rfl, q2, _, _, z2, _⟩ := f2.1.parts; have R2 := hide ((unhide F1).1.later f2.2.2); have Q2 := hide q2; have B2 := hide f2.2.2; clear f2 q2)
    | (at_builtin; refine wpList_row _ rfl (.tmp 15) (.tmp 18) rfl _ ((enc (zig kd)) ++ enc (zig gr)) rfl (unhide R2) a2 c2 (enc (zig gen)) rfl (unhide Q2) z2 (by first | decide | ((repeat rw [List.length_append]); (try rw [List.length_cons]); (try rw [List.length_nil]); omega)) ?_; intro v3 y2 r3 t3 m3; have F2 := hide (fresh_app (unhide F1) (unhide B2) r3 t3 m3); obtain ⟨a3, n3, c3, e3⟩ := r3.shape; subst e3; clear r3 t3 m3 Q2 R2 B2 z2))
  clear k2 KI
  have k3 := cell_of (below_keep (unhide F2).2.2 (unhide HX)) 4
  simp at k3
  have KI := hide (eint_any pt y2 (unhide HF).pt.1 (unhide HF).pt.2)
  go_upto_region 7 with (first
    | (go_at_call 22; refine (unhide KI).mono ?_; rintro e x3 ⟨v2, rfl, f2⟩; obtain ⟨a2, c2, rfl, q2, _, _, z2, _⟩ := f2.1.parts; have R2 := hide ((unhide F2).1.later f2.2.2); have Q2 := hide q2; have B2 := hide f2.2.2; clear f2 q2)
    | (at_builtin; refine wpList_row _ rfl (.tmp 20) (.tmp 23) rfl _ (((enc (zig kd)) ++ enc (zig gr)) ++ enc (zig gen)) rfl (unhide R2) a2 c2 (enc (zig pt)) rfl (unhide Q2) z2 (by first | decide | ((repeat rw [List.length_append]); (try rw [List.length_cons]); (try rw [List.length_nil]); omega)) ?_; intro v3 y3 r3 t3 m3; have F3 := hide (fresh_app (unhide F2) (unhide B2) r3 t3 m3); obtain ⟨a3, n3, c3, e3⟩ := r3.shape; subst e3; clear r3 t3 m3 Q2 R2 B2 z2))
  clear k3 KI
  have k4 := cell_of (below_keep (unhide F3).2.2 (unhide HX)) 5
  simp at k4
  have KI := hide (eint_any off y3 (unhide HF).off.1 (unhide HF).off.2)
  go_upto_region 8 with (first
    | (go_at_call 22; refine (unhide KI).mono ?_; rintro e x4 ⟨v2, rfl, f2⟩; obtain ⟨a2, c2, rfl, q2, _, _, z2, _⟩ := f2.1.parts; have R2 := hide ((unhide F3).1.later f2.2.2); have Q2 := hide q2; have B2 := hide f2.2.2; clear f2 q2)
    | (at_builtin; refine wpList_row _ rfl (.tmp 25) (.tmp 28) rfl _ ((((enc (zig kd)) ++ enc (zig gr)) ++ enc (zig gen)) ++ enc (zig pt)) rfl (unhide R2) a2 c2 (enc (zig off)) rfl (unhide Q2) z2 (by first | decide | ((repeat rw [List.length_append]); (try rw [List.length_cons]); (try rw [List.length_nil]); omega)) ?_; intro v3 y4 r3 t3 m3; have F4 := hide (fresh_app (unhide F3) (unhide B2) r3 t3 m3); obtain ⟨a3, n3, c3, e3⟩ := r3.shape; subst e3; clear r3 t3 m3 Q2 R2 B2 z2))
  clear k4 KI
  obtain ⟨Y, hY, hYl⟩ : ∃ Y, enc l.length ++ encL l = Y ∧ Y.length ≤ 100 := ⟨_, rfl, by rw [List.length_append]; omega⟩
  have k5 := cell_of (below_keep (unhide F4).2.2 (unhide HX)) 3
  simp at k5
  have KI := hide (hY ▸ (eints_any a k l y4 ((unhide L1).later (unhide F4).2.2) (unhide HF).l (by omega)))
  go_upto_region 9 with (first
    | (go_at_call 23; refine (unhide KI).mono ?_; rintro e x5 ⟨v2, rfl, f2⟩; obtain ⟨a2, c2, rfl, q2, _, _, z2, _⟩ := f2.1.parts; have R2 := hide ((unhide F4).1.later f2.2.2); have Q2 := hide q2; have B2 := hide f2.2.2; clear f2 q2)
    | (at_builtin; refine wpList_row _ rfl (.tmp 30) (.tmp 33) rfl _ (((((enc (zig kd)) ++ enc (zig gr)) ++ enc (zig gen)) ++ enc (zig pt)) ++ enc (zig off)) rfl (unhide R2) a2 c2 (Y) rfl (unhide Q2) z2 (by first | decide | ((repeat rw [List.length_append]); (try rw [List.length_cons]); (try rw [List.length_nil]); omega)) ?_; intro v3 y5 r3 t3 m3; have F5 := hide (fresh_app (unhide F4) (unhide B2) r3 t3 m3); obtain ⟨a3, n3, c3, e3⟩ := r3.shape; subst e3; clear r3 t3 m3 Q2 R2 B2 z2))
  clear k5 KI
  have HY := hide hY
  clear hY
  go_wp2
  go_returns
  obtain ⟨q1, q2, q3⟩ := unhide F5
  rw [← unhide HY] at q1
  refine ⟨_, rfl, q1, q2.mono (unhide B1).size, (unhide B1).trans (q3.mono (unhide B1).size)⟩
end Go.Proofs.Ytfbnkeflgddcmaa
