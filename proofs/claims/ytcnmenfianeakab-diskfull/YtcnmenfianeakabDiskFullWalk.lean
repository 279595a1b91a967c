/-
  DiskFull walked: it answers true. No conditions.
-/
import Derived.Test.YtcnmenfianeakabAw5
import Derived.Test.YtcnmenfianeakabNm5
import Derived.Test.YtcnmenfianeakabMn5
namespace Go.Proofs.Ytcnmenfianeakab
open Go.RowKit Go.Maps
set_option linter.unusedVariables false

abbrev nmBig : ByteArray := ⟨#[98, 105, 103]⟩
theorem size_big : nmBig.size ≤ maxLen := by unfold maxLen; show 3 ≤ _; decide

/-- Append to the one great file, as long as it fits. -/
theorem full_ap (t : List Nat) (fs : List Ft) (b : List Nat) (h : t.length + b.length ≤ 4194304) (hfs : fs = [⟨nmBig, t, 0⟩] ∨ (fs = [] ∧ t = [])) : apE ⟨fs, false, 0, false⟩ nmBig b.length = 0 ∧ apD ⟨fs, false, 0, false⟩ nmBig b = ⟨[⟨nmBig, t ++ b, 0⟩], false, 0, false⟩ := by
  have hr : apR ⟨fs, false, 0, false⟩ nmBig b.length = 0 := by
    rcases hfs with rfl | ⟨rfl, rfl⟩
    · unfold apR
      have hf : findE false [⟨nmBig, t, 0⟩] nmBig = 0 := rfl
      have hu : usedF [⟨nmBig, t, 0⟩] = t.length := by simp [usedF]
      simp only [hf, hu]
      rw [if_neg (by omega), if_neg (by simp; omega)]
    · unfold apR
      have hf : findE false [] nmBig = 4 := rfl
      have hu : usedF [] = 0 := rfl
      simp only [hf, hu]
      rw [if_neg (by omega), if_neg (by simp at h ⊢; omega)]
  refine ⟨by unfold apE; rw [hr]; rfl, ?_⟩
  unfold apD
  rw [hr]
  show Dk.mk (apF fs nmBig (b.take b.length)) _ _ _ = _
  rw [List.take_length]
  rcases hfs with rfl | ⟨rfl, rfl⟩
  · rfl
  · rfl
/-- .. and where it doesn't. -/
theorem full_no (t : List Nat) (b : List Nat) (h : 4194304 < t.length + b.length) : apE ⟨[⟨nmBig, t, 0⟩], false, 0, false⟩ nmBig b.length = 3 ∧ apD ⟨[⟨nmBig, t, 0⟩], false, 0, false⟩ nmBig b = ⟨[⟨nmBig, t, 0⟩], false, 0, false⟩ := by
  have hr : apR ⟨[⟨nmBig, t, 0⟩], false, 0, false⟩ nmBig b.length = 3 := by
    unfold apR
    have hf : findE false [⟨nmBig, t, 0⟩] nmBig = 0 := rfl
    have hu : usedF [⟨nmBig, t, 0⟩] = t.length := by simp [usedF]
    simp only [hf, hu]
    rw [if_neg (by omega), if_pos (.inl h)]
  exact ⟨by unfold apE; rw [hr]; rfl, by unfold apD; rw [hr]; rfl⟩

/-- The name of file i. -/
def nmI (i : Nat) : ByteArray := ⟨#[102, UInt8.ofNat (97 + i / 676), UInt8.ofNat (97 + i / 26 % 26), UInt8.ofNat (97 + i % 26)]⟩
theorem u8_inj {a b : Nat} (ha : a < 256) (hb : b < 256) (h : UInt8.ofNat a = UInt8.ofNat b) : a = b := by
  have := congrArg UInt8.toNat h
  simpa [Nat.mod_eq_of_lt ha, Nat.mod_eq_of_lt hb] using this
theorem nmI_inj {i j : Nat} (hi : i < 17576) (hj : j < 17576) (h : nmI i = nmI j) : i = j := by
  unfold nmI at h
  simp only [ByteArray.mk.injEq, Array.mk.injEq, List.cons.injEq, and_true, true_and] at h
  obtain ⟨h1, h2, h3⟩ := h
  have e1 := u8_inj (by omega) (by omega) h1
  have e2 := u8_inj (by omega) (by omega) h2
  have e3 := u8_inj (by omega) (by omega) h3
  omega
theorem nmI_big (i : Nat) : nmBig ≠ nmI i := fun h => by
  have := congrArg ByteArray.size h
  exact absurd this (by show 3 ≠ 4; decide)
/-- The files when i names were tried. -/
def fsI (t : List Nat) : Nat → List Ft
  | 0 => [⟨nmBig, t, 0⟩]
  | k + 1 => ⟨nmI k, [], 0⟩ :: fsI t k
theorem fsI_len (t : List Nat) (k : Nat) : (fsI t k).length = k + 1 := by
  induction k with
  | zero => rfl
  | succ k ih => simp [fsI, ih]
theorem fsI_used (t : List Nat) (k : Nat) : usedF (fsI t k) = t.length := by
  induction k with
  | zero => simp [fsI, usedF]
  | succ k ih => show usedF (_ :: fsI t k) = _; rw [used_cons, ih]; simp
theorem fsI_none (t : List Nat) {k i : Nat} (hi : i < 17576) (hk : k ≤ i) : ftOf (fsI t k) (nmI i) = none := by
  induction k with
  | zero => 
    unfold ftOf fsI
    rw [List.find?_eq_none]
    intro x hx
    rw [List.mem_singleton] at hx
    subst hx
    simpa using nmI_big i
  | succ k ih =>
    have := ih (by omega)
    unfold ftOf at this ⊢
    rw [List.find?_eq_none] at this ⊢
    intro x hx
    rcases List.mem_cons.1 hx with rfl | hx'
    · have : nmI k ≠ nmI i := fun e => by have := nmI_inj (by omega) hi e; omega
      simpa using this
    · exact this x hx'
theorem fsI_big (t : List Nat) (k : Nat) : ftOf (fsI t k) nmBig = some ⟨nmBig, t, 0⟩ := by
  induction k with
  | zero => rfl
  | succ k ih =>
    show List.find? _ (_ :: fsI t k) = _
    rw [List.find?_cons_of_neg (by simpa using fun e => nmI_big k e.symm)]
    exact ih
theorem full_file (t : List Nat) (ht : t.length = 4194304) {k i : Nat} (hi : i < 17576) (hk : k ≤ i) : apE ⟨fsI t k, false, 0, false⟩ (nmI i) 0 = (if k < 4095 then 0 else 3) ∧ apD ⟨fsI t k, false, 0, false⟩ (nmI i) [] = (if k < 4095 then ⟨⟨nmI i, [], 0⟩ :: fsI t k, false, 0, false⟩ else ⟨fsI t k, false, 0, false⟩) := by
  have hf : findE false (fsI t k) (nmI i) = 4 := by
    unfold findE
    have hn : okName (nmI i) = true := rfl
    rw [hn, fsI_none t hi hk]; rfl
  have hr : apR ⟨fsI t k, false, 0, false⟩ (nmI i) 0 = if k < 4095 then 0 else 3 := by
    unfold apR
    simp only [hf, fsI_used, fsI_len, ht]
    rw [if_neg (by omega)]
    by_cases h : k < 4095
    · rw [if_pos h, if_neg (by simp; omega)]
    · rw [if_neg h, if_pos (.inr (by simp; omega))]
  by_cases h : k < 4095
  · rw [if_pos h] at hr ⊢
    rw [if_pos h]
    refine ⟨by unfold apE; rw [hr]; rfl, ?_⟩
    unfold apD
    have hr' : apR ⟨fsI t k, false, 0, false⟩ (nmI i) ([] : List Nat).length = 0 := hr
    rw [hr']
    show Dk.mk (apF (fsI t k) (nmI i) _) _ _ _ = _
    unfold apF
    rw [fsI_none t hi hk]; rfl
  · rw [if_neg h] at hr ⊢
    rw [if_neg h]
    exact ⟨by unfold apE; rw [hr]; rfl, by unfold apD; have hr' : apR ⟨fsI t k, false, 0, false⟩ (nmI i) ([] : List Nat).length = 3 := hr; rw [hr']; rfl⟩

set_option maxRecDepth 100000 in
set_option maxHeartbeats 8000000 in
theorem diskFull_walk (n0 : Int) (q : Nat) (w : World) (hlo : -9223372036854775808 ≤ n0) (hhi : n0 ≤ 9223372036854775807) (hq : q < 256) :
    Calls Try.prog 4 #[.int .i64 n0, .int .u8 (q : Nat)] w fun e w' => e = .returned (.bool true) ∧ Below w.heap.size w w' := by
  have kc := fun (w : World) (C : Array Value) (n c : Nat) => Lib.run_convert_bytes_const (P := Try.prog) w 22 5 C n c Try.underlying22 Try.underlying5
  obtain ⟨m0, hm0, hm1, hm2⟩ : ∃ m0 : Int, n0.tmod 4096 = m0 ∧ -4096 < m0 ∧ m0 < 4096 := by
    refine ⟨_, rfl, ?_, Int.tmod_lt_of_pos n0 (by omega)⟩
    have := Int.tmod_lt_of_pos (-n0) (show (0 : Int) < 4096 by omega)
    rw [Int.neg_tmod] at this
    omega
  obtain ⟨n, hn, hn2⟩ : ∃ n : Nat, (m0 + 4096) % 4096 = (n : Int) ∧ n < 4096 := ⟨((m0 + 4096) % 4096).toNat, by omega, by omega⟩
  have hn3 : (m0 + 4096).tmod 4096 = (n : Int) := by rw [Int.tmod_eq_emod_of_nonneg (by omega)]; exact hn
  go_enter Try.func4, Try.ntmps4
  go_wp2_with fail
  refine (dnew_any w).mono ?_
  rintro e w1 ⟨rfl, g1⟩
  obtain ⟨S1, ds1⟩ := Ds.new g1
  have DS1 := hide ds1
  clear g1 ds1
  go_wp2_with fail
  refine (awake5_any w1).mono ?_
  rintro e w2 ⟨rfl, b2⟩
  have DS2 := hide ((unhide DS1).later b2)
  clear b2 DS1
  go_wp2_with fail
  refine (many_any (4194304 - (n : Int)) w2 (by omega) (by omega)).mono ?_
  rintro e w3 ⟨v3, rfl, f3⟩
  have e3 : manyN (4194304 - (n : Int)) = 4194304 - n := by unfold manyN; rw [if_pos (by omega)]; omega
  rw [e3] at f3
  obtain ⟨T, hT⟩ : ∃ T, T = manyL (4194304 - n) := ⟨_, rfl⟩
  have hTl : T.length = 4194304 - n := by rw [hT, manyL_len]
  rw [← hT] at f3
  obtain ⟨a3, c3, rfl, l3, hc3, _, hn3', ho3, _⟩ := f3.1.parts
  have ds3 := (unhide DS2).later f3.2.2
  have A1 := cappend (s := nmBig) ds3 size_big l3 hn3' hc3 (fun h0 x hx hS => by have h1 := f3.2.1 _ (ho3 x hx); have h2 := (unhide DS2).disk.lt _ hS; omega)
  rw [(full_ap [] [] T (by simp; omega) (.inr ⟨rfl, rfl⟩)).1, (full_ap [] [] T (by simp; omega) (.inr ⟨rfl, rfl⟩)).2, List.nil_append] at A1
  have A1H := hide A1
  have HTL := hide hTl
  clear A1 ds3 f3 l3 hc3 hn3' ho3 e3 hT hTl DS2
  go_wp2_with fail
  refine (unhide A1H).mono ?_
  rintro e w4 ⟨rfl, S4, ds4, _⟩
  have DS4 := hide ds4
  clear ds4 A1H
  go_wp2_with fail
  refine (many_any ((n : Int) + 1) w4 (by omega) (by omega)).mono ?_
  rintro e w5 ⟨v5, rfl, f5⟩
  have e5 : manyN ((n : Int) + 1) = n + 1 := by unfold manyN; rw [if_pos (by omega)]; omega
  rw [e5] at f5
  have hl5 := manyL_len (n + 1)
  obtain ⟨a5, c5, rfl, l5, hc5, _, hn5, ho5, _⟩ := f5.1.parts
  have ds5 := (unhide DS4).later f5.2.2
  have A2 := cappend (s := nmBig) ds5 size_big l5 hn5 hc5 (fun h0 x hx hS => by have h1 := f5.2.1 _ (ho5 x hx); have h2 := (unhide DS4).disk.lt _ hS; omega)
  have hno := full_no T (manyL (n + 1)) (by rw [hl5, unhide HTL]; omega)
  rw [hno.1, hno.2] at A2
  have A2H := hide A2
  clear A2 ds5 f5 l5 hc5 hn5 ho5 e5 hno hl5 DS4
  generalize (manyL (n + 1)).length = L5 at *
  go_wp2_with fail
  refine (unhide A2H).mono ?_
  rintro e w6 ⟨rfl, S6, ds6, _⟩
  have DS6 := hide ds6
  clear ds6 A2H
  go_wp2_with fail
  refine (many_any (n : Int) w6 (by omega) (by omega)).mono ?_
  rintro e w7 ⟨v7, rfl, f7⟩
  have e7 : manyN (n : Int) = n := by unfold manyN; rw [if_pos (by omega)]; omega
  rw [e7] at f7
  have hl7 := manyL_len n
  obtain ⟨a7, c7, rfl, l7, hc7, _, hn7, ho7, _⟩ := f7.1.parts
  have ds7 := (unhide DS6).later f7.2.2
  have A3 := cappend (s := nmBig) ds7 size_big l7 hn7 hc7 (fun h0 x hx hS => by have h1 := f7.2.1 _ (ho7 x hx); have h2 := (unhide DS6).disk.lt _ hS; omega)
  have hyes := full_ap T [⟨nmBig, T, 0⟩] (manyL n) (by rw [hl7, unhide HTL]; omega) (.inl rfl)
  rw [hyes.1, hyes.2] at A3
  obtain ⟨U, hU⟩ : ∃ U, U = T ++ manyL n := ⟨_, rfl⟩
  have HUL : Hid (U.length = 4194304) := by show U.length = _; rw [hU, List.length_append, hl7, unhide HTL]; omega
  rw [← hU] at A3
  have A3H := hide A3
  clear A3 ds7 f7 l7 hc7 hn7 ho7 e7 hyes hl7 DS6 hU
  generalize (manyL n).length = L7 at *
  go_wp2_with fail
  refine (unhide A3H).mono ?_
  rintro e w8 ⟨rfl, S8, ds8, _⟩
  have A4 := cappend_const (s := nmBig) ds8 size_big [120] (by decide) #[.int .u8 120] rfl (1, 2) 1 rfl
  have hno := full_no U [120] (by rw [unhide HUL]; simp)
  have hno1 : apE ⟨[⟨nmBig, U, 0⟩], false, 0, false⟩ nmBig 1 = 3 := hno.1
  rw [hno1, hno.2] at A4
  have A4H := hide A4
  clear A4 ds8 hno hno1 A3H
  go_wp2_with fail
  refine (unhide A4H).mono ?_
  rintro e w9 ⟨rfl, S9, ds9⟩
  have DS9 := hide ds9
  clear ds9 A4H
  obtain ⟨p80, hq80, hp80⟩ : ∃ p80 : Nat, (q : Int) % 80 = (p80 : Int) ∧ p80 < 80 := ⟨q % 80, by simp, by omega⟩
  obtain ⟨Z, hZ⟩ : ∃ Z : Nat, Z = 4056 + p80 := ⟨_, rfl⟩
  have hZl : Z < 4136 := by omega
  have hZi : 4056 + (p80 : Int) = (Z : Int) := by omega
  clear hZ
  go_wp2_with fail
  go_loopw [7, 8] (fun mv ix wr => ∃ (i k : Nat) (S : Nat → Prop), i ≤ Z ∧ ix = .int .i64 i ∧ k = min i 4095 ∧ mv = .int .i64 ((k : Int) + 1) ∧ Ds w wr w.heap.size S ⟨fsI U k, false, 0, false⟩) (fun _ ix _ => 4200 - (intOf ix).toNat)
  case atStart => exact ⟨0, 0, S9, Nat.zero_le _, rfl, rfl, rfl, unhide DS9⟩
  case round =>
    obtain ⟨i, k, S, hi, rfl, hk, rfl, ds⟩ := hrel
    have DS := hide ds
    have HK := hide hk
    have hki : k ≤ i ∧ k ≤ 4095 := by omega
    have hkk : k < 4095 → k = i := by omega
    clear ds DS9 hk
    by_cases hic : i < Z
    · have hic' : (i : Int) < (Z : Int) := by omega
      obtain ⟨x1, hx1⟩ : ∃ x : Nat, x = 97 + i / 676 := ⟨_, rfl⟩
      obtain ⟨x2, hx2⟩ : ∃ x : Nat, x = 97 + i / 26 % 26 := ⟨_, rfl⟩
      obtain ⟨x3, hx3⟩ : ∃ x : Nat, x = 97 + i % 26 := ⟨_, rfl⟩
      have y1 : 97 + (i : Int) / 676 = (x1 : Int) := by omega
      have y2 : 97 + (i : Int) / 26 % 26 = (x2 : Int) := by omega
      have y3 : 97 + (i : Int) % 26 = (x3 : Int) := by omega
      have z1 : IntKind.u8.wrap (x1 : Int) = (x1 : Int) := by simp [IntKind.wrap, IntKind.bits, IntKind.signed]; omega
      have z2 : IntKind.u8.wrap (x2 : Int) = (x2 : Int) := by simp [IntKind.wrap, IntKind.bits, IntKind.signed]; omega
      have z3 : IntKind.u8.wrap (x3 : Int) = (x3 : Int) := by simp [IntKind.wrap, IntKind.bits, IntKind.signed]; omega
      have EN : Hid ((⟨#[102]⟩ : ByteArray) ++ ⟨#[UInt8.ofNat x1, UInt8.ofNat x2, UInt8.ofNat x3]⟩ = nmI i) := by show _ = _; rw [hx1, hx2, hx3]; rfl
      have hb1 : x1 < 256 ∧ x2 < 256 ∧ x3 < 256 := by omega
      clear hx1 hx2 hx3
      have hbl : Below wr.heap.size wr (wr.alloc (.cells #[.int .u8 (x1 : Int), .int .u8 (x2 : Int), .int .u8 (x3 : Int)] 5)) := (Below.refl _ _).alloc (Nat.le_refl _) _
      have CV := run_convert_bytes_back (P := Try.prog) (wr.alloc (.cells #[.int .u8 (x1 : Int), .int .u8 (x2 : Int), .int .u8 (x3 : Int)] 5)) 22 9 5 ⟨wr.heap.size, 0, none⟩ 3 [UInt8.ofNat x1, UInt8.ofNat x2, UInt8.ofNat x3] Try.underlying22 Try.underlying5 Try.underlying9 (fun j hj => by
        have hadd : Addr.add ⟨wr.heap.size, 0, none⟩ j = ⟨wr.heap.size, j, none⟩ := by
          unfold Addr.add
          split
          · rename_i h0; subst h0; rfl
          · simp
        rw [hadd, cell_of (heap_new _ _)]
        match j, hj with
        | 0, _ => simp [Nat.mod_eq_of_lt hb1.1]
        | 1, _ => simp [Nat.mod_eq_of_lt hb1.2.1]
        | 2, _ => simp [Nat.mod_eq_of_lt hb1.2.2])
      have CV2 : Sem.run Try.prog (convert 22 9 (.slice (some ⟨wr.heap.size, 0, none⟩) 3 3)) (wr.alloc (.cells #[.int .u8 (x1 : Int), .int .u8 (x2 : Int), .int .u8 (x3 : Int)] 5)) = .ok (.string ⟨#[UInt8.ofNat x1, UInt8.ofNat x2, UInt8.ofNat x3]⟩) (wr.alloc (.cells #[.int .u8 (x1 : Int), .int .u8 (x2 : Int), .int .u8 (x3 : Int)] 5)) := CV
      clear CV
      have ds2 := (unhide DS).later hbl
      have DS2 := hide ds2
      clear hbl ds2 DS
      have AP := cappend (s := nmI i) (a := none) (cap := 0) (b := []) (unhide DS2) (by unfold maxLen; show 4 ≤ _; decide) (fun j hj => by cases hj) (fun _ => rfl) (Nat.le_refl _) (fun h => by cases h)
      have hff := full_file U (unhide HUL) (k := k) (i := i) (by omega) (by omega)
      have hf1 : apE ⟨fsI U k, false, 0, false⟩ (nmI i) ([] : List Nat).length = if k < 4095 then 0 else 3 := hff.1
      rw [hf1, hff.2, ← unhide EN] at AP
      by_cases hk4 : k < 4095
      · rw [if_pos hk4, if_pos hk4] at AP
        have hki2 := hkk hk4
        have hk4' : (k : Int) + 1 < 4096 := by omega
        have APH : Hid (Calls Try.prog 11 #[.pointer (some ⟨w.heap.size, 0, none⟩), .string ((⟨#[102]⟩ : ByteArray) ++ ⟨#[UInt8.ofNat x1, UInt8.ofNat x2, UInt8.ofNat x3]⟩), .slice none 0 0] (wr.alloc (.cells #[.int .u8 (x1 : Int), .int .u8 (x2 : Int), .int .u8 (x3 : Int)] 5)) fun e w' => e = .returned (.int .i64 ((0 : Nat) : Int)) ∧ ∃ S', Ds w w' w.heap.size S' ⟨fsI U (k + 1), false, 0, false⟩) := by
          refine AP.mono ?_
          rintro e w' ⟨he, S', h1, _⟩
          refine ⟨he, S', ?_⟩
          rw [unhide EN] at h1
          subst hki2
          exact h1
        clear AP hff hf1 DS2 EN
        subst hki2
        go_wp2_with fail
        refine (unhide APH).mono ?_
        rintro e w11 ⟨rfl, S11, ds11⟩
        have D11 := hide ds11
        clear ds11 APH
        go_wp2
        go_roundw
        case rel => exact ⟨k + 1, k + 1, S11, by omega, by go_num, by omega, by go_num, unhide D11⟩
        case measure => simp [intOf]; omega
      · rw [if_neg hk4, if_neg hk4] at AP
        have hk5 : k = 4095 := by omega
        have APH : Hid (Calls Try.prog 11 #[.pointer (some ⟨w.heap.size, 0, none⟩), .string ((⟨#[102]⟩ : ByteArray) ++ ⟨#[UInt8.ofNat x1, UInt8.ofNat x2, UInt8.ofNat x3]⟩), .slice none 0 0] (wr.alloc (.cells #[.int .u8 (x1 : Int), .int .u8 (x2 : Int), .int .u8 (x3 : Int)] 5)) fun e w' => e = .returned (.int .i64 ((3 : Nat) : Int)) ∧ ∃ S', Ds w w' w.heap.size S' ⟨fsI U k, false, 0, false⟩) := by
          refine AP.mono ?_
          rintro e w' ⟨he, S', h1, _⟩
          exact ⟨he, S', h1⟩
        have hk4' : ¬ (k : Int) + 1 < 4096 := by omega
        have HK5 := hide hk5
        have hmin : min (i + 1) 4095 = k := by have := unhide HK; omega
        have HMIN := hide hmin
        clear AP hff hf1 DS2 EN hk5 hmin
        go_wp2_with fail
        refine (unhide APH).mono ?_
        rintro e w11 ⟨rfl, S11, ds11⟩
        have D11 := hide ds11
        clear ds11 APH
        go_wp2
        go_roundw
        case rel => exact ⟨i + 1, k, S11, by omega, by go_num, (unhide HMIN).symm, rfl, unhide D11⟩
        case measure => simp [intOf]; omega
    · have hic' : ¬ (i : Int) < (Z : Int) := by omega
      have SZ := dsize_any (s := nmBig) (unhide DS).disk size_big
      have e1 : rdF ⟨fsI U k, false, 0, false⟩ nmBig = ⟨nmBig, U, 0⟩ ∧ findE false (fsI U k) nmBig = 0 := by
        have hf : findE false (fsI U k) nmBig = 0 := by
          unfold findE
          have hn : okName nmBig = true := rfl
          rw [hn, fsI_big]; rfl
        refine ⟨?_, hf⟩
        unfold rdF
        simp only
        rw [if_pos hf, fsI_big]; rfl
      simp only at SZ
      rw [e1.1, e1.2] at SZ
      simp only at SZ
      rw [unhide HUL] at SZ
      have SZH := hide SZ
      clear SZ e1
      go_wp2_with fail
      refine (unhide SZH).mono ?_
      rintro e w10 ⟨rfl, n10, rfl⟩
      have ds10 := (unhide DS).drewN n10
      have NA := hide (dnames_any ds10.disk (by intro e; have h1 := fsI_len U k; simp only at e; rw [e] at h1; simp at h1))
      have DS10 := hide ds10
      clear ds10 SZH DS
      generalize wr.drewN n10 = w11 at *
      go_wp2_with fail
      refine (unhide NA).mono ?_
      rintro e w12 ⟨v12, nl, rfl, na⟩
      have hl12 : nl.length = k + 1 := by
        have := na.perm.length_eq
        rw [List.length_map] at this
        rw [this, fsI_len]
      obtain ⟨a12, c12, e12, _⟩ := na.own.parts
      have e12' : v12 = .slice a12 (k + 1) c12 := by rw [e12]; simp [strs, hl12]
      have BB := hide ((unhide DS10).later na.below).below
      clear na e12 hl12 NA DS10
      subst e12'
      go_wp2
      go_returns
      exact ⟨by simp, unhide BB⟩
end Go.Proofs.Ytcnmenfianeakab
