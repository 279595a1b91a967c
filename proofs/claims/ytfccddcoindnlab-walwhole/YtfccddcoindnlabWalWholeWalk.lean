/-
  WalWhole. Conditions: each list is at most 2^47 payloads.
-/
import Derived.Test.YtfccddcoindnlabBr6
import Derived.Test.YtfccddcoindnlabWalApartWalk

namespace Go.Proofs.Ytfccddcoindnlab
open Go.RowKit
set_option linter.unusedVariables false

/-- What the last Open finds. -/
def OfPost (w0 : World) (ls : List (List Nat)) (e : Ending) (w' : World) : Prop :=
  ∃ wb a cap, e = .returned (.tuple #[.pointer (some ⟨wb, 0, none⟩), .slice a ls.length cap, .int .i64 0]) ∧ RAt w' a ls ∧ Below w0.heap.size w0 w'
theorem ofOpen {w0 w : World} {db : Nat} {S : Nat → Prop} {d : Dk} {t : List Nat} (h : Ds w0 w db S d) (hs : nmW.size ≤ maxLen) (k : apE d nmW 0 = 0 ∧ opT d nmW = t) :
    Calls Try.prog 16 #[.pointer (some ⟨db, 0, none⟩), .string nmW] w fun e w' => OfPost w0 (scan t).1 e w' := by
  refine (zopen h hs k.1 k.2 rfl rfl).mono ?_
  rintro e w' ⟨wb, a, cap, S', rfl, z, _, hh, _⟩
  obtain ⟨_, _, e1, r, _⟩ := hh.parts
  cases e1
  exact ⟨wb, a, cap, rfl, r, z.below⟩
theorem frames_step {ls : List (List Nat)} {k : Nat} (h : k < ls.length) : (frames (ls.take (k + 1))).length = (frames (ls.take k)).length + (8 + (ls.getD k []).length) := by
  rw [frames_take_succ h, List.length_append, fenc_len]

set_option maxRecDepth 100000 in
set_option maxHeartbeats 8000000 in
theorem walWhole_walk (a b : Option Addr) (cap capb : Nat) (xs ys : List (List Nat)) (n : Nat) (q : Int) (w : World) (ha : RAt w a xs) (hb : RAt w b ys) (hla : xs.length ≤ 140737488355328) (hlb : ys.length ≤ 140737488355328) (hn : n < 65536) (hq1 : -9223372036854775808 ≤ q) (hq2 : q < 9223372036854775808) :
    Calls Try.prog 5 #[.slice a xs.length cap, .slice b ys.length capb, .int .u16 (n : Nat), .int .i64 q] w fun e w' => e = .returned (.bool true) ∧ Below w.heap.size w w' := by
  have HA := hide ha
  have HB := hide hb
  clear ha hb
  go_enter Try.func5, Try.ntmps5
  go_wp2_with fail
  refine (dnew_any w).mono ?_
  rintro e w1 ⟨rfl, g1⟩
  obtain ⟨S1, ds1⟩ := Ds.new g1
  obtain ⟨p1, p2, p3, p4⟩ := none_open ok_W
  have A1 := hide (zopen (d := noneD) ds1 size_W p1 p2 p3 p4)
  clear p1 p2 p3 p4 g1 ds1
  rw [scan_nil] at A1
  go_wp2_with fail
  refine (unhide A1).mono ?_
  rintro e w2 ⟨wb, a2, cap2, S2, rfl, z2, _⟩
  simp only [List.length_nil] at z2 ⊢
  have Z2 := hide z2
  clear z2 A1
  go_wp2_with fail
  refine (awake6_any w2).mono ?_
  rintro e w4 ⟨rfl, b4⟩
  have Z4 := hide ((unhide Z2).later b4)
  have LA := hide (long_any w4 a cap xs ((unhide HA).later (unhide Z4).below) (by omega))
  have LB := hide (long_any w4 b capb ys ((unhide HB).later (unhide Z4).below) (by omega))
  clear b4 Z2
  have AW : Hid (Calls Try.prog 17 #[] w4 fun e w' => e = .returned (.bool true) ∧ Below w.heap.size w w') := by
    refine (awake6_any w4).mono ?_
    rintro e w5 ⟨he, b5⟩
    exact ⟨he, ((unhide Z4).later b5).below⟩
  go_wp2_with fail
  refine (unhide LA).mono ?_
  rintro e w5 ⟨rfl, rfl⟩
  cases hga : isLong xs with
  | true =>
    go_wp2_with fail
    refine (unhide AW).mono ?_
    rintro e w6 ⟨rfl, b6⟩
    have B6 := hide b6
    clear b6
    go_wp2
    go_returns
    exact ⟨rfl, unhide B6⟩
  | false =>
  have H4A := hide (isLong_no hga)
  go_wp2_with fail
  refine (unhide LB).mono ?_
  rintro e w6 ⟨rfl, rfl⟩
  cases hgb : isLong ys with
  | true =>
    go_wp2_with fail
    refine (unhide AW).mono ?_
    rintro e w6 ⟨rfl, b6⟩
    have B6 := hide b6
    clear b6
    go_wp2
    go_returns
    exact ⟨rfl, unhide B6⟩
  | false =>
  have H4B := hide (isLong_no hgb)
  clear hga hgb LA LB
  by_cases hxa : 100 < xs.length
  · have hxa' : (100 : Int) < (xs.length : Int) := by omega
    go_wp2_with fail
    refine (unhide AW).mono ?_
    rintro e w6 ⟨rfl, b6⟩
    have B6 := hide b6
    clear b6
    go_wp2
    go_returns
    exact ⟨rfl, unhide B6⟩
  have hxa' : ¬ (100 : Int) < (xs.length : Int) := by omega
  by_cases hyb : 100 < ys.length
  · have hyb' : (100 : Int) < (ys.length : Int) := by omega
    go_wp2_with fail
    refine (unhide AW).mono ?_
    rintro e w6 ⟨rfl, b6⟩
    have B6 := hide b6
    clear b6
    go_wp2
    go_returns
    exact ⟨rfl, unhide B6⟩
  have hyb' : ¬ (100 : Int) < (ys.length : Int) := by omega
  clear AW
  have sa := frames_small (k := xs.length) (unhide H4A) (by omega)
  have sb := frames_small (k := ys.length) (unhide H4B) (by omega)
  rw [List.take_length] at sa sb
  have CP := hide (copied_any _ a cap xs ((unhide HA).later (unhide Z4).below) (by omega) (unhide H4A))
  go_wp2_with fail
  refine (unhide CP).mono ?_
  rintro e w5 ⟨v5, rfl, pd5, n5, b5⟩
  have hwl := (unhide Z4).wl.ready.lt
  obtain ⟨c5, cap5, rfl, cl5⟩ := paid_clear (S := (· = wb)) pd5 n5 (fun k hk => by omega)
  have Z5 := hide ((unhide Z4).later b5)
  obtain ⟨r1, fu1, r2⟩ := g_re (t := []) (la := 0) (ar := false) (fu := 0) (b := frames xs) (by simp only [List.length_nil]; omega) (fun h => by cases h)
  have RW := hide (wrewrite_ok (s2 := nmX) (cap := cap5) (unhide Z5).wl (by decide) rfl (by decide) r1 cl5 (unhide H4A) (by omega))
  have R2 := hide r2
  clear pd5 n5 b5 cl5 r1 r2 CP Z4
  go_wp2_with fail
  refine (unhide RW).mono ?_
  rintro e w6 ⟨rfl, S6, g6⟩
  have z6 := (unhide Z5).to g6
  have er : reD (one nmW [] 0) nmW nmX (frames xs) = oneG (frames xs) (frames xs).length false fu1 := unhide R2
  rw [er] at z6
  have Z6 := hide z6
  have CN := hide (wcount_any z6.wl)
  clear g6 z6 er R2 RW Z5
  go_wp2_with fail
  refine (unhide CN).mono ?_
  rintro e w7 ⟨rfl, hw7⟩
  subst hw7
  clear CN
  go_wp2_with fail
  go_loop [13, 70] (fun al i => ∃ k : Nat, k ≤ ys.length ∧ i = .int .i64 k ∧ al = .int .i64 ((frames (ys.take k)).length : Nat)) (fun _ i => ys.length - (intOf i).toNat)
  case atStart => exact ⟨0, Nat.zero_le _, rfl, by simp [frames]⟩
  case round =>
    obtain ⟨k, hk, rfl, rfl⟩ := hrel
    by_cases hkc : k < ys.length
    · have hkc' : (k : Int) < (ys.length : Int) := by omega
      obtain ⟨bb, ob, xb, cxb, rfl, _, hcb, _, _⟩ := ((unhide HB).later (unhide Z6).below).cell hkc
      have hp4 := unhide H4B _ (getD_mem_l hkc)
      have FS := hide (frames_step hkc)
      have sk := frames_small (k := k) (unhide H4B) (by omega)
      generalize ys.getD k [] = p at *
      generalize (frames (ys.take k)).length = A at *
      go_wp2
      go_round
      case rel => exact ⟨k + 1, by omega, by go_num, by rw [unhide FS]; simp only [Value.int.injEq, true_and]; first | omega | (simp; omega)⟩
      case measure => simp [intOf]; omega
    · obtain rfl : k = ys.length := by omega
      rw [List.take_length]
      obtain ⟨A, hA⟩ : ∃ A, A = (frames ys).length := ⟨_, rfl⟩
      have HAL := hide hA
      rw [← hA]
      rw [← hA] at sb
      obtain ⟨f, hf⟩ : ∃ f, f = n % (A + 2) := ⟨_, rfl⟩
      have hml : f < A + 2 := by rw [hf]; exact Nat.mod_lt _ (by omega)
      have hkk : (n : Int) % ((A : Int) + 2) = (f : Int) := by rw [hf]; simp
      have hA0 : ¬ ((A : Int) + 2) = 0 := by omega
      have AR := darm_any (unhide Z6).wl.disk (f : Int) (by omega) (by omega)
      rw [g_arm (by omega)] at AR
      have ARH := hide AR
      clear AR hA hf
      go_wp2_with fail
      refine (unhide ARH).mono ?_
      rintro e w7 ⟨rfl, g7⟩
      obtain ⟨S7, k7⟩ := (unhide Z6).wl.went g7
      have Z7 := hide ((unhide Z6).to k7)
      have CP := hide (copied_any w7 b capb ys ((unhide HB).later (unhide Z7).below) (by omega) (unhide H4B))
      clear g7 k7 ARH Z6
      go_wp2_with fail
      refine (unhide CP).mono ?_
      rintro e w8 ⟨v8, rfl, pd8, n8, b8⟩
      have hwl7 := (unhide Z7).wl.ready.lt
      obtain ⟨c8, cap8, rfl, cl8⟩ := paid_clear (S := (· = wb)) pd8 n8 (fun k hk => by omega)
      have Y8 := hide ((unhide Z7).later b8)
      have CL := hide cl8
      clear pd8 n8 b8 cl8 CP Z7
      by_cases hfa : A ≤ f
      · have hge : (A : Int) ≤ (f : Int) := by omega
        obtain ⟨r1, fu2, r2⟩ := g_re (t := frames xs) (la := (frames xs).length) (ar := true) (fu := (f : Int)) (b := frames ys) (by have := unhide HAL; omega) (fun _ => by have := unhide HAL; omega)
        have RW := hide (wrewrite_ok (s2 := nmX) (cap := cap8) (unhide Y8).wl (by decide) rfl (by decide) r1 (unhide CL) (unhide H4B) (by omega))
        have R2 := hide r2
        clear r1 r2
        go_wp2_with fail
        refine (unhide RW).mono ?_
        rintro e wq ⟨rfl, Sq, gq⟩
        have zq := (unhide Y8).to gq
        rw [unhide R2] at zq
        have Z8 := hide zq
        have OP : Hid (apE (crD (u64N q) (oneG (frames ys) (frames ys).length true fu2)) nmW 0 = 0 ∧ opT (crD (u64N q) (oneG (frames ys) (frames ys).length true fu2)) nmW = frames ys) := by
          rw [g_crash]; exact g_open (by have := unhide HAL; omega)
        clear gq zq R2 RW Y8 CL
        have CRA := hide (dcrash_any (unhide Z8).wl.disk q)
        go_wp2_with fail
        refine (unhide CRA).mono ?_
        rintro e w9 ⟨rfl, g9⟩
        obtain ⟨S9, ds9, _, _⟩ := (unhide Z8).ds.went g9
        have OPN := hide (ofOpen ds9 size_W (unhide OP))
        have SW := hide (scan_whole (unhide H4B))
        rw [unhide SW] at OPN
        clear g9 ds9 CRA Z8 OP
        go_wp2_with fail
        refine (unhide OPN).mono ?_
        rintro e wa ⟨wba, aa, capa, rfl, ra, belo⟩
        have BA := hide belo
        have SA := hide (samelist_any wa aa b capa capb ys ra ((unhide HB).later belo) (by omega) (fun l hl => by have := unhide H4B l hl; omega))
        clear ra belo OPN SW
        go_wp2_with fail
        refine (unhide SA).mono ?_
        rintro e wz ⟨rfl, nz, rfl⟩
        go_wp2
        go_returns
        exact ⟨by simp, (unhide BA).trans ((below_drew7 wa nz).mono (unhide BA).size)⟩
      · have hge : ¬ (A : Int) ≤ (f : Int) := by omega
        obtain ⟨r1, fu2, r2⟩ := g_rb (t := frames xs) (la := (frames xs).length) (fu := (f : Int)) (b := frames ys) (by have := unhide HAL; omega) (by omega) (by have := unhide HAL; omega)
        have RW := hide (wrewrite_br (s2 := nmX) (cap := cap8) (unhide Y8).wl (by decide) rfl (by decide) r1 (unhide CL) (unhide H4B) (by omega))
        have R2 := hide r2
        clear r1 r2
        go_wp2_with fail
        refine (unhide RW).mono ?_
        rintro e wq ⟨rfl, Sq, gq⟩
        have zq := (unhide Y8).to gq
        rw [unhide R2] at zq
        have Z8 := hide zq
        have OP : Hid (apE (crD (u64N q) (twoX ((frames ys).take ((f : Int)).toNat) (frames xs) 0 (frames xs).length true fu2 true)) nmW 0 = 0 ∧ opT (crD (u64N q) (twoX ((frames ys).take ((f : Int)).toNat) (frames xs) 0 (frames xs).length true fu2 true)) nmW = frames xs) := by
          obtain ⟨x', lx', hx, ex⟩ := x_crash (x := (frames ys).take ((f : Int)).toNat) (t := frames xs) (lx := 0) (ar := true) (fu := fu2) (u64N q) (de := true)
          rw [ex]
          refine x_open ?_
          have := unhide HAL
          rw [List.length_take] at hx
          omega
        clear gq zq R2 RW Y8 CL
        have CRA := hide (dcrash_any (unhide Z8).wl.disk q)
        go_wp2_with fail
        refine (unhide CRA).mono ?_
        rintro e w9 ⟨rfl, g9⟩
        obtain ⟨S9, ds9, _, _⟩ := (unhide Z8).ds.went g9
        have OPN := hide (ofOpen ds9 size_W (unhide OP))
        have SW := hide (scan_whole (unhide H4A))
        rw [unhide SW] at OPN
        clear g9 ds9 CRA Z8 OP
        go_wp2_with fail
        refine (unhide OPN).mono ?_
        rintro e wa ⟨wba, aa, capa, rfl, ra, belo⟩
        have BA := hide belo
        have SA := hide (samelist_any wa aa a capa cap xs ra ((unhide HA).later belo) (by omega) (fun l hl => by have := unhide H4A l hl; omega))
        clear ra belo OPN SW
        go_wp2_with fail
        refine (unhide SA).mono ?_
        rintro e wz ⟨rfl, nz, rfl⟩
        go_wp2
        go_returns
        exact ⟨by simp, (unhide BA).trans ((below_drew7 wa nz).mono (unhide BA).size)⟩
end Go.Proofs.Ytfccddcoindnlab
