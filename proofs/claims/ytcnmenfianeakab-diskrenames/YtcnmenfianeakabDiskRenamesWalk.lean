/-
  DiskRenames walked: it answers true. Conditions: each of the two is at most 2^47 bytes.
-/
import Derived.Test.YtcnmenfianeakabAw5
import Derived.Test.YtcnmenfianeakabRn5
import Derived.Test.YtcnmenfianeakabNm5
import Derived.Test.YtcnmenfianeakabSm5
namespace Go.Proofs.Ytcnmenfianeakab
open Go.RowKit Go.Maps
set_option linter.unusedVariables false

abbrev nmOld : ByteArray := ⟨#[111, 108, 100]⟩
abbrev nmNew : ByteArray := ⟨#[110, 101, 119]⟩
theorem size_three (a b c : UInt8) : (⟨#[a, b, c]⟩ : ByteArray).size ≤ maxLen := by unfold maxLen; show 3 ≤ _; decide

theorem ren_ap1 (a : List Nat) (h : a.length ≤ 524288) : apE ⟨[], false, 0, false⟩ nmOld a.length = 0 ∧ apD ⟨[], false, 0, false⟩ nmOld a = ⟨[⟨nmOld, a, 0⟩], false, 0, false⟩ := by
  have hr : apR ⟨[], false, 0, false⟩ nmOld a.length = 0 := by
    unfold apR
    have hf : findE false [] nmOld = 4 := rfl
    have hu : usedF [] = 0 := rfl
    simp only [hf, hu]
    rw [if_neg (by omega), if_neg (by simp; omega)]
  refine ⟨by unfold apE; rw [hr]; rfl, ?_⟩
  unfold apD
  rw [hr]
  show Dk.mk (apF [] nmOld (a.take a.length)) _ _ _ = _
  rw [List.take_length]; rfl
theorem ren_ap2 (a b : List Nat) (h : a.length + b.length ≤ 524288) : apE ⟨[⟨nmOld, a, 0⟩], false, 0, false⟩ nmNew b.length = 0 ∧ apD ⟨[⟨nmOld, a, 0⟩], false, 0, false⟩ nmNew b = ⟨[⟨nmNew, b, 0⟩, ⟨nmOld, a, 0⟩], false, 0, false⟩ := by
  have hr : apR ⟨[⟨nmOld, a, 0⟩], false, 0, false⟩ nmNew b.length = 0 := by
    unfold apR
    have hf : findE false [⟨nmOld, a, 0⟩] nmNew = 4 := rfl
    have hu : usedF [⟨nmOld, a, 0⟩] = a.length := by simp [usedF]
    simp only [hf, hu]
    rw [if_neg (by omega), if_neg (by simp; omega)]
  refine ⟨by unfold apE; rw [hr]; rfl, ?_⟩
  unfold apD
  rw [hr]
  show Dk.mk (apF _ nmNew (b.take b.length)) _ _ _ = _
  rw [List.take_length]; rfl
theorem ren_cr (K : Nat) (b : List Nat) : crD K ⟨[⟨nmOld, b, b.length⟩], false, 0, false⟩ = ⟨[⟨nmOld, b, b.length⟩], false, 0, false⟩ := by
  have hn : crashN K ⟨nmOld, b, b.length⟩ = b.length := by unfold crashN; simp; omega
  show Dk.mk [⟨nmOld, b.take (crashN K ⟨nmOld, b, b.length⟩), crashN K ⟨nmOld, b, b.length⟩⟩] _ _ _ = _
  rw [hn, List.take_length]

set_option maxRecDepth 100000 in
set_option maxHeartbeats 8000000 in
theorem diskRenames_walk (a0 : Option Addr) (cap0 : Nat) (A : List Nat) (a1 : Option Addr) (cap1 : Nat) (B : List Nat) (q : Bool) (n : Int) (w : World) (hA : LAt w a0 A) (hn0 : a0 = none → cap0 = 0) (hc0 : A.length ≤ cap0) (hB : LAt w a1 B) (hn1 : a1 = none → cap1 = 0) (hc1 : B.length ≤ cap1) (hl0 : A.length ≤ 140737488355328) (hl1 : B.length ≤ 140737488355328) :
    Calls Try.prog 3 #[.slice a0 A.length cap0, .slice a1 B.length cap1, .bool q, .int .i64 n] w fun e w' => e = .returned (.bool true) ∧ Below w.heap.size w w' := by
  have HA := hide hA
  have HB := hide hB
  clear hA hB
  go_enter Try.func3, Try.ntmps3
  go_wp2_with fail
  refine (dnew_any w).mono ?_
  rintro e w1 ⟨rfl, g1⟩
  obtain ⟨S1, ds1⟩ := Ds.new g1
  have DS1 := hide ds1
  clear g1 ds1
  by_cases hbig : 524288 < A.length + B.length
  · have hbig' : (524288 : Int) < (A.length : Int) + (B.length : Int) := by omega
    go_wp2_with fail
    refine (awake5_any w1).mono ?_
    rintro e w2 ⟨rfl, b2⟩
    have D2 := hide ((unhide DS1).later b2)
    clear b2 DS1
    go_wp2_with fail
    refine (awake5_any w2).mono ?_
    rintro e w3 ⟨rfl, b3⟩
    have D3 := hide ((unhide D2).later b3).below
    clear b3
    go_wp2
    go_returns
    exact ⟨rfl, unhide D3⟩
  have hbig' : ¬ (524288 : Int) < (A.length : Int) + (B.length : Int) := by omega
  go_wp2_with fail
  refine (awake5_any w1).mono ?_
  rintro e w2 ⟨rfl, b2⟩
  have ds2 := (unhide DS1).later b2
  have A1 := cappend (s := nmOld) ds2 (size_three _ _ _) ((unhide HA).later ds2.below) hn0 hc0 (fun h0 x hx hS => by
    have h1 : x.block < w.heap.size := by obtain ⟨b, off, e1, e2, _⟩ := (unhide HA).cell h0; rw [hx] at e1; cases e1; exact e2
    have h2 := ds2.base _ hS
    omega)
  rw [(ren_ap1 A (by omega)).1, (ren_ap1 A (by omega)).2] at A1
  have A1H := hide A1
  clear A1 ds2 b2 DS1
  go_wp2_with fail
  refine (unhide A1H).mono ?_
  rintro e w3 ⟨rfl, S3, ds3, _⟩
  have A2 := cappend (s := nmNew) ds3 (size_three _ _ _) ((unhide HB).later ds3.below) hn1 hc1 (fun h0 x hx hS => by
    have h1 : x.block < w.heap.size := by obtain ⟨b, off, e1, e2, _⟩ := (unhide HB).cell h0; rw [hx] at e1; cases e1; exact e2
    have h2 := ds3.base _ hS
    omega)
  rw [(ren_ap2 A B (by omega)).1, (ren_ap2 A B (by omega)).2] at A2
  have A2H := hide A2
  clear A2 ds3 A1H
  go_wp2_with fail
  refine (unhide A2H).mono ?_
  rintro e w4 ⟨rfl, S4, ds4, _⟩
  have DS4 := hide ds4
  clear ds4 A2H
  cases q
  · have R := drename_any (s := nmNew) (t := nmOld) (unhide DS4).disk (size_three _ _ _) (size_three _ _ _)
    have e1 : rnE ⟨[⟨nmNew, B, 0⟩, ⟨nmOld, A, 0⟩], false, 0, false⟩ nmNew nmOld = 0 := rfl
    have e2 : rnD ⟨[⟨nmNew, B, 0⟩, ⟨nmOld, A, 0⟩], false, 0, false⟩ nmNew nmOld = ⟨[⟨nmOld, B, B.length⟩], false, 0, false⟩ := rfl
    rw [e1, e2] at R
    have RH := hide R
    clear R e1 e2
    go_wp2_with fail
    refine (unhide RH).mono ?_
    rintro e w5 ⟨rfl, g5⟩
    obtain ⟨S5, ds5, _⟩ := (unhide DS4).went g5
    have DS5 := hide ds5
    clear g5 ds5 RH DS4
    have CR := ccrash (unhide DS5) n
    rw [ren_cr] at CR
    have CRH := hide CR
    clear CR DS5
    go_wp2_with fail
    refine (unhide CRH).mono ?_
    rintro e w6 ⟨rfl, S6, ds6⟩
    have RD := dread_any (s := nmOld) ds6.disk (size_three _ _ _)
    have e3 : findE false [⟨nmOld, B, B.length⟩] nmOld = 0 := rfl
    have e4 : (rdF ⟨[⟨nmOld, B, B.length⟩], false, 0, false⟩ nmOld).text = B := rfl
    simp only at RD
    rw [e3, e4] at RD
    have RDH := hide RD
    have DS6 := hide ds6
    clear RD e3 e4 ds6 CRH
    go_wp2_with fail
    refine (unhide RDH).mono ?_
    rintro e w7 ⟨v7, rfl, r7, n7, b7⟩
    have ds7 := (unhide DS6).later b7
    have NA := hide (dnames_any ds7.disk (by simp))
    have DS7 := hide ds7
    have R7 := hide r7
    obtain ⟨a7, c7, rfl, _⟩ := r7.parts
    clear r7 n7 b7 ds7 RDH DS6
    go_wp2_with fail
    refine (unhide NA).mono ?_
    rintro e w8 ⟨v8, nl, rfl, n8⟩
    have hnl : nl = [nmOld] := by
      have := n8.perm
      simpa using this
    subst hnl
    have ds8 := (unhide DS7).later n8.below
    obtain ⟨a8, c8, e8, _, _, _, _, h8⟩ := n8.own.parts
    obtain ⟨g8, hg8, _, hc8, _⟩ := h8 0 (by simp [strs])
    subst hg8
    have hc8' : w8.cell? ⟨g8, 0, none⟩ = some (.string nmOld) := hc8
    have e8' : v8 = .slice (some ⟨g8, 0, none⟩) 1 c8 := e8
    subst e8'
    obtain ⟨_, _, e7, l7, _⟩ := ((unhide R7).later n8.below).parts
    cases e7
    have SM := hide (same5_any w8 a7 a1 c7 cap1 B l7 ((unhide HB).later ds8.below) (by omega))
    have BB := hide ds8.below
    clear n8 ds8 h8 hc8 e8 l7 NA DS7 R7
    go_wp2_with fail
    refine (unhide SM).mono ?_
    rintro e w9 ⟨rfl, n9, rfl⟩
    have hc9 : (w8.drewN n9).cell? ⟨g8, 0, none⟩ = some (.string nmOld) := hc8'
    have BF : Hid (Below w.heap.size w (w8.drewN n9)) := (unhide BB).trans ⟨rfl, rfl, rfl, Nat.le_refl _, fun _ _ => rfl⟩
    go_wp2
    go_returns
    exact ⟨by simp, unhide BF⟩
  · have SY := csync (s := nmOld) (unhide DS4) (size_three _ _ _)
    have e0 : syD ⟨[⟨nmNew, B, 0⟩, ⟨nmOld, A, 0⟩], false, 0, false⟩ nmOld = ⟨[⟨nmNew, B, 0⟩, ⟨nmOld, A, A.length⟩], false, 0, false⟩ := rfl
    rw [e0] at SY
    have SYH := hide SY
    clear SY e0
    go_wp2_with fail
    refine (unhide SYH).mono ?_
    rintro e w4' ⟨rfl, S4', ds4'⟩
    have R := drename_any (s := nmNew) (t := nmOld) ds4'.disk (size_three _ _ _) (size_three _ _ _)
    have e1 : rnE ⟨[⟨nmNew, B, 0⟩, ⟨nmOld, A, A.length⟩], false, 0, false⟩ nmNew nmOld = 0 := rfl
    have e2 : rnD ⟨[⟨nmNew, B, 0⟩, ⟨nmOld, A, A.length⟩], false, 0, false⟩ nmNew nmOld = ⟨[⟨nmOld, B, B.length⟩], false, 0, false⟩ := rfl
    rw [e1, e2] at R
    have RH := hide R
    have DS4' := hide ds4'
    clear R e1 e2 ds4' SYH DS4
    go_wp2_with fail
    refine (unhide RH).mono ?_
    rintro e w5 ⟨rfl, g5⟩
    obtain ⟨S5, ds5, _⟩ := (unhide DS4').went g5
    have DS5 := hide ds5
    clear g5 ds5 RH DS4'
    have CR := ccrash (unhide DS5) n
    rw [ren_cr] at CR
    have CRH := hide CR
    clear CR DS5
    go_wp2_with fail
    refine (unhide CRH).mono ?_
    rintro e w6 ⟨rfl, S6, ds6⟩
    have RD := dread_any (s := nmOld) ds6.disk (size_three _ _ _)
    have e3 : findE false [⟨nmOld, B, B.length⟩] nmOld = 0 := rfl
    have e4 : (rdF ⟨[⟨nmOld, B, B.length⟩], false, 0, false⟩ nmOld).text = B := rfl
    simp only at RD
    rw [e3, e4] at RD
    have RDH := hide RD
    have DS6 := hide ds6
    clear RD e3 e4 ds6 CRH
    go_wp2_with fail
    refine (unhide RDH).mono ?_
    rintro e w7 ⟨v7, rfl, r7, n7, b7⟩
    have ds7 := (unhide DS6).later b7
    have NA := hide (dnames_any ds7.disk (by simp))
    have DS7 := hide ds7
    have R7 := hide r7
    obtain ⟨a7, c7, rfl, _⟩ := r7.parts
    clear r7 n7 b7 ds7 RDH DS6
    go_wp2_with fail
    refine (unhide NA).mono ?_
    rintro e w8 ⟨v8, nl, rfl, n8⟩
    have hnl : nl = [nmOld] := by
      have := n8.perm
      simpa using this
    subst hnl
    have ds8 := (unhide DS7).later n8.below
    obtain ⟨a8, c8, e8, _, _, _, _, h8⟩ := n8.own.parts
    obtain ⟨g8, hg8, _, hc8, _⟩ := h8 0 (by simp [strs])
    subst hg8
    have hc8' : w8.cell? ⟨g8, 0, none⟩ = some (.string nmOld) := hc8
    have e8' : v8 = .slice (some ⟨g8, 0, none⟩) 1 c8 := e8
    subst e8'
    obtain ⟨_, _, e7, l7, _⟩ := ((unhide R7).later n8.below).parts
    cases e7
    have SM := hide (same5_any w8 a7 a1 c7 cap1 B l7 ((unhide HB).later ds8.below) (by omega))
    have BB := hide ds8.below
    clear n8 ds8 h8 hc8 e8 l7 NA DS7 R7
    go_wp2_with fail
    refine (unhide SM).mono ?_
    rintro e w9 ⟨rfl, n9, rfl⟩
    have hc9 : (w8.drewN n9).cell? ⟨g8, 0, none⟩ = some (.string nmOld) := hc8'
    have BF : Hid (Below w.heap.size w (w8.drewN n9)) := (unhide BB).trans ⟨rfl, rfl, rfl, Nat.le_refl _, fun _ _ => rfl⟩
    go_wp2
    go_returns
    exact ⟨by simp, unhide BF⟩
end Go.Proofs.Ytcnmenfianeakab
