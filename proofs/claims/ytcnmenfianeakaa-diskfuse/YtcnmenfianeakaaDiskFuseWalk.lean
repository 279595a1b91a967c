/-
  DiskFuse walked: it answers true. Conditions: the pieces are at most 2^63 - 1.
-/
import Derived.Test.YtcnmenfianeakaaAw5
import Derived.Test.YtcnmenfianeakaaSc1
namespace Go.Proofs.Ytcnmenfianeakaa
open Go.RowKit Go.Maps
set_option linter.unusedVariables false

abbrev nmA : ByteArray := ⟨#[97]⟩
abbrev nmB : ByteArray := ⟨#[98]⟩
abbrev nmC : ByteArray := ⟨#[99]⟩
/-- The files: b, and a, if it is there. -/
def fsF (t : Option (List Nat)) : List Ft :=
  match t with
  | none => [⟨nmB, [98], 0⟩]
  | some t => [⟨nmA, t, 0⟩, ⟨nmB, [98], 0⟩]
def txF (t : Option (List Nat)) : List Nat := t.getD []
theorem fuse_apF (t : Option (List Nat)) (x : List Nat) : apF (fsF t) nmA x = fsF (some (txF t ++ x)) := by
  cases t <;> rfl
theorem fuse_used (t : Option (List Nat)) : usedF (fsF t) = (txF t).length + 1 := by
  cases t <;> rfl
theorem fuse_find (t : Option (List Nat)) : findE false (fsF t) nmA = match t with | none => 4 | some _ => 0 := by
  cases t <;> rfl
theorem fuse_few (t : Option (List Nat)) : (fsF t).length ≤ 2 := by
  cases t <;> simp [fsF]
theorem fuse_apR (t : Option (List Nat)) (armed : Bool) (fuse : Int) (n : Nat) (h : (txF t).length + 1 + n ≤ 4194304) : apR ⟨fsF t, armed, fuse, false⟩ nmA n = 0 := by
  have h1 := fuse_few t
  have h2 : findE false (fsF t) nmA = 0 ∨ findE false (fsF t) nmA = 4 := by rw [fuse_find]; cases t <;> simp
  unfold apR
  rw [if_neg (by simp only; omega), if_neg]
  simp only
  rw [fuse_used]
  omega
theorem fuse_apE (t : Option (List Nat)) (armed : Bool) (fuse : Int) (n : Nat) (h : (txF t).length + 1 + n ≤ 4194304) : apE ⟨fsF t, armed, fuse, false⟩ nmA n = if burnD armed fuse n false then 9 else 0 := by
  unfold apE
  rw [fuse_apR t armed fuse n h]; rfl
theorem fuse_apD (t : Option (List Nat)) (armed : Bool) (fuse : Int) (b : List Nat) (h : (txF t).length + 1 + b.length ≤ 4194304) : apD ⟨fsF t, armed, fuse, false⟩ nmA b = ⟨fsF (some (txF t ++ b.take (burnN armed fuse b.length))), armed, burnF armed fuse b.length, burnD armed fuse b.length false⟩ := by
  unfold apD
  rw [fuse_apR t armed fuse b.length h]
  simp only [ne_eq, not_true_eq_false, if_false]
  rw [fuse_apF]

set_option maxRecDepth 100000 in
set_option maxHeartbeats 8000000 in
theorem diskFuse_walk (a : Option Addr) (cap : Nat) (ls : List (List Nat)) (n : Nat) (w : World) (hp : RAt w a ls) (hl : ls.length ≤ 9223372036854775807) (hn : n < 256) (hcp : Caps w a ls) :
    Calls Try.prog 8 #[.slice a ls.length cap, .int .u8 (n : Nat)] w fun e w' => e = .returned (.bool true) ∧ Below w.heap.size w w' := by
  have kc := fun (w : World) (C : Array Value) (n c : Nat) => Lib.run_convert_bytes_const (P := Try.prog) w 22 5 C n c Try.underlying22 Try.underlying5
  have HP := hide hp
  have HCP := hide hcp
  clear hp hcp
  go_enter Try.func8, Try.ntmps8
  go_wp2_with fail
  refine (dnew_any w).mono ?_
  rintro e w1 ⟨rfl, g1⟩
  obtain ⟨S1, ds1⟩ := Ds.new g1
  have DS1 := hide ds1
  clear g1 ds1
  go_wp2_with fail
  refine (awake5_any w1).mono ?_
  rintro e w2 ⟨rfl, b2⟩
  have DS2 := (unhide DS1).later b2
  have A1 := cappend_const (s := nmB) DS2 (size_one _) [98] (by decide) #[.int .u8 98] rfl (1, 2) 1 rfl
  have e1 : apE ⟨[], false, 0, false⟩ nmB 1 = 0 := by decide
  have e1' : apD ⟨[], false, 0, false⟩ nmB [98] = ⟨fsF none, false, 0, false⟩ := by rfl
  rw [e1, e1'] at A1
  have A1H := hide A1
  clear A1 e1 e1' DS2 b2 DS1
  go_wp2_with fail
  refine (unhide A1H).mono ?_
  rintro e w3 ⟨rfl, S3, ds3⟩
  have A2 := carm ds3 (n : Int) (by omega) (by omega)
  have e2 : armD ⟨fsF none, false, 0, false⟩ (n : Int) = ⟨fsF none, true, (n : Int), false⟩ := by
    unfold armD
    simp
  rw [e2] at A2
  have A2H := hide A2
  clear A2 e2 ds3 A1H
  go_wp2_with fail
  refine (unhide A2H).mono ?_
  rintro e w4 ⟨rfl, S4, ds4⟩
  have DS4 := hide ds4
  clear ds4 A2H
  go_wp2_with fail
  go_loopw [6, 7, 35] (fun lf tk ix wr => ∃ (k left : Nat) (t : Option (List Nat)) (S : Nat → Prop), k ≤ ls.length ∧ ix = .int .i64 k ∧ lf = .int .i64 left ∧ tk = .int .i64 ((txF t).length : Nat) ∧ left + (txF t).length = n ∧ Ds w wr w.heap.size S ⟨fsF t, true, (left : Int), false⟩) (fun _ _ ix _ => ls.length - (intOf ix).toNat)
  case atStart => exact ⟨0, n, none, S4, Nat.zero_le _, rfl, rfl, rfl, rfl, unhide DS4⟩
  case round =>
    obtain ⟨k, left, t, S, hk, rfl, rfl, rfl, hsum, ds⟩ := hrel
    have DS := hide ds
    have HSUM : Hid (left + (txF t).length = n) := hsum
    have hle : left ≤ 255 ∧ (txF t).length ≤ 255 := by omega
    clear ds DS4 hsum
    by_cases hkc : k < ls.length
    · have hkc' : (k : Int) < (ls.length : Int) := by omega
      obtain ⟨b, off, x, c, rfl, hbl, hcell0, lx0, hnx⟩ := (unhide HP).cell hkc
      have hcell : wr.cell? ⟨b, off + k, none⟩ = some (.slice x (ls.getD k []).length c) := ((unhide DS).below.cell (p := ⟨b, off + k, none⟩) hbl).trans hcell0
      have hxold : 0 < (ls.getD k []).length → ∀ y, x = some y → ¬ S y.block := fun h0 y hy hS => by
        have h1 := lat_lt lx0 h0 hy
        have h2 := (unhide DS).base _ hS
        omega
      have lx := lx0.later (unhide DS).below
      have hcc := (unhide HCP).cap hkc rfl hcell0
      clear hcell0 lx0
      by_cases h5 : 5000 < (ls.getD k []).length
      · have h5' : (5000 : Int) < ((ls.getD k []).length : Int) := by omega
        have BB := hide (unhide DS).below
        clear lx hxold
        generalize (ls.getD k []).length = L at *
        go_wp2
        go_returns
        exact ⟨rfl, unhide BB⟩
      have h5' : ¬ (5000 : Int) < ((ls.getD k []).length : Int) := by omega
      have ht5 : ¬ (524288 : Int) < ((txF t).length : Int) := by omega
      have AP := cappend (s := nmA) (unhide DS) (size_one _) lx hnx hcc hxold
      rw [fuse_apE _ _ _ _ (by omega), fuse_apD _ _ _ _ (by omega)] at AP
      by_cases hL : left < (ls.getD k []).length
      · -- the disk breaks
        have hL' : (left : Int) < ((ls.getD k []).length : Int) := by omega
        have b1 : burnD true (left : Int) (ls.getD k []).length false = true := by unfold burnD; rw [decide_eq_true ⟨rfl, hL'⟩]; rfl
        have b2 : burnN true (left : Int) (ls.getD k []).length = left := by unfold burnN; rw [if_pos ⟨rfl, hL'⟩]; simp
        have b3 : burnF true (left : Int) (ls.getD k []).length = 0 := by unfold burnF; rw [if_pos rfl, b2]; omega
        rw [b1, b2, b3] at AP
        obtain ⟨T, hT⟩ : ∃ T, T = txF t ++ (ls.getD k []).take left := ⟨_, rfl⟩
        have hTl : T.length = n := by rw [hT, List.length_append, List.length_take]; have := unhide HSUM; omega
        rw [← hT] at AP
        have HSUM2 : Hid (((txF t).length : Int) + (left : Int) = (n : Int)) := by have := unhide HSUM; show _ = _; omega
        have hs2 := unhide HSUM2
        have APH := hide AP
        have HTL := hide hTl
        clear AP lx hxold b1 b2 b3 hT hTl HSUM HSUM2
        generalize (ls.getD k []).length = L at *
        generalize (txF t).length = tl at *
        go_wp2_with fail
        refine (unhide APH).mono ?_
        rintro e w5 ⟨rfl, S5, ds5, _⟩
        have DS5 := hide ds5
        have DDH := hide (ddead_any ds5.disk)
        clear ds5 APH
        go_wp2_with fail
        refine (unhide DDH).mono ?_
        rintro e w6 ⟨rfl, rfl⟩
        have SY := csync (s := nmB) (unhide DS5) (size_one _)
        have e1 : findE true (fsF (some T)) nmB = 9 := rfl
        have e2 : syD ⟨fsF (some T), true, 0, true⟩ nmB = ⟨fsF (some T), true, 0, true⟩ := rfl
        simp only at SY
        rw [e1, e2] at SY
        have SYH := hide SY
        clear SY e1 e2 DDH
        go_wp2_with fail
        refine (unhide SYH).mono ?_
        rintro e w7 ⟨rfl, S7, ds7⟩
        have AC := cappend (s := nmC) (a := none) (cap := 0) (b := []) ds7 (size_one _) (fun i hi => by cases hi) (fun _ => rfl) (Nat.le_refl _) (fun h => by cases h)
        have e3 : apE ⟨fsF (some T), true, 0, true⟩ nmC ([] : List Nat).length = 9 := rfl
        have e4 : apD ⟨fsF (some T), true, 0, true⟩ nmC [] = ⟨fsF (some T), true, 0, true⟩ := rfl
        rw [e3, e4] at AC
        have ACH : Hid (Calls Try.prog 26 #[.pointer (some ⟨w.heap.size, 0, none⟩), .string nmC, .slice none 0 0] w7 fun e w' => e = .returned (.int .i64 ((9 : Nat) : Int)) ∧ ∃ S', Ds w w' w.heap.size S' ⟨fsF (some T), true, 0, true⟩ ∧ (∀ k, S' k → S7 k ∨ w7.heap.size ≤ k) ∧ Touch S7 w7 w') := AC
        clear AC e3 e4 ds7 SYH
        go_wp2_with fail
        refine (unhide ACH).mono ?_
        rintro e w8 ⟨rfl, S8, ds8, _⟩
        have CR := ccrash ds8 (n : Int)
        have e5 : crD (u64N (n : Int)) ⟨fsF (some T), true, 0, true⟩ = ⟨[⟨nmA, T.take (crashN (u64N n) ⟨nmA, T, 0⟩), crashN (u64N n) ⟨nmA, T, 0⟩⟩, ⟨nmB, [98].take (crashN (u64N n) ⟨nmB, [98], 0⟩), crashN (u64N n) ⟨nmB, [98], 0⟩⟩], false, 0, false⟩ := rfl
        rw [e5] at CR
        have CRH := hide CR
        clear CR e5 ds8 ACH
        go_wp2_with fail
        refine (unhide CRH).mono ?_
        rintro e w9 ⟨rfl, S9, ds9⟩
        have hx1 : (T.take (crashN (u64N n) ⟨nmA, T, 0⟩)).length ≤ n := by rw [List.length_take, unhide HTL]; omega
        have hx2 : ([98].take (crashN (u64N n) ⟨nmB, [98], 0⟩)).length ≤ 1 := by rw [List.length_take]; simp; omega
        generalize T.take (crashN (u64N n) ⟨nmA, T, 0⟩) = T1 at *
        generalize [98].take (crashN (u64N n) ⟨nmB, [98], 0⟩) = T2 at *
        generalize crashN (u64N n) ⟨nmA, T, 0⟩ = q1 at *
        generalize crashN (u64N n) ⟨nmB, [98], 0⟩ = q2 at *
        have DS9 := hide ds9
        have RD := dread_any (s := nmA) ds9.disk (size_one _)
        have e6 : findE false [⟨nmA, T1, q1⟩, ⟨nmB, T2, q2⟩] nmA = 0 := rfl
        have e7 : (rdF ⟨[⟨nmA, T1, q1⟩, ⟨nmB, T2, q2⟩], false, 0, false⟩ nmA).text = T1 := rfl
        simp only at RD
        rw [e6, e7] at RD
        have RDH := hide RD
        clear RD e6 e7 ds9 CRH
        go_wp2_with fail
        refine (unhide RDH).mono ?_
        rintro e w10 ⟨v10, rfl, r10, n10, b10⟩
        have DS10 := (unhide DS9).later b10
        obtain ⟨a10, c10, rfl, _⟩ := r10.parts
        have hx1' : (T1.length : Int) ≤ (n : Int) := by omega
        have AM := cappend_const (s := nmA) DS10 (size_one _) [109, 111, 114, 101] (by decide) #[.int .u8 109, .int .u8 111, .int .u8 114, .int .u8 101] rfl (4, 5) 4 rfl
        have e8 : apE ⟨[⟨nmA, T1, q1⟩, ⟨nmB, T2, q2⟩], false, 0, false⟩ nmA 4 = 0 := by
          have hu : usedF [⟨nmA, T1, q1⟩, ⟨nmB, T2, q2⟩] = T1.length + T2.length := by simp [usedF]
          have hr : apR ⟨[⟨nmA, T1, q1⟩, ⟨nmB, T2, q2⟩], false, 0, false⟩ nmA 4 = 0 := by
            unfold apR
            have hf : findE false [⟨nmA, T1, q1⟩, ⟨nmB, T2, q2⟩] nmA = 0 := rfl
            simp only [hf, hu]
            rw [if_neg (by omega), if_neg (by simp; omega)]
          unfold apE
          rw [hr]; rfl
        have e9 : (apD ⟨[⟨nmA, T1, q1⟩, ⟨nmB, T2, q2⟩], false, 0, false⟩ nmA [109, 111, 114, 101]).dead = false := by
          unfold apD
          split
          · rfl
          · simp [burnD]
        rw [e8] at AM
        have AMH := hide AM
        clear AM e8 r10 n10 b10 RDH DS9 DS10
        go_wp2_with fail
        refine (unhide AMH).mono ?_
        rintro e w11 ⟨rfl, S11, ds11⟩
        have D11 := ddead_any ds11.disk
        rw [e9] at D11
        have D11H := hide D11
        have B11 := hide ds11.below
        clear D11 ds11 AMH e9
        go_wp2_with fail
        refine (unhide D11H).mono ?_
        rintro e w12 ⟨rfl, rfl⟩
        go_wp2
        go_returns
        exact ⟨by simp <;> omega, unhide B11⟩
      · -- it doesn't
        have hL' : ¬ (left : Int) < ((ls.getD k []).length : Int) := by omega
        have b1 : burnD true (left : Int) (ls.getD k []).length false = false := by unfold burnD; rw [decide_eq_false (fun h => hL' h.2)]; rfl
        have b2 : burnN true (left : Int) (ls.getD k []).length = (ls.getD k []).length := by unfold burnN; rw [if_neg (fun h => hL' h.2)]
        have b3 : burnF true (left : Int) (ls.getD k []).length = ((left - (ls.getD k []).length : Nat) : Int) := by unfold burnF; rw [if_pos rfl, b2]; omega
        rw [b1, b2, b3, List.take_length] at AP
        have hTl : (txF t ++ ls.getD k []).length = (txF t).length + (ls.getD k []).length := by rw [List.length_append]
        have NX : Hid (∀ wx, (∃ S', Ds w wx w.heap.size S' ⟨fsF (some (txF t ++ ls.getD k [])), true, ((left - (ls.getD k []).length : Nat) : Int), false⟩) → ∃ (t' : Option (List Nat)) (S' : Nat → Prop), (txF t').length = (txF t).length + (ls.getD k []).length ∧ left - (ls.getD k []).length + (txF t').length = n ∧ Ds w wx w.heap.size S' ⟨fsF t', true, ((left - (ls.getD k []).length : Nat) : Int), false⟩) := by
          rintro wx ⟨S', h⟩
          refine ⟨some (txF t ++ ls.getD k []), S', hTl, ?_, h⟩
          have := unhide HSUM
          show _ + (txF t ++ ls.getD k []).length = n
          rw [hTl]; omega
        have APH := hide AP
        clear AP lx hxold b1 b2 b3 hTl HSUM
        generalize ls.getD k [] = p at *
        generalize hLL : p.length = L at *
        generalize htt : (txF t).length = tl at *
        go_wp2_with fail
        refine (unhide APH).mono ?_
        rintro e w5 ⟨rfl, S5, ds5, _⟩
        have DDH := hide (ddead_any ds5.disk)
        obtain ⟨t', S', q1, q2, q3⟩ := unhide NX w5 ⟨S5, ds5⟩
        have Q1 := hide q1
        have Q2 := hide q2
        have Q3 := hide q3
        clear q1 q2 q3 ds5 APH NX
        go_wp2_with fail
        refine (unhide DDH).mono ?_
        rintro e w6 ⟨rfl, rfl⟩
        go_wp2
        go_roundw
        case rel => exact ⟨k + 1, left - L, t', S', by omega, by go_num, by go_num, by rw [unhide Q1]; go_num, unhide Q2, unhide Q3⟩
        case measure => simp [intOf]; omega
    · have hkc' : ¬ (k : Int) < (ls.length : Int) := by omega
      have DD := ddead_any (unhide DS).disk
      have DDH := hide DD
      have BB := hide (unhide DS).below
      clear DD
      go_wp2_with fail
      refine (unhide DDH).mono ?_
      rintro e w5 ⟨rfl, rfl⟩
      go_wp2
      go_returns
      exact ⟨rfl, unhide BB⟩
end Go.Proofs.Ytcnmenfianeakaa
