/-
  'awake' of layer 6. No conditions.
-/
import Derived.Test.YtfdpnfeaagijhaaWl4

namespace Go.Proofs.Ytfdpnfeaagijhaa
open Go.RowKit
set_option linter.unusedVariables false

def nmW : ByteArray := ⟨#[119]⟩
theorem ok_W : okName nmW = true := by decide
theorem size_W : nmW.size ≤ maxLen := by unfold maxLen; show 1 ≤ _; decide
theorem torn_ab : scan ((fenc [97] ++ fenc [98]).take 12) = ([[97]], 9, 6) := by
  have e9 : (fenc [97]).length = 9 := by rw [fenc_len]; rfl
  have h := scan_torn (ls := [[97], [98]]) (k := 12) (j := 1) (by intro p hp; simp at hp; rcases hp with rfl | rfl <;> simp) (by simp) (by simp [frames, e9]) (by simp [frames, e9])
  simpa [frames, e9] using h

set_option maxRecDepth 100000 in
set_option maxHeartbeats 4000000 in
theorem awake6_any (w : World) :
    Calls Try.prog 6 #[] w fun e w' => e = .returned (.bool true) ∧ Below w.heap.size w w' := by
  have e9 : (fenc [97]).length = 9 := by rw [fenc_len]; rfl
  have e9b : (fenc [98]).length = 9 := by rw [fenc_len]; rfl
  have TT := hide torn_ab
  have T9 : Hid ((fenc [97] ++ fenc [98]).take 9 = fenc [97]) := by show (fenc [97] ++ fenc [98]).take 9 = fenc [97]; rw [← e9, List.take_left]
  have kc := fun (w : World) (C : Array Value) (n c : Nat) => Lib.run_convert_bytes_const (P := Try.prog) w 32 5 C n c Try.underlying32 Try.underlying5
  have E9 := hide e9
  have E9B := hide e9b
  clear e9 e9b
  go_enter Try.func6, Try.ntmps6
  go_wp2_with fail
  refine (dnew_any w).mono ?_
  rintro e w1 ⟨rfl, g1⟩
  obtain ⟨S1, ds1⟩ := Ds.new g1
  obtain ⟨p1, p2, p3, p4⟩ := none_open ok_W
  have A1 := hide (zopen (d := noneD) ds1 size_W p1 p2 p3 p4)
  clear p1 p2 p3 p4 g1 ds1
  rw [scan_nil] at A1
  go_wp2_with fail
  refine (unhide A1).mono ?_
  rintro e w2 ⟨wb, a2, cap2, S2, rfl, z2, hb2, _, _⟩
  simp only [List.length_nil] at z2
  obtain ⟨q1, q2⟩ := one_ap (s := nmW) (t := []) (la := 0) (b := fenc [97]) ok_W (by rw [unhide E9]; simp)
  have A2 := zappend_const z2 size_W (one_find ok_W) (by rw [one_rd ok_W]; rfl) [97] (by decide) #[.int .u8 97] rfl (1, 2) 1 rfl (by omega) (by omega) (by omega) q1
  rw [q2, List.nil_append] at A2
  have A2H := hide A2
  clear A2 q1 q2 z2 A1
  simp only [List.length_nil]
  go_wp2_with fail
  refine (unhide A2H).mono ?_
  rintro e w3 ⟨rfl, S3, z3⟩
  have A3 := wsync_any z3.wl size_W
  have A3H := hide A3
  have Z3 := hide z3
  clear A3 z3 A2H
  go_wp2_with fail
  refine (unhide A3H).mono ?_
  rintro e w4 ⟨rfl, S4, g4⟩
  have z4 := (unhide Z3).to g4
  rw [one_sync ok_W] at z4
  rw [one_find ok_W]
  obtain ⟨q1, q2⟩ := one_ap (s := nmW) (t := fenc [97]) (la := (fenc [97]).length) (b := fenc [98]) ok_W (by rw [unhide E9, unhide E9B]; omega)
  have A4 := zappend_const z4 size_W (one_find ok_W) (by rw [one_rd ok_W, unhide E9]; rfl) [98] (by decide) #[.int .u8 98] rfl (1, 2) 1 rfl (by omega) (by omega) (by omega) q1
  rw [q2, unhide E9] at A4
  have A4H := hide A4
  clear A4 q1 q2 z4 g4 Z3 A3H
  go_wp2_with fail
  refine (unhide A4H).mono ?_
  rintro e w5 ⟨rfl, S5, z5⟩
  have A5 := hide (dcrash_any z5.wl.disk 3)
  have Z5 := hide z5
  clear z5 A4H
  go_wp2_with fail
  refine (unhide A5).mono ?_
  rintro e w6 ⟨rfl, g6⟩
  obtain ⟨S6, g6'⟩ := (unhide Z5).wl.went g6
  have z6 := (unhide Z5).to g6'
  have ec : crD (u64N 3) (one nmW (fenc [97] ++ fenc [98]) 9) = one nmW ((fenc [97] ++ fenc [98]).take 12) 12 := by
    rw [one_crash, List.length_append, unhide E9, unhide E9B]; rfl
  rw [ec] at z6
  obtain ⟨p1, p2, p3, p4⟩ := one_open (s := nmW) (t := (fenc [97] ++ fenc [98]).take 12) (la := 12) ok_W (by rw [List.length_take]; omega)
  have A6 := zopen z6.ds size_W p1 p2 p3 p4
  rw [unhide TT] at A6
  have A6H := hide A6
  clear A6 p1 p2 p3 p4 z6 g6 g6' ec Z5 A5
  go_wp2_with fail
  refine (unhide A6H).mono ?_
  rintro e w7 ⟨wb7, a7, cap7, S7, rfl, z7, _, h7, _⟩
  obtain ⟨a8, cap8, e8, r8, _⟩ := h7.parts
  cases e8
  obtain ⟨b7, o7, x7, c7, rfl, _, y7, l7, _⟩ := r8.cell (i := 0) (by simp)
  simp only [List.getD_cons_zero, List.length_singleton, Nat.add_zero] at y7 l7
  obtain ⟨cb, off, rfl, _, y8, _⟩ := l7.cell (i := 0) (by simp)
  simp only [List.getD_cons_zero, Nat.add_zero] at y8
  have CV := run_convert_bytes_back (P := Try.prog) w7 32 9 5 ⟨cb, off, none⟩ c7 [97] Try.underlying32 Try.underlying5 Try.underlying9 (fun j hj => by
    obtain rfl : j = 0 := by simp at hj; omega
    simpa [Addr.add] using y8)
  have CV2 : Sem.run Try.prog (convert 32 9 (.slice (some ⟨cb, off, none⟩) 1 c7)) w7 = .ok (.string ⟨#[97]⟩) w7 := CV
  have CN := hide (wcount_any z7.wl)
  have B7 := hide z7.below
  clear CV r8 l7 y8 h7 z7 A6H
  simp only [List.length_singleton]
  go_wp2_with fail
  refine (unhide CN).mono ?_
  rintro e w8 ⟨rfl, rfl⟩
  go_wp2
  go_returns
  exact ⟨by simp, unhide B7⟩
end Go.Proofs.Ytfdpnfeaagijhaa
