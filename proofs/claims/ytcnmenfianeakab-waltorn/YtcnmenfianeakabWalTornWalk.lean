/-
  WalTorn. Conditions: both slices are at most 2^47 bytes.
-/
import Derived.Test.YtcnmenfianeakabWt0
namespace Go.Proofs.Ytcnmenfianeakab
open Go.RowKit
set_option linter.unusedVariables false

theorem below_drew6 (w : World) (n : Nat) : Below w.heap.size w (w.drewN n) := ⟨rfl, rfl, rfl, Nat.le_refl _, fun _ _ => rfl⟩

set_option maxRecDepth 100000 in
set_option maxHeartbeats 4000000 in
theorem walTorn_walk (a : Option Addr) (cap : Nat) (b : List Nat) (a2 : Option Addr) (cap2 : Nat) (p : List Nat) (w : World) (hb : LAt w a b) (hn : a = none → cap = 0) (hc : b.length ≤ cap) (hp : LAt w a2 p) (hn2 : a2 = none → cap2 = 0) (hl : b.length ≤ 140737488355328) (hl2 : p.length ≤ 140737488355328) :
    Calls Try.prog 7 #[.slice a b.length cap, .slice a2 p.length cap2] w fun e w' => e = .returned (.bool true) ∧ Below w.heap.size w w' := by
  have HB := hide hb
  have HP := hide hp
  clear hb hp
  go_enter Try.func7, Try.ntmps7
  go_wp2_with fail
  refine (dnew_any w).mono ?_
  rintro e w1 ⟨rfl, g1⟩
  obtain ⟨S1, ds1⟩ := Ds.new g1
  have D1 : Hid (Ds w w1 w.heap.size S1 noneD) := ds1
  clear ds1 g1
  go_wp2_with fail
  refine (awake6_any w1).mono ?_
  rintro e w2 ⟨rfl, b2⟩
  have D2 := hide ((unhide D1).later b2)
  clear b2 D1
  by_cases h18 : 262144 < b.length
  · have h18' : (262144 : Int) < (b.length : Int) := by omega
    go_wp2_with fail
    refine (awake6_any w2).mono ?_
    rintro e w3 ⟨rfl, b3⟩
    have B3 := hide ((unhide D2).later b3).below
    clear b3
    go_wp2
    go_returns
    exact ⟨rfl, unhide B3⟩
  have h18' : ¬ (262144 : Int) < (b.length : Int) := by omega
  by_cases h40 : 4096 < p.length
  · have h40' : (4096 : Int) < (p.length : Int) := by omega
    go_wp2_with fail
    refine (awake6_any w2).mono ?_
    rintro e w3 ⟨rfl, b3⟩
    have B3 := hide ((unhide D2).later b3).below
    clear b3
    go_wp2
    go_returns
    exact ⟨rfl, unhide B3⟩
  have h40' : ¬ (4096 : Int) < (p.length : Int) := by omega
  obtain ⟨q1, q2⟩ := none_ap (s := nmW) (b := b) ok_W (by omega)
  have A3 := cappend (s := nmW) (unhide D2) size_W ((unhide HB).later (unhide D2).below) hn hc (fun h0 x hx hk => by have := (unhide D2).base _ hk; have := lat_lt (unhide HB) h0 hx; omega)
  rw [q1, q2] at A3
  have A3H := hide A3
  clear A3 q1 q2
  go_wp2_with fail
  refine (unhide A3H).mono ?_
  rintro e w3 ⟨rfl, S3, d3, _⟩
  have A4 := csync (s := nmW) d3 size_W
  rw [one_find ok_W, one_sync ok_W] at A4
  have A4H := hide A4
  clear A4 d3 A3H D2
  go_wp2_with fail
  refine (unhide A4H).mono ?_
  rintro e w4 ⟨rfl, S4, d4⟩
  have D4 := hide d4
  have A5 := hide (docscan_any (w := w4) (cap := cap) ((unhide HB).later d4.below) hn hc (by omega))
  clear d4 A4H
  go_wp2_with fail
  refine (unhide A5).mono ?_
  rintro e w5 ⟨v5, rfl, to5, n5, b5⟩
  obtain ⟨c5, cap5, rfl, cl5⟩ := told_clear (S := S4) to5 n5 b5 (unhide HB) scan_pos (fun k hk => ⟨(unhide D4).base k hk, (unhide D4).disk.lt k hk⟩)
  have CL5 := hide cl5
  have d5 := (unhide D4).later b5
  obtain ⟨p1, p2, p3, p4⟩ := one_open (s := nmW) (t := b) (la := b.length) ok_W (by omega)
  have A6 := hide (zopen d5 size_W p1 p2 p3 p4)
  have SL := hide (scan_len _ b (Nat.le_refl _))
  have hNle : (scan b).2.1 ≤ b.length := scan_le b
  have ST := hide (scan_take _ b (Nat.le_refl _) (fenc p))
  clear to5 n5 b5 cl5 d5 p1 p2 p3 p4 A5 D4
  generalize (scan b).2.2 = er at *
  generalize (scan b).2.1 = N at *
  generalize (scan b).1 = ls at *
  have hLN : ls.length ≤ N := by have := (unhide SL).1; omega
  go_wp2_with fail
  refine (unhide A6).mono ?_
  rintro e w6 ⟨wb, a6, cap6, S6, rfl, z6, hwb, hd6, _, t6, m6⟩
  have CL6 : Hid (Clear (fun k => S6 k ∨ k = wb) w6 c5 ls) := (unhide CL5).step t6 (fun k hk => by
    rcases hk with e | e
    · exact m6 k e
    · exact .inr (by rw [e]; exact hwb))
  have Z6 := hide z6
  obtain ⟨_, _, ea, r6, _⟩ := hd6.parts
  cases ea
  have R6 := hide r6
  have htN : (b.take N).length = N := by rw [List.length_take]; omega
  have A7 := dsize_any (s := nmW) z6.wl.disk size_W
  rw [one_find ok_W, one_rd ok_W] at A7
  simp only [htN] at A7
  have A7H := hide A7
  clear A7 z6 hd6 r6 t6 m6 A6 CL5
  go_wp2_with fail
  refine (unhide A7H).mono ?_
  rintro e w7 ⟨rfl, n7, rfl⟩
  have SM := hide (samelist_any (w6.drewN n7) a6 c5 cap6 cap5 ls ((unhide R6).drewN n7) ((unhide CL6).rat.drewN n7) (by omega) (fun l hl => by have := (unhide SL).2 l hl; omega))
  clear A7H
  go_wp2_with fail
  refine (unhide SM).mono ?_
  rintro e w8 ⟨rfl, n8, rfl⟩
  have z8 : Wz w ((w6.drewN n7).drewN n8) wb w.heap.size S6 _ nmW _ _ := (unhide Z6).later ((below_drew6 w6 n7).trans (below_drew6 (w6.drewN n7) n8))
  have CL8 : Hid (Clear (fun k => S6 k ∨ k = wb) ((w6.drewN n7).drewN n8) c5 ls) := unhide CL6
  have Z8 := hide z8
  have CN := hide (wcount_any z8.wl)
  clear SM z8 Z6 CL6 R6
  generalize (w6.drewN n7).drewN n8 = w8 at *
  go_wp2_with fail
  refine (unhide CN).mono ?_
  rintro e w9 ⟨rfl, rfl⟩
  have hfl := fenc_len p
  obtain ⟨q1, q2⟩ := one_ap (s := nmW) (t := b.take N) (la := min b.length N) (b := fenc p) ok_W (by rw [htN, hfl]; omega)
  have A9 := wappend_ok (cap := cap2) (unhide Z8).wl size_W (one_find ok_W) (by rw [one_rd ok_W]; simp only [htN]) ((unhide HP).later (unhide Z8).below) hn2 (fun h0 x hx e => by have := (unhide Z8).wbase; have := lat_lt (unhide HP) h0 hx; omega) (by omega) (by omega) (by omega) q1
  have A9H := hide A9
  have Q2 := hide q2
  have HFL := hide hfl
  clear A9 q1 q2 CN hfl
  go_wp2_with fail
  refine (unhide A9H).mono ?_
  rintro e w10 ⟨rfl, S10, g10⟩
  have z10 := (unhide Z8).to g10
  rw [unhide Q2] at z10
  have CL10 : Hid (Clear (fun k => S10 k ∨ k = wb) w10 c5 ls) := (unhide CL8).step g10.touch (fun k hk => by
    rcases hk with e | e
    · rcases g10.grow k e with e | e
      · exact .inl (.inl e)
      · exact .inr e
    · exact .inl (.inr e))
  have Z10 := hide z10
  have A10 := wsync_any z10.wl size_W
  have A10H := hide A10
  clear A10 z10 g10 A9H CL8 Z8
  go_wp2_with fail
  refine (unhide A10H).mono ?_
  rintro e w11 ⟨rfl, S11, g11⟩
  rw [one_find ok_W]
  have z11 := (unhide Z10).to g11
  rw [one_sync ok_W] at z11
  have CL11 : Hid (Clear (fun k => S11 k ∨ k = wb) w11 c5 ls) := (unhide CL10).step g11.touch (fun k hk => by
    rcases hk with e | e
    · rcases g11.grow k e with e | e
      · exact .inl (.inl e)
      · exact .inr e
    · exact .inl (.inr e))
  obtain ⟨p1, p2, p3, p4⟩ := one_open (s := nmW) (t := b.take N ++ fenc p) (la := (b.take N ++ fenc p).length) ok_W (by rw [List.length_append, htN, unhide HFL]; omega)
  have A11 := zopen z11.ds size_W p1 p2 p3 p4
  have sp : scan (fenc p) = ([p], (fenc p).length, 0) := by
    have := scan_whole (ls := [p]) (by intro x hx; simp at hx; subst hx; omega)
    rw [frames_one] at this
    exact this
  have eM : (ls ++ [p]).length = ls.length + 1 := by simp
  have e1 : (scan (b.take N ++ fenc p)).1 = ls ++ [p] := by rw [unhide ST, sp]
  rw [e1] at A11
  have A11H := hide A11
  clear A11 p1 p2 p3 p4 sp e1 z11 g11 A10H CL10 Z10
  go_wp2_with fail
  refine (unhide A11H).mono ?_
  rintro e w12 ⟨wb12, a12, cap12, S12, rfl, z12, _, hd12, _, t12, m12⟩
  have CL12 : Hid (Clear (fun k => S11 k ∨ k = wb) w12 c5 ls) := (unhide CL11).step (t12.mono (fun k hk => .inl hk)) (fun k hk => .inl hk)
  have B12 := hide z12.below
  obtain ⟨_, _, ea, r12, hcap, _⟩ := hd12.parts
  cases ea
  rw [eM] at hcap ⊢
  have hsl := slice_hl a12 (ls.length + 1) cap12 ls.length (by omega)
  have rt := r12.take ls.length
  rw [List.take_left] at rt
  obtain ⟨b13, o13, x13, c13, ea13, _, y13, l13, _⟩ := r12.cell (i := ls.length) (by rw [eM]; omega)
  have eg : (ls ++ [p]).getD ls.length [] = p := by simp [List.getD]
  rw [eg] at y13 l13
  subst ea13
  have SM2 := hide (samelist_any w12 (some ⟨b13, o13, none⟩) c5 cap12 cap5 ls rt (unhide CL12).rat (by omega) (fun l hl => by have := (unhide SL).2 l hl; omega))
  have S5 : Hid (∀ m, Calls Try.prog 17 #[.slice x13 p.length c13, .slice a2 p.length cap2] (w12.drewN m) fun e w' => e = .returned (.bool true) ∧ ∃ n, w' = (w12.drewN m).drewN n) := fun m =>
    same5_any (w12.drewN m) x13 a2 c13 cap2 p l13 ((unhide HP).later ((unhide B12).trans (below_drew6 w12 m |>.mono (unhide B12).size))) (by omega)
  have hwp : IntKind.i64.wrap ((ls.length : Int) + 1) = (ls.length : Int) + 1 := by simp [IntKind.wrap, IntKind.bits, IntKind.signed]; omega
  clear z12 hd12 t12 m12 r12 rt l13 A11H CL11 CL12 eM eg SL ST
  go_wp2_with fail
  refine (unhide SM2).mono ?_
  rintro e w13 ⟨rfl, n13, rfl⟩
  have y14 : (w12.drewN n13).cell? ⟨b13, o13 + ls.length, none⟩ = some (.slice x13 p.length c13) := y13
  go_wp2_with fail
  refine (unhide S5 n13).mono ?_
  rintro e w14 ⟨rfl, n14, rfl⟩
  go_wp2
  go_returns
  exact ⟨by simp, (unhide B12).trans ((below_drew6 w12 (n13 + n14)).mono (unhide B12).size)⟩
end Go.Proofs.Ytcnmenfianeakab
