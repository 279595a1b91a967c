/-
  WalApart. Conditions: each list is at most 2^47 payloads.
-/
import Derived.Test.YtfdpnfeaagijhaaTw6
import Derived.Test.YtfdpnfeaagijhaaWalBytesWalk

namespace Go.Proofs.Ytfdpnfeaagijhaa
open Go.RowKit
set_option linter.unusedVariables false

section
variable {w0 w : World} {vb wb db : Nat} {S : Nat → Prop} {t u : List Nat} {la lb : Nat} {cv nw cw nv : Int} {x : Option Addr} {cx : Nat} {p : List Nat}
def TvPost (w0 : World) (vb wb db : Nat) (t u : List Nat) (la lb : Nat) (nv cv nw cw : Int) (e : Ending) (w' : World) : Prop :=
  e = .returned (.int .i64 0) ∧ ∃ S', Tw w0 w' vb wb db S' (two t u la lb) nv cv nw cw
theorem tappendV (h : Tw w0 w vb wb db S (two t u la lb) (u.length : Nat) cv nw cw) (hp : LAt w0 x p) (hn : x = none → cx = 0) (h4 : p.length ≤ 4096) (hl : t.length + u.length ≤ 4000000) (hc0 : 0 ≤ cv) (hc1 : cv ≤ 1099511627776) :
    Calls Try.prog 8 #[.pointer (some ⟨vb, 0, none⟩), .slice x p.length cx] w fun e w' => TvPost w0 vb wb db t (u ++ fenc p) la lb ((u ++ fenc p).length : Nat) (cv + 1) nw cw e w' := by
  have hf := fenc_len p
  obtain ⟨q1, q2⟩ := two_apV (t := t) (u := u) (la := la) (lb := lb) (b := fenc p) (by omega)
  refine (wappend_ok h.fv size_V two_findV (by rw [two_rdV]) (hp.later h.below) hn (fun h0 y hy e => by have := h.vbase; have := lat_lt hp h0 hy; omega) h4 hc0 hc1 q1).mono ?_
  rintro e w' ⟨he, S', g⟩
  rw [q2] at g
  have z := h.stepV g
  have e1 : ((u.length : Int) + ((8 + p.length : Nat) : Int)) = (((u ++ fenc p).length : Nat) : Int) := by rw [List.length_append, hf]; omega
  rw [e1] at z
  exact ⟨he, S', z⟩
theorem tappendW (h : Tw w0 w vb wb db S (two t u la lb) nv cv (t.length : Nat) cw) (hp : LAt w0 x p) (hn : x = none → cx = 0) (h4 : p.length ≤ 4096) (hl : t.length + u.length ≤ 4000000) (hc0 : 0 ≤ cw) (hc1 : cw ≤ 1099511627776) :
    Calls Try.prog 8 #[.pointer (some ⟨wb, 0, none⟩), .slice x p.length cx] w fun e w' => TvPost w0 vb wb db (t ++ fenc p) u la lb nv cv ((t ++ fenc p).length : Nat) (cw + 1) e w' := by
  have hf := fenc_len p
  obtain ⟨q1, q2⟩ := two_apW (t := t) (u := u) (la := la) (lb := lb) (b := fenc p) (by omega)
  refine (wappend_ok h.fw size_W two_findW (by rw [two_rdW]) (hp.later h.below) hn (fun h0 y hy e => by have := h.wbase; have := lat_lt hp h0 hy; omega) h4 hc0 hc1 q1).mono ?_
  rintro e w' ⟨he, S', g⟩
  rw [q2] at g
  have z := h.stepW g
  have e1 : ((t.length : Int) + ((8 + p.length : Nat) : Int)) = (((t ++ fenc p).length : Nat) : Int) := by rw [List.length_append, hf]; omega
  rw [e1] at z
  exact ⟨he, S', z⟩
end
theorem paid_clear {S : Nat → Prop} {w1 w2 : World} {v : Value} {ls : List (List Nat)} (h : Paid w1 w2 v ls) (hn : New w1 v) (hs : ∀ k, S k → k < w1.heap.size) : ∃ c cap, v = .slice c ls.length cap ∧ Clear S w2 c ls := by
  obtain ⟨vs, sp⟩ := h
  obtain ⟨c, cap, e1, e2, e3, e4, e5, e6⟩ := sp.own.parts
  rw [sp.len] at e1 e2
  refine ⟨c, cap, e1, fun i hi => ?_⟩
  obtain ⟨g, ha, hg, hc, _⟩ := e6 i (by rw [sp.len]; exact hi)
  obtain ⟨u, u1, u2, u3⟩ := sp.each i hi
  obtain ⟨x, cx, rfl, l, _, _, n, o, _⟩ := u2.parts
  refine ⟨g, 0, x, cx, ha, hg, fun hk => ?_, by rw [Nat.zero_add, hc, u1], l, n, fun hl y hy hk => ?_⟩
  · have := hn g (e5 ⟨g, 0, none⟩ ha)
    have := hs g hk
    omega
  · have := u3 _ (o y hy)
    have := hs _ hk
    omega

/-- What the loop has behind k rounds. -/
def Rounds (w wr : World) (vb wb db : Nat) (S : Nat → Prop) (xs ys : List (List Nat)) (k : Nat) : Prop :=
  Tw w wr vb wb db S (two (frames (ys.take k)) (frames (xs.take k)) 0 0) ((frames (xs.take k)).length : Nat) ((xs.take k).length : Nat) ((frames (ys.take k)).length : Nat) ((ys.take k).length : Nat)
theorem frames_small {ls : List (List Nat)} {k : Nat} (h4 : ∀ p ∈ ls, p.length ≤ 4096) (hl : ls.length ≤ 100) : (frames (ls.take k)).length ≤ 410400 := by
  have h := frames_len_le (ls := ls.take k) (fun p hp => h4 p (List.mem_of_mem_take hp))
  rw [List.length_take] at h
  omega

set_option maxRecDepth 100000 in
set_option maxHeartbeats 1200000 in
theorem walApart_walk (a b : Option Addr) (cap capb : Nat) (xs ys : List (List Nat)) (w : World) (ha : RAt w a xs) (hb : RAt w b ys) (hla : xs.length ≤ 140737488355328) (hlb : ys.length ≤ 140737488355328) :
    Calls Try.prog 3 #[.slice a xs.length cap, .slice b ys.length capb] w fun e w' => e = .returned (.bool true) ∧ Below w.heap.size w w' := by
  have HA := hide ha
  have HB := hide hb
  clear ha hb
  go_enter Try.func3, Try.ntmps3
  go_wp2_with fail
  refine (dnew_any w).mono ?_
  rintro e w1 ⟨rfl, g1⟩
  obtain ⟨S1, ds1⟩ := Ds.new g1
  obtain ⟨p1, p2, p3, p4⟩ := none_open ok_V
  have A1 := hide (zopen (d := noneD) ds1 size_V p1 p2 p3 p4)
  clear p1 p2 p3 p4 g1 ds1
  rw [scan_nil] at A1
  go_wp2_with fail
  refine (unhide A1).mono ?_
  rintro e w2 ⟨vb, a2, cap2, S2, rfl, z2, _⟩
  simp only [List.length_nil] at z2 ⊢
  have Z2 := hide z2
  obtain ⟨p1, p2, p3, p4⟩ := one_openW (u := []) (lb := 0) (by simp)
  have A2 := hide (zopen z2.ds size_W p1 p2 p3 p4)
  clear p1 p2 p3 p4 A1 z2
  rw [scan_nil] at A2
  go_wp2_with fail
  refine (unhide A2).mono ?_
  rintro e w3 ⟨wb, a3, cap3, S3, rfl, z3, hwb, _, _, t3, m3⟩
  simp only [List.length_nil] at z3 ⊢
  have TW : Hid (Tw w w3 vb wb w.heap.size S3 (two [] [] 0 0) (0 : Nat) (0 : Nat) (0 : Nat) (0 : Nat)) := by
    have z2 := unhide Z2
    have hv := z2.wl.ready.lt
    refine ⟨⟨z2.wl.ready.keep t3 z2.wl.ne, z3.wl.disk, fun hk => ?_⟩, z3.wl, by omega, z3.base, z2.wbase, z3.wbase, z3.below⟩
    rcases m3 _ hk with e | e
    · exact z2.wl.ne e
    · omega
  clear z3 t3 m3 A2 Z2 hwb
  go_wp2_with fail
  refine (awake6_any w3).mono ?_
  rintro e w4 ⟨rfl, b4⟩
  have T4 := hide ((unhide TW).later b4)
  have LA := hide (long_any w4 a cap xs ((unhide HA).later (unhide T4).below) (by omega))
  have LB := hide (long_any w4 b capb ys ((unhide HB).later (unhide T4).below) (by omega))
  clear b4 TW
  have AW : Hid (Calls Try.prog 6 #[] w4 fun e w' => e = .returned (.bool true) ∧ Below w.heap.size w w') := by
    refine (awake6_any w4).mono ?_
    rintro e w5 ⟨he, b5⟩
    exact ⟨he, ((unhide T4).later b5).below⟩
  go_wp2_with fail
  refine (unhide LA).mono ?_
  rintro e w5 ⟨rfl, rfl⟩
  cases hga : isLong xs with
  | true =>
    go_wp2_with fail
    refine (unhide AW).mono ?_
    rintro e w6 ⟨rfl, b6⟩
    have B6 := hide b6
    clear b6
    go_wp2
    go_returns
    exact ⟨rfl, unhide B6⟩
  | false =>
  have H4A := hide (isLong_no hga)
  go_wp2_with fail
  refine (unhide LB).mono ?_
  rintro e w6 ⟨rfl, rfl⟩
  cases hgb : isLong ys with
  | true =>
    go_wp2_with fail
    refine (unhide AW).mono ?_
    rintro e w7 ⟨rfl, b7⟩
    have B7 := hide b7
    clear b7
    go_wp2
    go_returns
    exact ⟨rfl, unhide B7⟩
  | false =>
  have H4B := hide (isLong_no hgb)
  clear hga hgb LA LB
  have hwr : IntKind.i64.wrap ((xs.length : Int) + (ys.length : Int)) = (xs.length : Int) + (ys.length : Int) := by simp [IntKind.wrap, IntKind.bits, IntKind.signed]; omega
  by_cases h100 : 100 < xs.length + ys.length
  · have h100' : (100 : Int) < (xs.length : Int) + (ys.length : Int) := by omega
    go_wp2_with fail
    refine (unhide AW).mono ?_
    rintro e w7 ⟨rfl, b7⟩
    have B7 := hide b7
    clear b7
    go_wp2
    go_returns
    exact ⟨rfl, unhide B7⟩
  have h100' : ¬ (100 : Int) < (xs.length : Int) + (ys.length : Int) := by omega
  clear AW
  go_wp2_with fail
  go_loopw [12] (fun pl wr => ∃ (k : Nat) (S : Nat → Prop), k ≤ xs.length + ys.length ∧ pl = .int .i64 k ∧ Rounds w wr vb wb w.heap.size S xs ys k) (fun pl _ => xs.length + ys.length - (intOf pl).toNat)
  case atStart => exact ⟨0, S3, Nat.zero_le _, rfl, unhide T4⟩
  case round =>
    obtain ⟨k, S, hk, rfl, hro⟩ := hrel
    have RO := hide hro
    clear hro T4
    have sa := frames_small (k := k) (unhide H4A) (by omega)
    have sb := frames_small (k := k) (unhide H4B) (by omega)
    have ca : (xs.take k).length ≤ 100 := by rw [List.length_take]; omega
    have cb : (ys.take k).length ≤ 100 := by rw [List.length_take]; omega
    have bel := (unhide RO).below
    by_cases ka : k < xs.length
    · have ka' : (k : Int) < (xs.length : Int) := by omega
      obtain ⟨ba, oa, xa, cxa, rfl, hba, hca, lxa, hna⟩ := (unhide HA).cell ka
      have hca' : wr.cell? ⟨ba, oa + k, none⟩ = some (.slice xa (xs.getD k []).length cxa) := by rw [bel.cell (p := ⟨ba, oa + k, none⟩) hba]; exact hca
      have AV := hide (tappendV (cx := cxa) (unhide RO) lxa hna (unhide H4A _ (getD_mem_l ka)) (by omega) (by omega) (by omega))
      have EA := hide (frames_take_succ ka)
      have EA2 : Hid ((xs.take k).length + 1 = (xs.take (k + 1)).length) := by show (xs.take k).length + 1 = (xs.take (k + 1)).length; simp; omega
      have hpa := unhide H4A _ (getD_mem_l ka)
      have hfa := fenc_len (xs.getD k [])
      clear hca lxa
      generalize xs.getD k [] = p at *
      by_cases kb : k < ys.length
      · have kb' : (k : Int) < (ys.length : Int) := by omega
        obtain ⟨bb, ob, xb, cxb, rfl, hbb, hcb, lxb, hnb⟩ := (unhide HB).cell kb
        have LXB := hide lxb
        have hp4b := unhide H4B _ (getD_mem_l kb)
        have EB := hide (frames_take_succ kb)
        have EB2 : Hid ((ys.take k).length + 1 = (ys.take (k + 1)).length) := by show (ys.take k).length + 1 = (ys.take (k + 1)).length; simp; omega
        clear lxb
        generalize ys.getD k [] = q at *
        go_wp2_with fail
        refine (unhide AV).mono ?_
        rintro e w5 ⟨rfl, S5, t5⟩
        have hcb' : w5.cell? ⟨bb, ob + k, none⟩ = some (.slice xb q.length cxb) := by rw [t5.below.cell (p := ⟨bb, ob + k, none⟩) hbb]; exact hcb
        have AW5 := hide (tappendW (cx := cxb) t5 (unhide LXB) hnb hp4b (by rw [List.length_append, hfa]; omega) (by omega) (by omega))
        clear t5 AV hcb
        go_wp2_with fail
        refine (unhide AW5).mono ?_
        rintro e w6 ⟨rfl, S6, t6⟩
        have NX : Hid (Rounds w w6 vb wb w.heap.size S6 xs ys (k + 1)) := by
          rw [← unhide EA, ← unhide EB] at t6
          have e1 := unhide EA2
          have e2 := unhide EB2
          have e3 : (((xs.take k).length : Nat) : Int) + 1 = (((xs.take (k + 1)).length : Nat) : Int) := by omega
          have e4 : (((ys.take k).length : Nat) : Int) + 1 = (((ys.take (k + 1)).length : Nat) : Int) := by omega
          rw [e3, e4] at t6
          exact t6
        clear t6 AW5
        go_wp2
        go_roundw
        case rel => exact ⟨k + 1, S6, by omega, by go_num, unhide NX⟩
        case measure => simp [intOf]; omega
      · have kb' : ¬ (k : Int) < (ys.length : Int) := by omega
        have eb : ys.take (k + 1) = ys.take k := by rw [List.take_of_length_le (by omega), List.take_of_length_le (by omega)]
        have EB := hide eb
        clear eb
        go_wp2_with fail
        refine (unhide AV).mono ?_
        rintro e w5 ⟨rfl, S5, t5⟩
        have NX : Hid (Rounds w w5 vb wb w.heap.size S5 xs ys (k + 1)) := by
          unfold Rounds
          rw [unhide EB]
          rw [← unhide EA] at t5
          have e1 := unhide EA2
          have e3 : (((xs.take k).length : Nat) : Int) + 1 = (((xs.take (k + 1)).length : Nat) : Int) := by omega
          rw [e3] at t5
          exact t5
        clear t5 AV
        go_wp2
        go_roundw
        case rel => exact ⟨k + 1, S5, by omega, by go_num, unhide NX⟩
        case measure => simp [intOf]; omega
    · have ka' : ¬ (k : Int) < (xs.length : Int) := by omega
      by_cases kb : k < ys.length
      · have kb' : (k : Int) < (ys.length : Int) := by omega
        obtain ⟨bb, ob, xb, cxb, rfl, hbb, hcb, lxb, hnb⟩ := (unhide HB).cell kb
        have hcb' : wr.cell? ⟨bb, ob + k, none⟩ = some (.slice xb (ys.getD k []).length cxb) := by rw [bel.cell (p := ⟨bb, ob + k, none⟩) hbb]; exact hcb
        have AW5 := hide (tappendW (cx := cxb) (unhide RO) lxb hnb (unhide H4B _ (getD_mem_l kb)) (by omega) (by omega) (by omega))
        have EB := hide (frames_take_succ kb)
        have EB2 : Hid ((ys.take k).length + 1 = (ys.take (k + 1)).length) := by show (ys.take k).length + 1 = (ys.take (k + 1)).length; simp; omega
        have ea : xs.take (k + 1) = xs.take k := by rw [List.take_of_length_le (by omega), List.take_of_length_le (by omega)]
        have EA := hide ea
        clear ea hcb lxb
        generalize ys.getD k [] = q at *
        go_wp2_with fail
        refine (unhide AW5).mono ?_
        rintro e w6 ⟨rfl, S6, t6⟩
        have NX : Hid (Rounds w w6 vb wb w.heap.size S6 xs ys (k + 1)) := by
          unfold Rounds
          rw [unhide EA]
          rw [← unhide EB] at t6
          have e2 := unhide EB2
          have e4 : (((ys.take k).length : Nat) : Int) + 1 = (((ys.take (k + 1)).length : Nat) : Int) := by omega
          rw [e4] at t6
          exact t6
        clear t6 AW5
        go_wp2
        go_roundw
        case rel => exact ⟨k + 1, S6, by omega, by go_num, unhide NX⟩
        case measure => simp [intOf]; omega
      · have kb' : ¬ (k : Int) < (ys.length : Int) := by omega
        have tw := unhide RO
        unfold Rounds at tw
        rw [List.take_of_length_le (l := xs) (by omega), List.take_of_length_le (l := ys) (by omega)] at tw
        rw [List.take_of_length_le (l := xs) (by omega)] at sa
        rw [List.take_of_length_le (l := ys) (by omega)] at sb
        have T0 := hide tw
        have CP := hide (copied_any wr a cap xs ((unhide HA).later bel) (by omega) (unhide H4A))
        clear tw RO bel
        go_wp2_with fail
        refine (unhide CP).mono ?_
        rintro e w5 ⟨v5, rfl, pd5, n5, b5⟩
        have hwl := (unhide T0).fw.ready.lt
        obtain ⟨c5, cap5, rfl, cl5⟩ := paid_clear (S := (· = wb)) pd5 n5 (fun k hk => by omega)
        have T5 := hide ((unhide T0).later b5)
        obtain ⟨r1, r2⟩ := two_re (t := frames ys) (u := frames xs) (la := 0) (lb := 0) (b := frames xs) (by omega)
        have RW := hide (wrewrite_ok (s2 := nmX) (cap := cap5) (unhide T5).fw (by decide) rfl (by decide) r1 cl5 (unhide H4A) (by omega))
        have R2 := hide r2
        clear pd5 n5 b5 cl5 r1 r2 CP T0
        go_wp2_with fail
        refine (unhide RW).mono ?_
        rintro e w6 ⟨rfl, S6, g6⟩
        have t6 := (unhide T5).stepW g6
        rw [unhide R2] at t6
        have SW := hide (scan_whole (unhide H4A))
        obtain ⟨p1, p2, p3, p4⟩ := two_openV (t := frames xs) (u := frames xs) (la := (frames xs).length) (lb := 0) (by omega)
        have A7 := zopen t6.ds size_V p1 p2 p3 p4
        rw [unhide SW] at A7
        have A7H := hide A7
        clear A7 p1 p2 p3 p4 g6 t6 T5 RW
        simp only [List.take_length, Nat.zero_min] at A7H
        go_wp2_with fail
        refine (unhide A7H).mono ?_
        rintro e w7 ⟨wb7, a7, cap7, S7, rfl, z7, _, h7, _, _⟩
        have H7 := hide h7
        obtain ⟨p1, p2, p3, p4⟩ := two_openW (t := frames xs) (u := frames xs) (la := (frames xs).length) (lb := 0) (by omega)
        have A8 := zopen z7.ds size_W p1 p2 p3 p4
        rw [unhide SW] at A8
        have A8H := hide A8
        clear A8 p1 p2 p3 p4 h7 z7 A7H
        go_wp2_with fail
        refine (unhide A8H).mono ?_
        rintro e w8 ⟨wb8, a8, cap8, S8, rfl, z8, _, h8, _, t8, m8⟩
        have h78 := (unhide H7).step (T' := fun k => S7 k ∨ k = wb7) (t8.mono (fun k hk => .inl hk)) (fun k hk => .inl hk)
        obtain ⟨_, _, e1, r7, _⟩ := h78.parts
        cases e1
        obtain ⟨_, _, e1, r8, _⟩ := h8.parts
        cases e1
        have B8 := hide z8.below
        have SA := hide (samelist_any w8 a7 a cap7 cap xs r7 ((unhide HA).later (unhide B8)) (by omega) (fun l hl => by have := unhide H4A l hl; omega))
        have SB : Hid (∀ m, Calls Try.prog 11 #[.slice a8 xs.length cap8, .slice a xs.length cap] (w8.drewN m) fun e w' => e = .returned (.bool true) ∧ ∃ n, w' = (w8.drewN m).drewN n) := fun m =>
          samelist_any (w8.drewN m) a8 a cap8 cap xs (r8.drewN m) (((unhide HA).later (unhide B8)).drewN m) (by omega) (fun l hl => by have := unhide H4A l hl; omega)
        clear z8 h8 t8 m8 h78 r7 r8 A8H H7 SW
        go_wp2_with fail
        refine (unhide SA).mono ?_
        rintro e w9 ⟨rfl, n9, rfl⟩
        go_wp2_with fail
        refine (unhide SB n9).mono ?_
        rintro e w10 ⟨rfl, n10, rfl⟩
        go_wp2
        go_returns
        exact ⟨by simp, (unhide B8).trans ((below_drew7 w8 (n9 + n10)).mono (unhide B8).size)⟩
end Go.Proofs.Ytfdpnfeaagijhaa
