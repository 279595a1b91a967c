/-
  CodecBack walked: it answers true. Conditions: at most 1048576 Ops, each with at most as many bytes and numbers, and as many bytes behind them.
-/
import Derived.Test.YtnhociggoagpoaaCodecLaysWalk
namespace Go.Proofs.Ytnhociggoagpoaa
open Go.RowKit
set_option linter.unusedVariables false

theorem Both.later {w w' : World} {b1 : Nat} {a1 : Option Addr} {c1 b2 : Nat} {a2 : Option Addr} {c2 : Nat} {t : List Nat} {s : Rst} (h : Both w b1 a1 c1 b2 a2 c2 t s) (hb : Below w.heap.size w w') : Both w' b1 a1 c1 b2 a2 c2 t s := ⟨h.l.later hb, h.r.later hb, h.ap⟩

set_option maxRecDepth 100000 in
set_option maxHeartbeats 4000000 in
theorem codecBack_walk (a : Option Addr) (len cap : Nat) (q : Nat → OpIs) (a1 : Option Addr) (cap1 : Nat) (more : List Nat) (w : World) (h : OpsIn w a len q) (h1 : LAt w a1 more) (hn1 : a1 = none → cap1 = 0) (hl1 : more.length ≤ 1048576) :
    Calls Try.prog 5 #[.slice a len cap, .slice a1 more.length cap1] w fun e w' => e = .returned (.bool true) ∧ Below w.heap.size w w' := by
  have H := hide h
  have H1 := hide h1
  have hlen := h.few
  clear h h1
  go_enter Try.func5, Try.ntmps5
  go_wp2_with fail
  refine (new_c w).mono ?_
  rintro e w1 ⟨rfl, x⟩
  have C := hide x
  clear x
  go_wp2_with fail
  refine (awake_c (unhide C)).mono ?_
  rintro e w2 ⟨rfl, x⟩
  have D2 := hide (duo_start x)
  clear x C
  go_wp2_with fail
  go_loopw [6, 27] (fun all i wr => ∃ (k : Nat) (v va : Value), va = all ∧ k ≤ len ∧ i = .int .i64 k ∧ (∀ i, i < k → (q i).o.bs.length ≤ 4096 ∧ (q i).o.ls.length ≤ 4096) ∧ Duo w wr (.pointer (some ⟨w.heap.size, 0, none⟩)) v (laidUp (fun i => (q i).o) k) false va (laidUp (fun i => (q i).o) k)) (fun _ i _ => len - (intOf i).toNat)
  case atStart => exact ⟨0, _, _, rfl, Nat.zero_le _, rfl, (fun i hi => by omega), unhide D2⟩
  case round =>
    obtain ⟨k, v, va, rfl, hk, rfl, hsm, hd⟩ := hrel
    have HD := hide hd
    have HSM := hide hsm
    clear hd D2 hsm
    by_cases hc : k < len
    · obtain ⟨b, off, rfl, c0, c1, c2, c3, c4, c5⟩ := (unhide H).cells (unhide HD).below hc
      have hroom := (unhide H).room hk
      obtain ⟨hin, hbs, hls⟩ := (unhide H).each k hc
      have hk' : (k : Int) < (len : Int) := by omega
      have EL : Hid (laidUp (fun i => (q i).o) (k + 1) = laidUp (fun i => (q i).o) k ++ encOp (q k).o) := rfl
      have HSM' : Hid ((q k).o.bs.length ≤ 4096 → (q k).o.ls.length ≤ 4096 → ∀ i, i < k + 1 → (q i).o.bs.length ≤ 4096 ∧ (q i).o.ls.length ≤ 4096) := by
        intro e1 e2 i hi
        by_cases hik : i = k
        · subst hik; exact ⟨e1, e2⟩
        · exact unhide HSM i (by omega)
      generalize laidUp (fun i => (q i).o) k = la at *
      generalize q k = o at *
      have hb1 : Below wr.heap.size wr (wr.alloc (.cells #[.int .i64 o.o.kind, .int .u64 (o.o.n : Nat), .int .i64 o.o.i, .bool o.o.is, .slice o.aB o.o.bs.length o.cB, .slice o.aL o.o.ls.length o.cL] 30)) := (Below.refl _ _).alloc (Nat.le_refl _) _
      have D1 := (unhide HD).later hb1
      obtain ⟨x1, x2, x3, rfl⟩ := (unhide HD).row.shape
      have BO := hide D1.below
      by_cases hbig : 4096 < o.o.bs.length
      · have hbig' : (4096 : Int) < (o.o.bs.length : Int) := by omega
        clear D1 hb1 hin
        go_wp2
        go_returns
        exact ⟨rfl, unhide BO⟩
      have hbig' : ¬ (4096 : Int) < (o.o.bs.length : Int) := by omega
      by_cases hbig2 : 4096 < o.o.ls.length
      · have hbig2' : (4096 : Int) < (o.o.ls.length : Int) := by omega
        clear D1 hb1 hin
        go_wp2
        go_returns
        exact ⟨rfl, unhide BO⟩
      have hbig2' : ¬ (4096 : Int) < (o.o.ls.length : Int) := by omega
      have LY := lay3_any (o := o.o) (aB := o.aB) (cB := o.cB) (aL := o.aL) (cL := o.cL) D1 hin (by omega) (by omega)
      have hno : ¬ (o.o.kind = 4 ∧ 4096 < o.o.bs.length) := fun h => hbig h.2
      rw [wLaid_no hno, wLong_no hno] at LY
      unfold opv at LY
      have LYH := hide LY
      clear D1 hb1 hin hroom LY hno BO
      go_wp2_with fail
      refine (unhide LYH).mono ?_
      rintro e w5 ⟨v5, va5, rfl, d5, _⟩
      have D5 : Hid (Duo w w5 (.pointer (some ⟨w.heap.size, 0, none⟩)) v5 (laidUp (fun i => (q i).o) (k + 1)) false va5 (laidUp (fun i => (q i).o) (k + 1))) := by rw [unhide EL]; exact d5
      obtain ⟨y1, y2, y3, rfl⟩ := d5.row.shape
      clear d5 LYH c0 c1 c2 c3 c4 c5 HD
      go_wp2
      go_roundw
      case rel => exact ⟨k + 1, v5, _, rfl, by omega, by go_num, unhide HSM' (by omega) (by omega), unhide D5⟩
      case measure => simp [intOf]; omega
    · obtain rfl : k = len := by omega
      have hroom := (unhide H).room (Nat.le_refl k)
      have TK : Hid (∀ t, t = laidUp (fun i => (q i).o) k ++ more → takenUp t (fun i => (q i).o.kind) k = ⟨(laidUp (fun i => (q i).o) k).length, 0⟩) := fun t ht => taken_laid (fun i => (q i).o) more k t (fun i hi => ⟨((unhide H).each i hi).1.fits, unhide HSM i hi⟩) ht
      generalize laidUp (fun i => (q i).o) k = T at *
      obtain ⟨x1, x3, rfl, _⟩ := (unhide HD).row.parts
      have OK := hide (out_any w.heap.size v T _ (unhide HD).wr.at (by omega))
      go_wp2_with fail
      refine (unhide OK).mono ?_
      rintro e w6 ⟨vo, rfl, r6, n6, b6⟩
      have A6 := hide ((unhide HD).later b6)
      have RO := hide r6
      have NO : Hid (∀ i, vo.ownBlock = some i → w.heap.size ≤ i) := fun i hi => by have := n6 i hi; have := (unhide HD).below.size; omega
      have NOA : Hid (∀ i, vo.ownBlock = some i → ¬ (Value.slice x1 T.length x3).ownBlock = some i) := fun i hi e => by have := n6 i hi; have := (unhide HD).row.lt i e; omega
      obtain ⟨o1, o2, o3, rfl⟩ := r6.shape
      have M6 := hide ((unhide H1).later (unhide A6).below)
      clear r6 n6 b6 OK
      go_wp2_with (at_builtin; refine wpList_row _ rfl (.tmp 51) (.tmp 52) rfl _ T rfl (unhide RO) a1 cap1 more rfl (unhide M6) hn1 (by omega) ?_)
      intro v7 w7 r7 t7 m7
      have VA7 := hide ((unhide A6).row.keep t7 (fun i hi e => unhide NOA i e hi))
      have B7 := hide (below_touch (unhide A6).below t7 (unhide A6).below.size (fun i hi => unhide NO i hi))
      have NVA : Hid (New w (.slice x1 T.length x3)) := (unhide A6).nw
      obtain ⟨U, hU⟩ : ∃ U, U = T ++ more := ⟨_, rfl⟩
      have hUl : U.length ≤ 140737488355328 := by rw [hU, List.length_append]; omega
      have EU := hide hU
      rw [← hU] at r7
      obtain ⟨p1, p3, rfl, l7, _, _, hn7, _⟩ := r7.parts
      have NR := hide (reader_c (unhide B7) p1 p3 U l7 hn7 hUl)
      clear r7 t7 m7 l7 hn7 A6 RO M6 HD hU
      go_wp2_with fail
      refine (unhide NR).mono ?_
      rintro e w8 ⟨b8, a8, c8, rfl, q8, bl8, hb8, ha8⟩
      have Q8 := hide q8
      have VA8 := hide ((unhide VA7).later bl8)
      have M8 := hide ((unhide H1).later q8.below)
      have hs78 := bl8.size
      have hlt7 := (unhide VA7).lt
      have HA8 : Hid (∀ x, a8 = some x → w7.heap.size ≤ x.block) := ha8
      clear q8 bl8 ha8 NR VA7
      go_wp2_with (at_builtin; refine wpList_row _ rfl (.tmp 55) (.tmp 56) rfl _ T rfl (unhide VA8) a1 cap1 more rfl (unhide M8) hn1 (by omega) ?_)
      intro v9 w9 r9 t9 m9
      rw [← unhide EU] at r9
      have hb8l := (unhide Q8).rd.lt
      have Q9 := hide ((unhide Q8).rd.keep t9 (fun e => by have := hlt7 _ e; omega) (fun h0 x hx e => by have := hlt7 _ e; have := unhide HA8 x hx; omega))
      have B9 := hide (below_touch (unhide Q8).below t9 (unhide Q8).below.size (fun i hi => unhide NVA i hi))
      have hs9 := t9.size
      have hb8w := (unhide Q8).hb
      have hlt9 := r9.lt
      have hm9 : ∀ i, v9.ownBlock = some i → i ≠ b8 := fun i hi e => by
        rcases m9 i hi with e' | e'
        · have := hlt7 _ e'; omega
        · omega
      obtain ⟨p4, p6, rfl, l9, hc9, _, hn9, ho9, _⟩ := r9.parts
      have hBx : Below w9.heap.size w9 (w9.alloc (.cells #[.slice p4 U.length p6, .int .i64 0, .int .i64 0] 41)) := (Below.refl _ _).alloc (Nat.le_refl _) _
      have B10 := hide ((unhide B9).trans (hBx.mono (unhide B9).size))
      have BO : Hid (Both (w9.alloc (.cells #[.slice p4 U.length p6, .int .i64 0, .int .i64 0] 41)) b8 a8 c8 w9.heap.size p4 p6 U ⟨0, 0⟩) := by
        refine ⟨(unhide Q9).later hBx, ⟨heap_new _ _, l9.later hBx, fun h0 x hx => ?_, hc9, hn9, Nat.zero_le _, by simp, hUl⟩, by omega, fun h0 x hx => ?_, fun h0 x hx => ?_⟩
        · have := hlt9 _ (ho9 x hx); omega
        · have := mem_lt (unhide Q9).text h0 hx; omega
        · exact hm9 _ (ho9 x hx)
      have hsz9 := (unhide B9).size
      clear r9 t9 m9 l9 hc9 hn9 ho9 hBx Q8 Q9 VA8 M8 B9 hm9 hlt9
      go_wp2_with fail
      go_loopw [62] (fun i ws => ∃ j : Nat, j ≤ k ∧ i = .int .i64 j ∧ Both ws b8 a8 c8 w9.heap.size p4 p6 U (takenUp U (fun i => (q i).o.kind) j) ∧ Below w.heap.size w ws) (fun i _ => k - (intOf i).toNat)
      case atStart => exact ⟨0, Nat.zero_le _, rfl, unhide BO, unhide B10⟩
      case round =>
        obtain ⟨j, hj, rfl, hbo, hbe⟩ := hrel
        have HBO := hide hbo
        have HBE := hide hbe
        clear hbo hbe BO B10
        by_cases hjc : j < k
        · obtain ⟨b, off, rfl, c0, c1, c2, c3, c4, c5⟩ := (unhide H).cells (unhide HBE) hjc
          have ET : Hid (takenUp U (fun i => (q i).o.kind) (j + 1) = rK U (q j).o.kind (takenUp U (fun i => (q i).o.kind) j)) := rfl
          generalize takenUp U (fun i => (q i).o.kind) j = s at *
          generalize q j = o at *
          have hjc' : (j : Int) < (k : Int) := by omega
          have hb1 : Below wr.heap.size wr (wr.alloc (.cells #[.int .i64 o.o.kind, .int .u64 (o.o.n : Nat), .int .i64 o.o.i, .bool o.o.is, .slice o.aB o.o.bs.length o.cB, .slice o.aL o.o.ls.length o.cL] 30)) := (Below.refl _ _).alloc (Nat.le_refl _) _
          have TK1 := hide (take3_any _ o.o.kind (Both.later (unhide HBO) hb1))
          have BE1 := hide ((unhide HBE).trans (hb1.mono (unhide HBE).size))
          clear hb1
          go_wp2_with fail
          refine (unhide TK1).mono ?_
          rintro e w11 ⟨rfl, h11, t11⟩
          have F : Hid (Both w11 b8 a8 c8 w9.heap.size p4 p6 U (takenUp U (fun i => (q i).o.kind) (j + 1)) ∧ Below w.heap.size w w11) := ⟨by rw [unhide ET]; exact h11, below_touch (unhide BE1) t11 (unhide BE1).size (fun i hi => by rcases hi with e | e <;> omega)⟩
          clear h11 t11 TK1 BE1 HBO HBE c0 c1 c2 c3 c4 c5 ET
          go_wp2
          go_roundw
          case rel => exact ⟨j + 1, by omega, by go_num, unhide F⟩
          case measure => simp [intOf]; omega
        · obtain rfl : j = k := by omega
          have ES := unhide TK U (unhide EU)
          rw [ES] at HBO
          have hUT : U.length - T.length = more.length := by rw [unhide EU, List.length_append]; omega
          have hUT2 : U.length = T.length + more.length := by rw [unhide EU, List.length_append]
          have ST := state_any wr (unhide HBO).l
          rw [hUT] at ST
          have STH := hide ST
          have d2 := (unhide HBO).r.c2
          have EV : Hid (rE U ⟨T.length, 0⟩ = if 0 < more.length then 6 else 0) := by
            show rE U ⟨T.length, 0⟩ = _
            unfold rE
            by_cases hm : 0 < more.length
            · rw [if_pos ⟨rfl, by show T.length < U.length; omega⟩, if_pos hm]
            · rw [if_neg (by show ¬ (0 = 0 ∧ T.length < U.length); omega), if_neg hm]
          clear ST ES hUT hUT2
          go_wp2_with fail
          refine (unhide STH).mono ?_
          rintro e w12 ⟨rfl, n12, rfl⟩
          have EN := end_any _ ((unhide HBO).l.drewN n12)
          rw [unhide EV] at EN
          have BF := hide (below_drewN' (unhide HBE) n12)
          have d3 : (wr.drewN n12).cell? ⟨w9.heap.size, 2, none⟩ = some (.int .i64 0) := d2
          clear STH d2 HBO HBE
          generalize wr.drewN n12 = w12 at *
          by_cases hm : 0 < more.length
          · rw [if_pos hm] at EN
            have ENH := hide EN
            clear EN
            have hm' : ¬ ((more.length : Int) = 0) := by omega
            go_wp2_with fail
            refine (unhide ENH).mono ?_
            rintro e w13 ⟨rfl, n13, rfl⟩
            go_wp2
            go_returns
            exact ⟨by first | rfl | (simp; done) | (simp; rintro rfl; simp at hm) | (simp; omega), below_drewN' (unhide BF) n13⟩
          · rw [if_neg hm] at EN
            have ENH := hide EN
            clear EN
            have hm' : ((more.length : Int) = 0) := by omega
            go_wp2_with fail
            refine (unhide ENH).mono ?_
            rintro e w13 ⟨rfl, n13, rfl⟩
            go_wp2
            go_returns
            exact ⟨by first | rfl | (simp; done) | (simp; rintro rfl; simp at hm) | (simp; omega), below_drewN' (unhide BF) n13⟩
end Go.Proofs.Ytnhociggoagpoaa
