/-
  CodecCut walked: it answers true. Conditions: at most 1048576 Ops, each with at most as many bytes and numbers.
-/
import Derived.Test.YtnhociggoagpoaaCodecBackWalk
import Derived.Deep.RegionHeld3
namespace Go.Proofs.Ytnhociggoagpoaa
open Go.RowKit
set_option linter.unusedVariables false

set_option maxRecDepth 100000 in
set_option maxHeartbeats 4000000 in
theorem codecCut_walk (a : Option Addr) (len cap : Nat) (q : Nat → OpIs) (n0 : Nat) (w : World) (h : OpsIn w a len q) (hn0 : n0 < 65536) :
    Calls Try.prog 7 #[.slice a len cap, .int .u16 (n0 : Nat)] w fun e w' => e = .returned (.bool true) ∧ Below w.heap.size w w' := by
  have H := hide h
  have hlen := h.few
  clear h
  go_enter Try.func7, Try.ntmps7
  go_wp2_with fail
  refine (new_c w).mono ?_
  rintro e w1 ⟨rfl, x⟩
  have C := hide x
  clear x
  go_wp2_with fail
  refine (awake_c (unhide C)).mono ?_
  rintro e w2 ⟨rfl, x⟩
  have D2 := hide (duo_start x)
  clear x C
  go_wp2_with fail
  go_loopw [6, 31] (fun all i wr => ∃ (k : Nat) (v va : Value), va = all ∧ k ≤ len ∧ i = .int .i64 k ∧ (∀ i, i < k → (q i).o.bs.length ≤ 4096 ∧ (q i).o.ls.length ≤ 4096) ∧ Duo w wr (.pointer (some ⟨w.heap.size, 0, none⟩)) v (laidUp (fun i => (q i).o) k) false va (laidUp (fun i => (q i).o) k)) (fun _ i _ => len - (intOf i).toNat)
  case atStart => exact ⟨0, _, _, rfl, Nat.zero_le _, rfl, (fun i hi => by omega), unhide D2⟩
  case round =>
    obtain ⟨k, v, va, rfl, hk, rfl, hsm, hd⟩ := hrel
    have HD := hide hd
    have HSM := hide hsm
    clear hd D2 hsm
    by_cases hc : k < len
    · obtain ⟨b, off, rfl, c0, c1, c2, c3, c4, c5⟩ := (unhide H).cells (unhide HD).below hc
      have hroom := (unhide H).room hk
      obtain ⟨hin, hbs, hls⟩ := (unhide H).each k hc
      have hk' : (k : Int) < (len : Int) := by omega
      have EL : Hid (laidUp (fun i => (q i).o) (k + 1) = laidUp (fun i => (q i).o) k ++ encOp (q k).o) := rfl
      have HSM' : Hid ((q k).o.bs.length ≤ 4096 → (q k).o.ls.length ≤ 4096 → ∀ i, i < k + 1 → (q i).o.bs.length ≤ 4096 ∧ (q i).o.ls.length ≤ 4096) := by
        intro e1 e2 i hi
        by_cases hik : i = k
        · subst hik; exact ⟨e1, e2⟩
        · exact unhide HSM i (by omega)
      generalize laidUp (fun i => (q i).o) k = la at *
      generalize q k = o at *
      have hb1 : Below wr.heap.size wr (wr.alloc (.cells #[.int .i64 o.o.kind, .int .u64 (o.o.n : Nat), .int .i64 o.o.i, .bool o.o.is, .slice o.aB o.o.bs.length o.cB, .slice o.aL o.o.ls.length o.cL] 30)) := (Below.refl _ _).alloc (Nat.le_refl _) _
      have D1 := (unhide HD).later hb1
      obtain ⟨x1, x2, x3, rfl⟩ := (unhide HD).row.shape
      have BO := hide D1.below
      by_cases hbig : 4096 < o.o.bs.length
      · have hbig' : (4096 : Int) < (o.o.bs.length : Int) := by omega
        clear D1 hb1 hin
        go_wp2
        go_returns
        exact ⟨rfl, unhide BO⟩
      have hbig' : ¬ (4096 : Int) < (o.o.bs.length : Int) := by omega
      by_cases hbig2 : 4096 < o.o.ls.length
      · have hbig2' : (4096 : Int) < (o.o.ls.length : Int) := by omega
        clear D1 hb1 hin
        go_wp2
        go_returns
        exact ⟨rfl, unhide BO⟩
      have hbig2' : ¬ (4096 : Int) < (o.o.ls.length : Int) := by omega
      have LY := lay3_any (o := o.o) (aB := o.aB) (cB := o.cB) (aL := o.aL) (cL := o.cL) D1 hin (by omega) (by omega)
      have hno : ¬ (o.o.kind = 4 ∧ 4096 < o.o.bs.length) := fun h => hbig h.2
      rw [wLaid_no hno, wLong_no hno] at LY
      unfold opv at LY
      have LYH := hide LY
      clear D1 hb1 hin hroom LY hno BO
      go_wp2_with fail
      refine (unhide LYH).mono ?_
      rintro e w5 ⟨v5, va5, rfl, d5, _⟩
      have D5 : Hid (Duo w w5 (.pointer (some ⟨w.heap.size, 0, none⟩)) v5 (laidUp (fun i => (q i).o) (k + 1)) false va5 (laidUp (fun i => (q i).o) (k + 1))) := by rw [unhide EL]; exact d5
      obtain ⟨y1, y2, y3, rfl⟩ := d5.row.shape
      clear d5 LYH c0 c1 c2 c3 c4 c5 HD
      go_wp2
      go_roundw
      case rel => exact ⟨k + 1, v5, _, rfl, by omega, by go_num, unhide HSM' (by omega) (by omega), unhide D5⟩
      case measure => simp [intOf]; omega
    · obtain rfl : k = len := by omega
      have hroom := (unhide H).room (Nat.le_refl k)
      have TK : Hid (∀ kk, kk < (laidUp (fun i => (q i).o) k).length → (takenUp ((laidUp (fun i => (q i).o) k).take kk) (fun i => (q i).o.kind) k).er ≠ 0) := fun kk hkk => taken_cut (fun i => (q i).o) k kk (fun i hi => ⟨((unhide H).each i hi).1.fits, unhide HSM i hi⟩) hkk
      generalize laidUp (fun i => (q i).o) k = T at *
      obtain ⟨x1, x3, rfl, lx, hcx, _, hnx, hox, _⟩ := (unhide HD).row.parts
      have LX := hide lx
      have OK := hide (out_any w.heap.size v T _ (unhide HD).wr.at (by omega))
      by_cases hT0 : T = []
      · subst hT0
        go_wp2_with fail
        refine (unhide OK).mono ?_
        rintro e w6 ⟨vo, rfl, r6, n6, b6⟩
        have B6 := hide ((unhide HD).below.trans (b6.mono (unhide HD).below.size))
        obtain ⟨o1, o3, rfl, _⟩ := r6.parts
        clear r6 n6 b6 OK
        go_wp2
        go_returns
        exact ⟨rfl, unhide B6⟩
      have hTp : 0 < T.length := List.length_pos_iff.2 hT0
      have hTp' : ¬ ((T.length : Int) = 0) := by omega
      obtain ⟨kk, hkk, hkl⟩ : ∃ kk : Nat, (n0 : Int) % (T.length : Int) = (kk : Int) ∧ kk < T.length := ⟨n0 % T.length, by simp, Nat.mod_lt _ hTp⟩
      have hER := hide (unhide TK kk hkl)
      have hTk : (T.take kk).length = kk := by rw [List.length_take]; omega
      go_wp2_with fail
      refine (unhide OK).mono ?_
      rintro e w6 ⟨vo, rfl, r6, n6, b6⟩
      have B6 := hide ((unhide HD).below.trans (b6.mono (unhide HD).below.size))
      have LX6 := hide ((unhide LX).later b6)
      obtain ⟨o1, o3, rfl, lo, hco, _, hno, hoo, _⟩ := r6.parts
      have hsl1 := slice_h o1 T.length o3 kk (by omega)
      have hsl2 := slice_h x1 T.length x3 kk (by omega)
      have NRK : Hid (∀ w', LAt w' o1 (T.take kk) → Calls Try.prog 14 #[.slice o1 kk o3] w' fun e w'' => ∃ b a' cap', e = .returned (.pointer (some ⟨b, 0, none⟩)) ∧ RdAt 74 w'' b a' cap' (T.take kk) ⟨0, 0⟩ ∧ Below w'.heap.size w' w'' ∧ w'.heap.size ≤ b ∧ ∀ x, a' = some x → w'.heap.size ≤ x.block) := by
        intro w' hl
        have := newreader_any w' o1 o3 (T.take kk) hl hno (by omega)
        rw [hTk] at this
        exact this
      have LA : Hid (LAt w6.drew o1 (T.take kk)) := lo.take kk
      have LB : Hid (LAt (w6.drew.alloc (.cells #[.slice x1 kk x3, .int .i64 0, .int .i64 0] 41)) o1 (T.take kk)) := LAt.keep (S := fun _ => False) (unhide LA) ((Touch.refl (fun _ => False) w6.drew).alloc _) (fun _ _ _ h => h)
      have XLT : Hid (∀ x, x1 = some x → x.block < w6.heap.size) := fun x hx => by have := (unhide HD).row.lt _ (hox x hx); have := b6.size; omega
      have hw6 := (unhide B6).size
      clear r6 n6 b6 OK lo LX
      go_wp2_with fail
      go_region_held3 (fun w' => True) (trivial) (first
        | (go_at_call 14; refine (unhide NRK _ (unhide LA)).mono ?_; rintro e w8 ⟨b8, a8, c8, rfl, q8, bl8, hb8, ha8⟩)
        | (go_at_call 14; refine (unhide NRK _ (unhide LB)).mono ?_; rintro e w8 ⟨b8, a8, c8, rfl, q8, bl8, hb8, ha8⟩))
      · have hBx : Below w8.heap.size w8 (w8.alloc (.cells #[.slice x1 kk x3, .int .i64 0, .int .i64 0] 41)) := (Below.refl _ _).alloc (Nat.le_refl _) _
        have hs8 : w6.heap.size ≤ w8.heap.size := bl8.size
        have hb8' : w6.heap.size ≤ b8 := hb8
        have hb8l := q8.lt
        have B8 : Below w.heap.size w w8 := (unhide B6).trans (Below.trans (⟨rfl, rfl, rfl, Nat.le_refl _, fun _ _ => rfl⟩ : Below w.heap.size w6 w6.drew) (bl8.mono hw6))
        have B10 := hide (B8.trans (hBx.mono B8.size))
        have hb8w : w.heap.size ≤ b8 := by omega
        obtain ⟨rb, hrb⟩ : ∃ rb, rb = w8.heap.size := ⟨_, rfl⟩
        have hrbw : w.heap.size ≤ rb := by omega
        have BO : Hid (Both (w8.alloc (.cells #[.slice x1 kk x3, .int .i64 0, .int .i64 0] 41)) b8 a8 c8 rb x1 x3 (T.take kk) ⟨0, 0⟩) := by
          rw [hrb]
          refine ⟨q8.later hBx, ⟨by rw [hTk]; exact heap_new _ _, (LAt.later (show LAt w8 x1 (T.take kk) from LAt.later (w := w6.drew) ((unhide LX6).take kk) bl8) hBx), fun h0 x hx => ?_, by omega, hnx, Nat.zero_le _, by simp, by omega⟩, by omega, fun h0 x hx => ?_, fun h0 x hx => ?_⟩
          · have := unhide XLT x hx; omega
          · have := mem_lt q8.text h0 hx; omega
          · have := unhide XLT x hx; omega
        rw [← hrb]
        generalize w8.alloc (.cells #[.slice x1 kk x3, .int .i64 0, .int .i64 0] 41) = ws0 at *
        clear q8 bl8 hb8 ha8 hBx B8 hrb LA LB NRK HD
        have hkT : (T.take kk).length = kk := hTk
        go_wp2_with fail
        go_loopw [85] (fun i ws => ∃ j : Nat, j ≤ k ∧ i = .int .i64 j ∧ Both ws b8 a8 c8 rb x1 x3 (T.take kk) (takenUp (T.take kk) (fun i => (q i).o.kind) j) ∧ Below w.heap.size w ws) (fun i _ => k - (intOf i).toNat)
        case atStart => exact ⟨0, Nat.zero_le _, rfl, unhide BO, unhide B10⟩
        case round =>
          obtain ⟨j, hj, rfl, hbo, hbe⟩ := hrel
          have HBO := hide hbo
          have HBE := hide hbe
          clear hbo hbe BO B10
          by_cases hjc : j < k
          · obtain ⟨b, off, rfl, c0, c1, c2, c3, c4, c5⟩ := (unhide H).cells (unhide HBE) hjc
            have ET : Hid (takenUp (T.take kk) (fun i => (q i).o.kind) (j + 1) = rK (T.take kk) (q j).o.kind (takenUp (T.take kk) (fun i => (q i).o.kind) j)) := rfl
            generalize takenUp (T.take kk) (fun i => (q i).o.kind) j = s at *
            generalize q j = o at *
            have hjc' : (j : Int) < (k : Int) := by omega
            have hb1 : Below wr.heap.size wr (wr.alloc (.cells #[.int .i64 o.o.kind, .int .u64 (o.o.n : Nat), .int .i64 o.o.i, .bool o.o.is, .slice o.aB o.o.bs.length o.cB, .slice o.aL o.o.ls.length o.cL] 30)) := (Below.refl _ _).alloc (Nat.le_refl _) _
            have TK1 := hide (take3_any _ o.o.kind (Both.later (unhide HBO) hb1))
            have BE1 := hide ((unhide HBE).trans (hb1.mono (unhide HBE).size))
            clear hb1
            go_wp2_with fail
            refine (unhide TK1).mono ?_
            rintro e w11 ⟨rfl, h11, t11⟩
            have F : Hid (Both w11 b8 a8 c8 rb x1 x3 (T.take kk) (takenUp (T.take kk) (fun i => (q i).o.kind) (j + 1)) ∧ Below w.heap.size w w11) := ⟨by rw [unhide ET]; exact h11, below_touch (unhide BE1) t11 (unhide BE1).size (fun i hi => by rcases hi with e | e <;> omega)⟩
            clear h11 t11 TK1 BE1 HBO HBE c0 c1 c2 c3 c4 c5 ET
            go_wp2
            go_roundw
            case rel => exact ⟨j + 1, by omega, by go_num, unhide F⟩
            case measure => simp [intOf]; omega
          · obtain rfl : j = k := by omega
            have he := unhide hER
            generalize takenUp (T.take kk) (fun i => (q i).o.kind) j = s at *
            have QC : Hid (Rc w wr b8 a8 c8 (T.take kk) s) := ⟨(unhide HBO).l, unhide HBE, hb8w⟩
            have hhe := hide he
            have he' : ¬ ((s.er : Int) = 0) := by omega
            have eE : Hid (rE (T.take kk) s = s.er) := by show rE (T.take kk) s = s.er; unfold rE; rw [if_neg (by omega)]
            clear HBO HBE he
            generalize T.take kk = T2 at *
            generalize hse : s.er = z at *
            have HSE := hide hse
            clear hse
            go_wp2_with fail
            refine (state_any wr (unhide QC).rd).mono ?_
            rintro e w12 ⟨rfl, n12, rfl⟩
            rw [unhide HSE]
            have QD := hide ((unhide QC).drewN n12)
            clear QC
            generalize wr.drewN n12 = w12 at *
            go_wp2_with fail
            refine (state_any w12 (unhide QD).rd).mono ?_
            rintro e w13 ⟨rfl, n13, rfl⟩
            rw [unhide HSE]
            have QE := hide ((unhide QD).drewN n13)
            clear QD
            generalize w12.drewN n13 = w13 at *
            have hz0 : s.er ≠ 0 := by rw [unhide HSE]; exact unhide hhe
            have E1 := hide (rU_stop (t := T2) hz0)
            have E2 := hide (rI_stop (t := T2) hz0)
            have E3 := hide (rF_stop (t := T2) hz0)
            have E4 := hide (rX_stop (t := T2) hz0)
            have E5 := hide (rB_stop (t := T2) hz0)
            have E6 := hide (rL_stop (t := T2) hz0)
            clear hz0
            generalize hd : T2.length - s.pl = dl at *
            go_wp2_with fail
            refine (ruint_c (unhide QE) (unhide E1)).mono ?_
            rintro e w14 ⟨rfl, x⟩
            have QF := hide x
            clear x QE
            go_wp2_with fail
            refine (rint_c (unhide QF) (unhide E2)).mono ?_
            rintro e w15 ⟨rfl, x⟩
            have QG := hide x
            have K := rflag_any w15 x.rd
            rw [unhide E3] at K
            have KK := hide K
            clear x QF K
            go_wp2_with fail
            refine (unhide KK).mono ?_
            rintro e w16 ⟨rfl, h16, t16⟩
            have QH := hide ((unhide QG).step h16 t16)
            have K := rfixed_any w16 h16
            rw [unhide E4] at K
            have KK := hide K
            clear h16 t16 K QG
            go_wp2_with fail
            refine (unhide KK).mono ?_
            rintro e w17 ⟨rfl, h17, t17⟩
            have QI := hide ((unhide QH).step h17 t17)
            have K := rbytes_any w17 h17
            rw [unhide E5] at K
            have KK := hide K
            clear h17 t17 K QH
            go_wp2_with fail
            refine (unhide KK).mono ?_
            rintro e w18 ⟨v18, rfl, r18, n18, h18, t18⟩
            have QJ := hide ((unhide QI).step h18 t18)
            obtain ⟨_, _, rfl, _⟩ := r18.parts
            have K := rints_any w18 h18
            rw [unhide E6] at K
            have KK := hide K
            clear r18 n18 h18 t18 K QI
            go_wp2_with fail
            refine (unhide KK).mono ?_
            rintro e w19 ⟨v19, rfl, r19, n19, h19, t19⟩
            have QK := hide ((unhide QJ).step h19 t19)
            obtain ⟨_, _, rfl, _⟩ := IRow.parts r19
            have K := end_any w19 h19
            rw [unhide eE] at K
            have KK := hide K
            clear r19 n19 h19 t19 K QJ
            go_wp2_with fail
            refine (unhide KK).mono ?_
            rintro e w20 ⟨rfl, n20, rfl⟩
            have BB := hide (below_drewN' (unhide QK).below n20)
            clear QK KK
            go_wp2
            go_returns
            exact ⟨by simp, unhide BB⟩
      · have hX := heap_new w6.drew (.cells #[.slice x1 kk x3, .int .i64 0, .int .i64 0] 41)
        have hs8 := bl8.size
        have hsz : (w6.drew.alloc (.cells #[.slice x1 kk x3, .int .i64 0, .int .i64 0] 41)).heap.size = w6.heap.size + 1 := by simp
        have hBd : Below w6.heap.size w6 (w6.drew.alloc (.cells #[.slice x1 kk x3, .int .i64 0, .int .i64 0] 41)) := Below.alloc (⟨rfl, rfl, rfl, Nat.le_refl _, fun _ _ => rfl⟩ : Below w6.heap.size w6 w6.drew) (Nat.le_refl _) _
        have B68 : Below w6.heap.size w6 w8 := hBd.trans (bl8.mono (by omega))
        have B10 := hide ((unhide B6).trans (B68.mono hw6))
        have hb8w : w.heap.size ≤ b8 := by omega
        obtain ⟨rb, hrb⟩ : ∃ rb, rb = w6.heap.size := ⟨_, rfl⟩
        have hrbw : w.heap.size ≤ rb := by omega
        have BO : Hid (Both w8 b8 a8 c8 rb x1 x3 (T.take kk) ⟨0, 0⟩) := by
          rw [hrb]
          refine ⟨q8, ⟨by rw [hTk]; exact below_keep bl8 hX, ((unhide LX6).take kk).later B68, fun h0 x hx => ?_, by omega, hnx, Nat.zero_le _, by simp, by omega⟩, by omega, fun h0 x hx => ?_, fun h0 x hx => ?_⟩
          · have := unhide XLT x hx; omega
          · have := ha8 x hx; omega
          · have := unhide XLT x hx; omega
        rw [← hrb]
        clear q8 bl8 hb8 ha8 hX hs8 hsz hBd B68 hrb LA LB NRK HD
        have hkT : (T.take kk).length = kk := hTk
        go_wp2_with fail
        go_loopw [85] (fun i ws => ∃ j : Nat, j ≤ k ∧ i = .int .i64 j ∧ Both ws b8 a8 c8 rb x1 x3 (T.take kk) (takenUp (T.take kk) (fun i => (q i).o.kind) j) ∧ Below w.heap.size w ws) (fun i _ => k - (intOf i).toNat)
        case atStart => exact ⟨0, Nat.zero_le _, rfl, unhide BO, unhide B10⟩
        case round =>
          obtain ⟨j, hj, rfl, hbo, hbe⟩ := hrel
          have HBO := hide hbo
          have HBE := hide hbe
          clear hbo hbe BO B10
          by_cases hjc : j < k
          · obtain ⟨b, off, rfl, c0, c1, c2, c3, c4, c5⟩ := (unhide H).cells (unhide HBE) hjc
            have ET : Hid (takenUp (T.take kk) (fun i => (q i).o.kind) (j + 1) = rK (T.take kk) (q j).o.kind (takenUp (T.take kk) (fun i => (q i).o.kind) j)) := rfl
            generalize takenUp (T.take kk) (fun i => (q i).o.kind) j = s at *
            generalize q j = o at *
            have hjc' : (j : Int) < (k : Int) := by omega
            have hb1 : Below wr.heap.size wr (wr.alloc (.cells #[.int .i64 o.o.kind, .int .u64 (o.o.n : Nat), .int .i64 o.o.i, .bool o.o.is, .slice o.aB o.o.bs.length o.cB, .slice o.aL o.o.ls.length o.cL] 30)) := (Below.refl _ _).alloc (Nat.le_refl _) _
            have TK1 := hide (take3_any _ o.o.kind (Both.later (unhide HBO) hb1))
            have BE1 := hide ((unhide HBE).trans (hb1.mono (unhide HBE).size))
            clear hb1
            go_wp2_with fail
            refine (unhide TK1).mono ?_
            rintro e w11 ⟨rfl, h11, t11⟩
            have F : Hid (Both w11 b8 a8 c8 rb x1 x3 (T.take kk) (takenUp (T.take kk) (fun i => (q i).o.kind) (j + 1)) ∧ Below w.heap.size w w11) := ⟨by rw [unhide ET]; exact h11, below_touch (unhide BE1) t11 (unhide BE1).size (fun i hi => by rcases hi with e | e <;> omega)⟩
            clear h11 t11 TK1 BE1 HBO HBE c0 c1 c2 c3 c4 c5 ET
            go_wp2
            go_roundw
            case rel => exact ⟨j + 1, by omega, by go_num, unhide F⟩
            case measure => simp [intOf]; omega
          · obtain rfl : j = k := by omega
            have he := unhide hER
            generalize takenUp (T.take kk) (fun i => (q i).o.kind) j = s at *
            have QC : Hid (Rc w wr b8 a8 c8 (T.take kk) s) := ⟨(unhide HBO).l, unhide HBE, hb8w⟩
            have hhe := hide he
            have he' : ¬ ((s.er : Int) = 0) := by omega
            have eE : Hid (rE (T.take kk) s = s.er) := by show rE (T.take kk) s = s.er; unfold rE; rw [if_neg (by omega)]
            clear HBO HBE he
            generalize T.take kk = T2 at *
            generalize hse : s.er = z at *
            have HSE := hide hse
            clear hse
            go_wp2_with fail
            refine (state_any wr (unhide QC).rd).mono ?_
            rintro e w12 ⟨rfl, n12, rfl⟩
            rw [unhide HSE]
            have QD := hide ((unhide QC).drewN n12)
            clear QC
            generalize wr.drewN n12 = w12 at *
            go_wp2_with fail
            refine (state_any w12 (unhide QD).rd).mono ?_
            rintro e w13 ⟨rfl, n13, rfl⟩
            rw [unhide HSE]
            have QE := hide ((unhide QD).drewN n13)
            clear QD
            generalize w12.drewN n13 = w13 at *
            have hz0 : s.er ≠ 0 := by rw [unhide HSE]; exact unhide hhe
            have E1 := hide (rU_stop (t := T2) hz0)
            have E2 := hide (rI_stop (t := T2) hz0)
            have E3 := hide (rF_stop (t := T2) hz0)
            have E4 := hide (rX_stop (t := T2) hz0)
            have E5 := hide (rB_stop (t := T2) hz0)
            have E6 := hide (rL_stop (t := T2) hz0)
            clear hz0
            generalize hd : T2.length - s.pl = dl at *
            go_wp2_with fail
            refine (ruint_c (unhide QE) (unhide E1)).mono ?_
            rintro e w14 ⟨rfl, x⟩
            have QF := hide x
            clear x QE
            go_wp2_with fail
            refine (rint_c (unhide QF) (unhide E2)).mono ?_
            rintro e w15 ⟨rfl, x⟩
            have QG := hide x
            have K := rflag_any w15 x.rd
            rw [unhide E3] at K
            have KK := hide K
            clear x QF K
            go_wp2_with fail
            refine (unhide KK).mono ?_
            rintro e w16 ⟨rfl, h16, t16⟩
            have QH := hide ((unhide QG).step h16 t16)
            have K := rfixed_any w16 h16
            rw [unhide E4] at K
            have KK := hide K
            clear h16 t16 K QG
            go_wp2_with fail
            refine (unhide KK).mono ?_
            rintro e w17 ⟨rfl, h17, t17⟩
            have QI := hide ((unhide QH).step h17 t17)
            have K := rbytes_any w17 h17
            rw [unhide E5] at K
            have KK := hide K
            clear h17 t17 K QH
            go_wp2_with fail
            refine (unhide KK).mono ?_
            rintro e w18 ⟨v18, rfl, r18, n18, h18, t18⟩
            have QJ := hide ((unhide QI).step h18 t18)
            obtain ⟨_, _, rfl, _⟩ := r18.parts
            have K := rints_any w18 h18
            rw [unhide E6] at K
            have KK := hide K
            clear r18 n18 h18 t18 K QI
            go_wp2_with fail
            refine (unhide KK).mono ?_
            rintro e w19 ⟨v19, rfl, r19, n19, h19, t19⟩
            have QK := hide ((unhide QJ).step h19 t19)
            obtain ⟨_, _, rfl, _⟩ := IRow.parts r19
            have K := end_any w19 h19
            rw [unhide eE] at K
            have KK := hide K
            clear r19 n19 h19 t19 K QJ
            go_wp2_with fail
            refine (unhide KK).mono ?_
            rintro e w20 ⟨rfl, n20, rfl⟩
            have BB := hide (below_drewN' (unhide QK).below n20)
            clear QK KK
            go_wp2
            go_returns
            exact ⟨by simp, unhide BB⟩
end Go.Proofs.Ytnhociggoagpoaa
