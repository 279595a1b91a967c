/-
  ProdAgain, walked. Conditions: the arguments as they are read.
-/
import Derived.Test.YtjocjnjdmmihnaaQs9
namespace Go.Proofs.Ytjocjnjdmmihnaa
open Go.RowKit
set_option linter.unusedVariables false

/-- append([][]byte{}, values...): what comes of it. -/
theorem more1 {w5 w6 : World} {v1 : Value} {us : List Value} {vl : Nat} (hul : us.length = vl) (o1 : Own w6 64 v1 ([] ++ us)) (t1 : Touch (fun k => (Value.slice (some ⟨w5.heap.size, 0, none⟩) 0 0).ownBlock = some k) (w5.alloc (.cells #[] 64)) w6) (m1 : Moved (w5.alloc (.cells #[] 64)) (.slice (some ⟨w5.heap.size, 0, none⟩) 0 0) v1) : ∃ wa wc, v1 = .slice wa vl wc ∧ Own w6 64 (.slice wa vl wc) us ∧ New w5 (.slice wa vl wc) ∧ Below w5.heap.size w5 w6 := by
  have hA6 : Below w5.heap.size w5 (w5.alloc (.cells #[] 64)) := (Below.refl _ _).alloc (Nat.le_refl _) _
  have N1 : New w5 v1 := fun k hk => by
    rcases m1 k hk with e | e
    · have : w5.heap.size = k := by simpa [Value.ownBlock] using e
      omega
    · simp at e; omega
  have b6 : Below w5.heap.size w5 w6 := below_touch hA6 t1 (by simp) (fun k hk => by
    have : w5.heap.size = k := by simpa [Value.ownBlock] using hk
    omega)
  simp only [List.nil_append] at o1
  obtain ⟨wa, wc, ewv, _⟩ := o1.parts
  rw [hul] at ewv
  subst ewv
  exact ⟨wa, wc, rfl, o1, N1, b6⟩
/-- .. and a nil one behind them, kept in the box at gx. -/
theorem more2 {w w2 w5 w6 w8 : World} {wa : Option Addr} {wc vl gx : Nat} {us : List Value} {xvs : List (List Nat)} {v2 : Value} {bc : Array Value} (hul : us.length = vl) (hvl : xvs.length = vl) (hus : ∀ j, j < xvs.length → ∃ u, us[j]? = some u ∧ Elem w u (xvs.getD j [])) (n1 : New w5 (.slice wa vl wc)) (b6 : Below w5.heap.size w5 w6) (bx : w5.heap[gx]? = some (.cells bc 30)) (hgw : w2.heap.size ≤ gx) (b2 : Below w.heap.size w w2) (b5 : Below w2.heap.size w2 w5)
    (o2 : Own w8 64 v2 (us ++ [.slice none 0 0])) (t2 : Touch (fun k => (Value.slice wa vl wc).ownBlock = some k) (w6.alloc (.cells #[.slice none 0 0] 64)) w8) (m2 : Moved (w6.alloc (.cells #[.slice none 0 0] 64)) (.slice wa vl wc) v2) : ∃ xa2 xc2, v2 = .slice xa2 (vl + 1) xc2 ∧ w8.heap[gx]? = some (.cells bc 30) ∧ Below w2.heap.size w2 (w8.setCell ⟨gx, 8, none⟩ (.slice xa2 (vl + 1) xc2)) ∧ RAt (w8.setCell ⟨gx, 8, none⟩ (.slice xa2 (vl + 1) xc2)) xa2 (xvs ++ [[]]) := by
  have hgx5 : gx < w5.heap.size := lt_of_heap bx
  have hA7 : Below w6.heap.size w6 (w6.alloc (.cells #[.slice none 0 0] 64)) := (Below.refl _ _).alloc (Nat.le_refl _) _
  have b7 := b6.trans (hA7.mono b6.size)
  have N2 : ∀ k, v2.ownBlock = some k → w5.heap.size ≤ k := fun k hk => by
    rcases m2 k hk with e | e
    · exact n1 k e
    · exact Nat.le_trans b7.size e
  have b8 : Below w5.heap.size w5 w8 := below_touch b7 t2 b7.size (fun k hk => n1 k hk)
  have g8 := below_keep b8 bx
  have bw : Below w2.heap.size w2 (w8.setCell ⟨gx, 8, none⟩ v2) := (b5.trans (b8.mono b5.size)).setCell (p := ⟨gx, 8, none⟩) hgw _
  have bww : Below w.heap.size w (w8.setCell ⟨gx, 8, none⟩ v2) := b2.trans (bw.mono b2.size)
  have o3 : Own (w8.setCell ⟨gx, 8, none⟩ v2) 64 v2 (us ++ [.slice none 0 0]) := o2.keep (touch_set w8 gx 8 v2) (fun k hk e => by have := N2 k hk; omega)
  obtain ⟨xa2, xc2, exv, hra⟩ := rat_more (ls := xvs) o3 (hul.trans hvl.symm) (fun j hj => by
    obtain ⟨u, e1, e2⟩ := hus j hj
    exact ⟨u, e1, e2.later bww⟩)
  rw [hvl] at exv
  subst exv
  exact ⟨xa2, xc2, rfl, g8, bw, hra⟩
set_option maxRecDepth 100000 in
set_option maxHeartbeats 4000000 in
theorem prodAgain_walk {a0 : Option Addr} {cap0 : Nat} {es : List En} (w : World) (hr : RowsAt enC 9 w a0 es) (hin : ∀ e ∈ es, BIn w e.b e.a e.c ∧ (e.a = none → e.c = 0)) (hlen : es.length * 72 ≤ reachBytes) :
    Calls Try.prog 3 #[.slice a0 es.length cap0] w fun e w' => e = .returned (.bool true) ∧ Below w.heap.size w w' := by
  have LD : Hid (∀ W, Below w.heap.size w W → Calls Try.prog 6 #[.slice a0 es.length cap0] W fun e w' => LaidP W es e w') := fun W hW =>
    laid_any (fun i hi => by
      obtain ⟨g, off, e1, e2, e3⟩ := hr i hi
      exact ⟨g, off, e1, Nat.lt_of_lt_of_le e2 hW.size, fun j hj => (hW.cell (p := ⟨g, off + i * 9 + j, none⟩) e2).trans (e3 j hj)⟩) (fun e he => ⟨(hin e he).1.at_.later hW, (hin e he).1.fits, (hin e he).1.len, (hin e he).1.each⟩) hlen
  have hlow := (laidL_low es (Nat.le_refl _)).2
  have VA : Hid (∀ e ∈ (laidL es es.length).log, ∀ W, Below w.heap.size w W → RAt W e.a e.b.vs ∧ (e.a = none → e.c = 0) ∧ e.b.pid < 18446744073709551616) := fun e he W hW => by
    obtain ⟨e0, h0, h1, h2, h3, h4⟩ := laid_from es (Nat.le_refl _) e he
    rw [h1, h2, h3, h4]
    exact ⟨(hin e0 h0).1.at_.later hW, (hin e0 h0).2, (hin e0 h0).1.fits.pid⟩
  have AG : Hid (∀ i (hi : i < (laidL es es.length).log.length), ((laidL es es.length).log[i]).b.pid ≠ 0 → ((laidL es es.length).log[i]).b.ctl = false → ∃ k, AgE (laidL es es.length) i ((laidL es es.length).log[i]).b k) := fun i hi h0 hc => again_L (KInv.laid es (Nat.le_refl _)) (KLs.laid es (Nat.le_refl _)) hi h0 hc
  unfold reachBytes at hlen
  clear hr hin
  go_enter Try.func3, Try.ntmps3
  go_wp2_with fail
  refine (awake9_any w).mono ?_
  rintro e w1 ⟨rfl, b1⟩
  have B1 := hide b1
  clear b1
  go_wp2_with fail
  refine (unhide LD w1 (unhide B1)).mono ?_
  rintro e w2 ⟨lv, rfl, ls2⟩
  have B2 := hide ((unhide B1).trans (ls2.bel.mono (unhide B1).size))
  obtain ⟨la, lc, rfl⟩ := ls2.row.shape
  have HR := hide ls2.row.rows
  have LSH := hide ls2
  clear ls2 B1 LD
  generalize laidL es es.length = LL at *
  have hn : LL.log.length < 4611686018427387904 := by omega
  clear hlow hlen
  generalize es.length = ne at *
  go_wp2_with fail
  generalize w1.heap.size = tb at *
  go_loopw [25] (fun s25 wr => ∃ i, i ≤ LL.log.length ∧ s25 = .int .i64 (i : Int) ∧ Below w2.heap.size w2 wr) (fun pl _ => LL.log.length - (intOf pl).toNat)
  case atStart => exact ⟨0, Nat.zero_le _, rfl, Below.refl _ _⟩
  case round =>
    obtain ⟨i, hi, rfl, br⟩ := hrel
    have BR := hide br
    by_cases hil : i < LL.log.length
    · have hil' : (i : Int) < (LL.log.length : Int) := by omega
      have hz : (0 : Int) ≤ (i : Int) := by omega
      have hw1 : IntKind.i64.wrap ((i : Int) + 1) = (i : Int) + 1 := wrap_low (by omega) (by omega)
      obtain ⟨pb, off, rfl, y0, y1, y2, y3, y4, y5, y6, y7, y8⟩ := (unhide HR).en br hil
      have AGI := hide (unhide AG i hil)
      have VAI := hide (unhide VA _ (List.getElem_mem hil))
      generalize hx : LL.log[i] = x at *
      obtain ⟨⟨xbase, xepoch, xpid, xpep, xseq, xtxn, xctl, xcom, xvs⟩, xa, xc⟩ := x
      simp only at *
      have hA : Below wr.heap.size wr (wr.alloc (.cells #[.int .i64 xbase, .int .i64 xepoch, .int .u64 (xpid : Int), .int .i64 xpep, .int .i64 xseq, .bool xtxn, .bool xctl, .bool xcom, .slice xa xvs.length xc] 30)) := (Below.refl _ _).alloc (Nat.le_refl _) _
      have BX : Hid ((wr.alloc (.cells #[.int .i64 xbase, .int .i64 xepoch, .int .u64 (xpid : Int), .int .i64 xpep, .int .i64 xseq, .bool xtxn, .bool xctl, .bool xcom, .slice xa xvs.length xc] 30)).heap[wr.heap.size]? = some (.cells #[.int .i64 xbase, .int .i64 xepoch, .int .u64 (xpid : Int), .int .i64 xpep, .int .i64 xseq, .bool xtxn, .bool xctl, .bool xcom, .slice xa xvs.length xc] 30)) := heap_new _ _
      have B3 := hide (br.trans (hA.mono br.size))
      have SZ : Hid (w2.heap.size ≤ wr.heap.size) := br.size
      clear br hx hA BR
      go_upto_region 7 with fail
      generalize wr.alloc (.cells #[.int .i64 xbase, .int .i64 xepoch, .int .u64 (xpid : Int), .int .i64 xpep, .int .i64 xseq, .bool xtxn, .bool xctl, .bool xcom, .slice xa xvs.length xc] 30) = W3 at *
      generalize wr.heap.size = gx at *
      have q2 : W3.cell? ⟨gx, 2, none⟩ = some (.int .u64 (xpid : Int)) := cell_of (unhide BX) 2
      have q6 : W3.cell? ⟨gx, 6, none⟩ = some (.bool xctl) := cell_of (unhide BX) 6
      clear y0 y1 y2 y3 y4 y5 y6 y7 y8
      by_cases h0 : xpid = 0
      · have h0' : (xpid : Int) = 0 := by omega
        go_wp2
        go_roundw
        case rel =>
          first
            | exact ⟨i + 1, by omega, by go_num, unhide B3⟩
            | ((repeat apply Exists.intro); refine ⟨?_, ?_⟩; rotate_left; · (repeat' (first | exact rfl | apply And.intro)); · exact ⟨i + 1, by omega, by go_num, unhide B3⟩)
        case measure => simp [intOf]; omega
      · have h0' : ¬ (xpid : Int) = 0 := by omega
        cases hctl : xctl with
        | true =>
          subst hctl
          go_wp2
          go_roundw
          case rel =>
            first
              | exact ⟨i + 1, by omega, by go_num, unhide B3⟩
              | ((repeat apply Exists.intro); refine ⟨?_, ?_⟩; rotate_left; · (repeat' (first | exact rfl | apply And.intro)); · exact ⟨i + 1, by omega, by go_num, unhide B3⟩)
          case measure => simp [intOf]; omega
        | false =>
          subst hctl
          obtain ⟨k, ag⟩ := unhide AGI h0 rfl
          have AK := hide ag
          have KN : Hid (Calls Try.prog 7 #[.pointer (some ⟨tb, 0, none⟩), .int .u64 (xpid : Int)] W3 fun e w' => AnsPost W3 (tup4 (knwK (LL.K xpid))) e w') := ((unhide LSH).later (unhide B3)).known ((unhide VAI W3 ((unhide B2).trans ((unhide B3).mono (unhide B2).size))).2.2)
          have hkk : LL.K xpid = some k := ag.kn
          rw [hkk] at KN
          have hep : xpep ≤ k.ep := ag.ep
          obtain ⟨zz, hzz⟩ : ∃ z, z = (if k.op = true then k.fi else -1) := ⟨_, rfl⟩
          have KN2 : Hid (Calls Try.prog 7 #[.pointer (some ⟨tb, 0, none⟩), .int .u64 (xpid : Int)] W3 fun e w' => AnsPost W3 (.tuple #[.int .i64 k.ep, .int .i64 k.nx, .int .i64 zz, .bool true]) e w') := by rw [hzz]; exact unhide KN
          clear KN hzz ag hkk AGI
          go_wp2_with fail
          refine (unhide KN2).mono ?_
          rintro e w4 ⟨rfl, b4⟩
          have B4 := hide ((unhide B3).trans (b4.mono (unhide B3).size))
          have BX4 := hide (below_keep b4 (unhide BX))
          clear KN2 b4 B3 BX q2 q6
          go_wp2_with fail
          go_loopw [11, 12] (fun s11 s12 wq => ∃ j, i + 1 ≤ j ∧ j ≤ LL.log.length ∧ s12 = .int .i64 (j : Int) ∧ s11 = .int .i64 (cntN LL.log i j xpid : Int) ∧ Below w4.heap.size w4 wq) (fun _ pl _ => LL.log.length - (intOf pl).toNat)
          case atStart => exact ⟨i + 1, Nat.le_refl _, by omega, by simp, by rw [cntN_start]; rfl, Below.refl _ _⟩
          case round =>
            obtain ⟨j, hj1, hj2, rfl, rfl, bq⟩ := hrel
            have BQ := hide bq
            have BXQ := hide (below_keep bq (unhide BX4))
            have BQ2 := hide ((unhide B4).trans (bq.mono (unhide B4).size))
            have hcl := cntN_le LL.log i j xpid
            by_cases hjl : j < LL.log.length
            · have hjl' : (j : Int) < (LL.log.length : Int) := by omega
              have hzj : (0 : Int) ≤ (j : Int) := by omega
              have hwj : IntKind.i64.wrap ((j : Int) + 1) = (j : Int) + 1 := wrap_low (by omega) (by omega)
              have hwc : IntKind.i64.wrap ((cntN LL.log i j xpid : Int) + 1) = (cntN LL.log i j xpid : Int) + 1 := wrap_low (by omega) (by omega)
              obtain ⟨pb', off', epb, y0, y1, y2, y3, y4, y5, y6, y7, y8⟩ := (unhide HR).en (unhide BQ2) hjl
              cases epb
              have CS := hide (cntN_succ (s := xpid) hj1 hjl)
              have u2 : wr.cell? ⟨gx, 2, none⟩ = some (.int .u64 (xpid : Int)) := cell_of (unhide BXQ) 2
              clear y0 y1 y3 y4 y5 y7 y8 bq BXQ hcl
              generalize LL.log[j] = y at *
              obtain ⟨⟨ybase, yepoch, ypid, ypep, yseq, ytxn, yctl, ycom, yvs⟩, ya, yc⟩ := y
              simp only at *
              generalize hcn : cntN LL.log i j xpid = cn at *
              clear hcn
              by_cases hp : ypid = xpid
              · have hp' : (ypid : Int) = (xpid : Int) := by omega
                cases yctl with
                | true =>
                  have CS2 : Hid (cntN LL.log i (j + 1) xpid = cn) := by have := unhide CS; rw [if_neg (fun h => Bool.noConfusion h.2)] at this; exact this
                  clear CS
                  subst hp
                  go_wp2_with fail
                  go_quiet (fail)
                  go_wp2
                  go_roundw
                  case rel =>
                    first
                      | exact ⟨j + 1, by omega, by omega, by go_num, by rw [unhide CS2], below_drewN3 (unhide BQ) _⟩
                      | ((repeat apply Exists.intro); refine ⟨?_, ?_⟩; rotate_left; · (repeat' (first | exact rfl | apply And.intro)); · exact ⟨j + 1, by omega, by omega, by go_num, by rw [unhide CS2], below_drewN3 (unhide BQ) _⟩)
                  case measure => simp [intOf]; omega
                | false =>
                  have CS2 : Hid (cntN LL.log i (j + 1) xpid = cn + 1) := by have := unhide CS; rw [if_pos ⟨hp, rfl⟩] at this; exact this
                  clear CS
                  subst hp
                  go_wp2_with fail
                  go_quiet (fail)
                  go_wp2
                  go_roundw
                  case rel =>
                    first
                      | exact ⟨j + 1, by omega, by omega, by go_num, by rw [unhide CS2]; go_num, below_drewN3 (unhide BQ) _⟩
                      | ((repeat apply Exists.intro); refine ⟨?_, ?_⟩; rotate_left; · (repeat' (first | exact rfl | apply And.intro)); · exact ⟨j + 1, by omega, by omega, by go_num, by rw [unhide CS2]; go_num, below_drewN3 (unhide BQ) _⟩)
                  case measure => simp [intOf]; omega
              · have hp' : ¬ (ypid : Int) = (xpid : Int) := by omega
                have CS2 : Hid (cntN LL.log i (j + 1) xpid = cn) := by have := unhide CS; rw [if_neg (fun h => hp h.1)] at this; exact this
                have hd : decide ((ypid : Int) = (xpid : Int)) = false := decide_eq_false hp'
                clear CS
                go_wp2_with fail
                go_quiet (fail)
                go_wp2
                go_roundw
                case rel =>
                  first
                    | exact ⟨j + 1, by omega, by omega, by go_num, by rw [unhide CS2], below_drewN3 (unhide BQ) _⟩
                    | ((repeat apply Exists.intro); refine ⟨?_, ?_⟩; rotate_left; · (repeat' (first | exact rfl | apply And.intro)); · exact ⟨j + 1, by omega, by omega, by go_num, by rw [unhide CS2], below_drewN3 (unhide BQ) _⟩)
                case measure => simp [intOf]; omega
            · obtain rfl : j = LL.log.length := by omega
              rw [cntN_end]
              have hcl2 : laterN LL.log i xpid ≤ LL.log.length := by rw [← cntN_end]; exact hcl
              have CK : Hid (Calls Try.prog 8 #[.pointer (some ⟨tb, 0, none⟩), .agg #[.int .i64 xbase, .int .i64 xepoch, .int .u64 (xpid : Int), .int .i64 xpep, .int .i64 xseq, .bool xtxn, .bool false, .bool xcom, .slice xa xvs.length xc]] wr fun e w' => AnsPost wr (tup3 (chkK ⟨xbase, xepoch, xpid, xpep, xseq, xtxn, false, xcom, xvs⟩ (atK (LL.K xpid) xpep))) e w') := by
                obtain ⟨v1, v2, v3⟩ := unhide VAI wr ((unhide B2).trans ((unhide BQ2).mono (unhide B2).size))
                exact ((unhide LSH).later (unhide BQ2)).check ⟨xbase, xepoch, xpid, xpep, xseq, xtxn, false, xcom, xvs⟩ xa xc v1 v3
              have AC := hide ((unhide AK).check h0 rfl)
              simp only at AC
              generalize laterN LL.log i xpid = lt at *
              have t0 : wr.cell? ⟨gx, 0, none⟩ = some (.int .i64 xbase) := cell_of (unhide BXQ) 0
              have t1 : wr.cell? ⟨gx, 1, none⟩ = some (.int .i64 xepoch) := cell_of (unhide BXQ) 1
              have t2 : wr.cell? ⟨gx, 2, none⟩ = some (.int .u64 (xpid : Int)) := cell_of (unhide BXQ) 2
              have t3 : wr.cell? ⟨gx, 3, none⟩ = some (.int .i64 xpep) := cell_of (unhide BXQ) 3
              have t4 : wr.cell? ⟨gx, 4, none⟩ = some (.int .i64 xseq) := cell_of (unhide BXQ) 4
              have t5 : wr.cell? ⟨gx, 5, none⟩ = some (.bool xtxn) := cell_of (unhide BXQ) 5
              have t6 : wr.cell? ⟨gx, 6, none⟩ = some (.bool false) := cell_of (unhide BXQ) 6
              have t7 : wr.cell? ⟨gx, 7, none⟩ = some (.bool xcom) := cell_of (unhide BXQ) 7
              have t8 : wr.cell? ⟨gx, 8, none⟩ = some (.slice xa xvs.length xc) := cell_of (unhide BXQ) 8
              generalize hC : chkK ⟨xbase, xepoch, xpid, xpep, xseq, xtxn, false, xcom, xvs⟩ (atK (LL.K xpid) xpep) = C at *
              obtain ⟨C1, C2, C3⟩ := C
              clear hC bq BQ hcl
              generalize hvl : xvs.length = vl at *
              have HVL := hide hvl
              clear hvl
              go_wp2_with fail
              refine (unhide CK).mono ?_
              rintro e w5 ⟨rfl, b5⟩
              have BX5 := hide (below_keep b5 (unhide BXQ))
              have B5 := hide ((unhide BQ2).trans (b5.mono (unhide BQ2).size))
              clear CK b5 BXQ BQ2 t0 t1 t2 t3 t4 t5 t6 t7 t8
              go_upto_region 16 with fail
              have hv16 : xvs.length ≤ 16 := (chk_zero (unhide AK).ok).1
              rw [unhide HVL] at hv16
              obtain ⟨va1, va2, va3⟩ := unhide VAI w5 ((unhide B2).trans ((unhide B5).mono (unhide B2).size))
              obtain ⟨us, hul, hus1, hus2, hus3⟩ := (unhide VAI w (Below.refl _ _)).1.vals
              rw [unhide HVL] at hul
              have hA6 : Below w5.heap.size w5 (w5.alloc (.cells #[] 64)) := (Below.refl _ _).alloc (Nat.le_refl _) _
              have OW0 : Hid (Own (w5.alloc (.cells #[] 64)) 64 (.slice (some ⟨w5.heap.size, 0, none⟩) 0 0) []) := World.ownsRow_lit (base := 0) (e := 64) (size := 1) w5 #[] 0 (Nat.zero_le _) (Nat.zero_le _) (by simp)
              have HUS1 : Hid (∀ j u, us[j]? = some u → ∃ b off, xa = some ⟨b, off, none⟩ ∧ (w5.alloc (.cells #[] 64)).cell? ⟨b, off + j, none⟩ = some u) := fun j u hj => by
                obtain ⟨b, off, e1, e2⟩ := hus1 j u hj
                have hb6 : Below w.heap.size w (w5.alloc (.cells #[] 64)) := by
                  have h25 := (unhide B2).trans ((unhide B5).mono (unhide B2).size)
                  exact h25.trans (hA6.mono h25.size)
                exact ⟨b, off, e1, (hb6.cell (p := ⟨b, off + j, none⟩) (lt_of_cell e2)).trans e2⟩
              have HUS2 := hide hus2
              have HUL := hide hul
              have HNIL := hide va2
              have HUS3 := hide hus3
              have HA6 := hide hA6
              obtain ⟨ti, thi, thz, thsz, thby⟩ := sl_info
              have THI := hide thi
              have THZ := hide thz
              have r0 : w5.cell? ⟨gx, 0, none⟩ = some (.int .i64 xbase) := cell_of (unhide BX5) 0
              have r3 : w5.cell? ⟨gx, 3, none⟩ = some (.int .i64 xpep) := cell_of (unhide BX5) 3
              have r8 : (w5.alloc (.cells #[] 64)).cell? ⟨gx, 8, none⟩ = some (.slice xa vl xc) := cell_of (below_keep hA6 (unhide BX5)) 8
              have CM : Hid (∀ W, Below w2.heap.size w2 W → ∀ a cap, RAt W a (xvs ++ [[]]) → ∃ D1 D3, Calls Try.prog 8 #[.pointer (some ⟨tb, 0, none⟩), .agg #[.int .i64 xbase, .int .i64 xepoch, .int .u64 (xpid : Int), .int .i64 xpep, .int .i64 xseq, .bool xtxn, .bool false, .bool xcom, .slice a (vl + 1) cap]] W fun e w' => AnsPost W (.tuple #[.int .i64 D1, .bool false, .int .i64 D3]) e w') := fun W hW a cap hra => by
                have hc := ((unhide LSH).later hW).check ⟨xbase, xepoch, xpid, xpep, xseq, xtxn, false, xcom, xvs ++ [[]]⟩ a cap hra va3
                have hm := (unhide AK).checkMore ⟨xbase, xepoch, xpid, xpep, xseq, xtxn, false, xcom, xvs ++ [[]]⟩ rfl rfl rfl (by simp) rfl
                generalize chkK ⟨xbase, xepoch, xpid, xpep, xseq, xtxn, false, xcom, xvs ++ [[]]⟩ (atK (LL.K xpid) xpep) = D at hc hm
                obtain ⟨D1, D2, D3⟩ := D
                simp only at hm
                subst hm
                refine ⟨D1, D3, ?_⟩
                have hl : (xvs ++ [[]]).length = vl + 1 := by rw [List.length_append, List.length_singleton, unhide HVL]
                unfold bv at hc
                simp only [hl] at hc
                exact hc
              have ac := unhide AC
              clear AC AK VAI hA6 hul hus1 hus2 hus3 va1 va2 thi thz
              by_cases he : k.ep = xpep
              · by_cases hl : lt < 5
                · have hl' : (lt : Int) < 5 := by omega
                  have hC := ac.1 he hl
                  simp only [Prod.mk.injEq] at hC
                  obtain ⟨hc1, rfl, rfl⟩ := hC
                  have hc2 := hc1.symm
                  subst hc2
                  clear ac
                  subst he
                  go_upto_region 20 with fail
                  clear r0 r3
                  have hgw := unhide SZ
                  have HGW := hide hgw
                  clear hgw
                  go_wp2_with (first
                    | (at_builtin; refine wpList_app _ rfl (.tmp 127) (.tmp 129) 28 rfl 64 ti (.slice none 0 0) 24 Try.underlying28 (unhide THI) (unhide THZ) thsz thby rfl (.slice (some ⟨w5.heap.size, 0, none⟩) 0 0) [] rfl (unhide OW0) xa vl xc us rfl (unhide HUL) (unhide HUS1) (unhide HUS2) (unhide HNIL) (by simp; unfold maxLen; omega) (by simp; omega) ?_; intro v1 w6 o1 t1 m1; obtain ⟨wa, wc, rfl, o7, n1, b6⟩ := more1 (unhide HUL) o1 t1 m1; have O7 := hide o7; have N1 := hide n1; have B6 := hide b6; have g6 : w6.cell? ⟨gx, 8, none⟩ = some (.slice xa vl xc) := cell_of (below_keep b6 (unhide BX5)) 8; clear o1 t1 m1 o7 n1 b6 r8)
                    | (at_builtin; refine wpList_elem _ rfl (.tmp 130) (.tmp 131) rfl (.slice wa vl wc) us rfl ((unhide O7).later ((Below.refl _ _).alloc (Nat.le_refl _) _)) w6.heap.size (.slice none 0 0) rfl (cell_of (heap_new _ _) 0) rfl (by rw [unhide HUL]; omega) ?_; intro v2 w8 o2 t2 m2; obtain ⟨xa2, xc2, rfl, g8, bw, hra⟩ := more2 (unhide HUL) (unhide HVL) (unhide HUS3) (unhide N1) (unhide B6) (unhide BX5) (unhide HGW) (unhide B2) (unhide B5) o2 t2 m2; have gy := heap_set g8 8 (.slice xa2 (vl + 1) xc2); have u8 : w8.cell? ⟨gx, 8, none⟩ = some (.slice xa vl xc) := cell_of g8 8; have uf : w8.frozen? ⟨gx, 8, none⟩ = false := frozen_of g8 8; have s0 : (w8.setCell ⟨gx, 8, none⟩ (.slice xa2 (vl + 1) xc2)).cell? ⟨gx, 0, none⟩ = some (.int .i64 xbase) := cell_of gy 0; have s1 : (w8.setCell ⟨gx, 8, none⟩ (.slice xa2 (vl + 1) xc2)).cell? ⟨gx, 1, none⟩ = some (.int .i64 xepoch) := cell_of gy 1; have s2 : (w8.setCell ⟨gx, 8, none⟩ (.slice xa2 (vl + 1) xc2)).cell? ⟨gx, 2, none⟩ = some (.int .u64 (xpid : Int)) := cell_of gy 2; have s3 : (w8.setCell ⟨gx, 8, none⟩ (.slice xa2 (vl + 1) xc2)).cell? ⟨gx, 3, none⟩ = some (.int .i64 k.ep) := cell_of gy 3; have s4 : (w8.setCell ⟨gx, 8, none⟩ (.slice xa2 (vl + 1) xc2)).cell? ⟨gx, 4, none⟩ = some (.int .i64 xseq) := cell_of gy 4; have s5 : (w8.setCell ⟨gx, 8, none⟩ (.slice xa2 (vl + 1) xc2)).cell? ⟨gx, 5, none⟩ = some (.bool xtxn) := cell_of gy 5; have s6 : (w8.setCell ⟨gx, 8, none⟩ (.slice xa2 (vl + 1) xc2)).cell? ⟨gx, 6, none⟩ = some (.bool false) := cell_of gy 6; have s7 : (w8.setCell ⟨gx, 8, none⟩ (.slice xa2 (vl + 1) xc2)).cell? ⟨gx, 7, none⟩ = some (.bool xcom) := cell_of gy 7; have s8 : (w8.setCell ⟨gx, 8, none⟩ (.slice xa2 (vl + 1) xc2)).cell? ⟨gx, 8, none⟩ = some (.slice xa2 (vl + 1) xc2) := cell_of gy 8; have BW := hide bw; have HRA := hide hra; clear o2 t2 m2 g8 bw hra gy O7 N1 B6 g6))
                  obtain ⟨D1, D3, cm⟩ := unhide CM _ (unhide BW) _ xc2 (unhide HRA)
                  have CM2 := hide cm
                  clear CM cm HRA
                  generalize w8.setCell ⟨gx, 8, none⟩ (.slice xa2 (vl + 1) xc2) = WY at *
                  refine (unhide CM2).mono ?_
                  rintro e w9 ⟨rfl, b9⟩
                  have B9 := hide ((unhide BW).trans (b9.mono (unhide BW).size))
                  clear CM2 b9 BW s0 s1 s2 s3 s4 s5 s6 s7 s8
                  go_wp2
                  go_roundw
                  case rel =>
                    first
                      | exact ⟨i + 1, by omega, by go_num, unhide B9⟩
                      | ((repeat apply Exists.intro); refine ⟨?_, ?_⟩; rotate_left; · (repeat' (first | exact rfl | apply And.intro)); · exact ⟨i + 1, by omega, by go_num, unhide B9⟩)
                  case measure => simp [intOf]; omega
                · have hl' : ¬ (lt : Int) < 5 := by omega
                  have hC := ac.2.1 he hl
                  simp only [Prod.mk.injEq] at hC
                  obtain ⟨rfl, rfl, rfl⟩ := hC
                  clear ac
                  subst he
                  go_upto_region 20 with fail
                  clear r0 r3
                  have hgw := unhide SZ
                  have HGW := hide hgw
                  clear hgw
                  go_wp2_with (first
                    | (at_builtin; refine wpList_app _ rfl (.tmp 127) (.tmp 129) 28 rfl 64 ti (.slice none 0 0) 24 Try.underlying28 (unhide THI) (unhide THZ) thsz thby rfl (.slice (some ⟨w5.heap.size, 0, none⟩) 0 0) [] rfl (unhide OW0) xa vl xc us rfl (unhide HUL) (unhide HUS1) (unhide HUS2) (unhide HNIL) (by simp; unfold maxLen; omega) (by simp; omega) ?_; intro v1 w6 o1 t1 m1; obtain ⟨wa, wc, rfl, o7, n1, b6⟩ := more1 (unhide HUL) o1 t1 m1; have O7 := hide o7; have N1 := hide n1; have B6 := hide b6; have g6 : w6.cell? ⟨gx, 8, none⟩ = some (.slice xa vl xc) := cell_of (below_keep b6 (unhide BX5)) 8; clear o1 t1 m1 o7 n1 b6 r8)
                    | (at_builtin; refine wpList_elem _ rfl (.tmp 130) (.tmp 131) rfl (.slice wa vl wc) us rfl ((unhide O7).later ((Below.refl _ _).alloc (Nat.le_refl _) _)) w6.heap.size (.slice none 0 0) rfl (cell_of (heap_new _ _) 0) rfl (by rw [unhide HUL]; omega) ?_; intro v2 w8 o2 t2 m2; obtain ⟨xa2, xc2, rfl, g8, bw, hra⟩ := more2 (unhide HUL) (unhide HVL) (unhide HUS3) (unhide N1) (unhide B6) (unhide BX5) (unhide HGW) (unhide B2) (unhide B5) o2 t2 m2; have gy := heap_set g8 8 (.slice xa2 (vl + 1) xc2); have u8 : w8.cell? ⟨gx, 8, none⟩ = some (.slice xa vl xc) := cell_of g8 8; have uf : w8.frozen? ⟨gx, 8, none⟩ = false := frozen_of g8 8; have s0 : (w8.setCell ⟨gx, 8, none⟩ (.slice xa2 (vl + 1) xc2)).cell? ⟨gx, 0, none⟩ = some (.int .i64 xbase) := cell_of gy 0; have s1 : (w8.setCell ⟨gx, 8, none⟩ (.slice xa2 (vl + 1) xc2)).cell? ⟨gx, 1, none⟩ = some (.int .i64 xepoch) := cell_of gy 1; have s2 : (w8.setCell ⟨gx, 8, none⟩ (.slice xa2 (vl + 1) xc2)).cell? ⟨gx, 2, none⟩ = some (.int .u64 (xpid : Int)) := cell_of gy 2; have s3 : (w8.setCell ⟨gx, 8, none⟩ (.slice xa2 (vl + 1) xc2)).cell? ⟨gx, 3, none⟩ = some (.int .i64 k.ep) := cell_of gy 3; have s4 : (w8.setCell ⟨gx, 8, none⟩ (.slice xa2 (vl + 1) xc2)).cell? ⟨gx, 4, none⟩ = some (.int .i64 xseq) := cell_of gy 4; have s5 : (w8.setCell ⟨gx, 8, none⟩ (.slice xa2 (vl + 1) xc2)).cell? ⟨gx, 5, none⟩ = some (.bool xtxn) := cell_of gy 5; have s6 : (w8.setCell ⟨gx, 8, none⟩ (.slice xa2 (vl + 1) xc2)).cell? ⟨gx, 6, none⟩ = some (.bool false) := cell_of gy 6; have s7 : (w8.setCell ⟨gx, 8, none⟩ (.slice xa2 (vl + 1) xc2)).cell? ⟨gx, 7, none⟩ = some (.bool xcom) := cell_of gy 7; have s8 : (w8.setCell ⟨gx, 8, none⟩ (.slice xa2 (vl + 1) xc2)).cell? ⟨gx, 8, none⟩ = some (.slice xa2 (vl + 1) xc2) := cell_of gy 8; have BW := hide bw; have HRA := hide hra; clear o2 t2 m2 g8 bw hra gy O7 N1 B6 g6))
                  obtain ⟨D1, D3, cm⟩ := unhide CM _ (unhide BW) _ xc2 (unhide HRA)
                  have CM2 := hide cm
                  clear CM cm HRA
                  generalize w8.setCell ⟨gx, 8, none⟩ (.slice xa2 (vl + 1) xc2) = WY at *
                  refine (unhide CM2).mono ?_
                  rintro e w9 ⟨rfl, b9⟩
                  have B9 := hide ((unhide BW).trans (b9.mono (unhide BW).size))
                  clear CM2 b9 BW s0 s1 s2 s3 s4 s5 s6 s7 s8
                  go_wp2
                  go_roundw
                  case rel =>
                    first
                      | exact ⟨i + 1, by omega, by go_num, unhide B9⟩
                      | ((repeat apply Exists.intro); refine ⟨?_, ?_⟩; rotate_left; · (repeat' (first | exact rfl | apply And.intro)); · exact ⟨i + 1, by omega, by go_num, unhide B9⟩)
                  case measure => simp [intOf]; omega
              · have hlt : xpep < k.ep := by omega
                have hC := ac.2.2 hlt
                simp only [Prod.mk.injEq] at hC
                obtain ⟨rfl, rfl, rfl⟩ := hC
                clear ac
                go_upto_region 20 with fail
                clear r0 r3
                have hgw := unhide SZ
                have HGW := hide hgw
                clear hgw
                go_wp2_with (first
                  | (at_builtin; refine wpList_app _ rfl (.tmp 127) (.tmp 129) 28 rfl 64 ti (.slice none 0 0) 24 Try.underlying28 (unhide THI) (unhide THZ) thsz thby rfl (.slice (some ⟨w5.heap.size, 0, none⟩) 0 0) [] rfl (unhide OW0) xa vl xc us rfl (unhide HUL) (unhide HUS1) (unhide HUS2) (unhide HNIL) (by simp; unfold maxLen; omega) (by simp; omega) ?_; intro v1 w6 o1 t1 m1; obtain ⟨wa, wc, rfl, o7, n1, b6⟩ := more1 (unhide HUL) o1 t1 m1; have O7 := hide o7; have N1 := hide n1; have B6 := hide b6; have g6 : w6.cell? ⟨gx, 8, none⟩ = some (.slice xa vl xc) := cell_of (below_keep b6 (unhide BX5)) 8; clear o1 t1 m1 o7 n1 b6 r8)
                  | (at_builtin; refine wpList_elem _ rfl (.tmp 130) (.tmp 131) rfl (.slice wa vl wc) us rfl ((unhide O7).later ((Below.refl _ _).alloc (Nat.le_refl _) _)) w6.heap.size (.slice none 0 0) rfl (cell_of (heap_new _ _) 0) rfl (by rw [unhide HUL]; omega) ?_; intro v2 w8 o2 t2 m2; obtain ⟨xa2, xc2, rfl, g8, bw, hra⟩ := more2 (unhide HUL) (unhide HVL) (unhide HUS3) (unhide N1) (unhide B6) (unhide BX5) (unhide HGW) (unhide B2) (unhide B5) o2 t2 m2; have gy := heap_set g8 8 (.slice xa2 (vl + 1) xc2); have u8 : w8.cell? ⟨gx, 8, none⟩ = some (.slice xa vl xc) := cell_of g8 8; have uf : w8.frozen? ⟨gx, 8, none⟩ = false := frozen_of g8 8; have s0 : (w8.setCell ⟨gx, 8, none⟩ (.slice xa2 (vl + 1) xc2)).cell? ⟨gx, 0, none⟩ = some (.int .i64 xbase) := cell_of gy 0; have s1 : (w8.setCell ⟨gx, 8, none⟩ (.slice xa2 (vl + 1) xc2)).cell? ⟨gx, 1, none⟩ = some (.int .i64 xepoch) := cell_of gy 1; have s2 : (w8.setCell ⟨gx, 8, none⟩ (.slice xa2 (vl + 1) xc2)).cell? ⟨gx, 2, none⟩ = some (.int .u64 (xpid : Int)) := cell_of gy 2; have s3 : (w8.setCell ⟨gx, 8, none⟩ (.slice xa2 (vl + 1) xc2)).cell? ⟨gx, 3, none⟩ = some (.int .i64 xpep) := cell_of gy 3; have s4 : (w8.setCell ⟨gx, 8, none⟩ (.slice xa2 (vl + 1) xc2)).cell? ⟨gx, 4, none⟩ = some (.int .i64 xseq) := cell_of gy 4; have s5 : (w8.setCell ⟨gx, 8, none⟩ (.slice xa2 (vl + 1) xc2)).cell? ⟨gx, 5, none⟩ = some (.bool xtxn) := cell_of gy 5; have s6 : (w8.setCell ⟨gx, 8, none⟩ (.slice xa2 (vl + 1) xc2)).cell? ⟨gx, 6, none⟩ = some (.bool false) := cell_of gy 6; have s7 : (w8.setCell ⟨gx, 8, none⟩ (.slice xa2 (vl + 1) xc2)).cell? ⟨gx, 7, none⟩ = some (.bool xcom) := cell_of gy 7; have s8 : (w8.setCell ⟨gx, 8, none⟩ (.slice xa2 (vl + 1) xc2)).cell? ⟨gx, 8, none⟩ = some (.slice xa2 (vl + 1) xc2) := cell_of gy 8; have BW := hide bw; have HRA := hide hra; clear o2 t2 m2 g8 bw hra gy O7 N1 B6 g6))
                obtain ⟨D1, D3, cm⟩ := unhide CM _ (unhide BW) _ xc2 (unhide HRA)
                have CM2 := hide cm
                clear CM cm HRA
                generalize w8.setCell ⟨gx, 8, none⟩ (.slice xa2 (vl + 1) xc2) = WY at *
                refine (unhide CM2).mono ?_
                rintro e w9 ⟨rfl, b9⟩
                have B9 := hide ((unhide BW).trans (b9.mono (unhide BW).size))
                clear CM2 b9 BW s0 s1 s2 s3 s4 s5 s6 s7 s8
                go_wp2
                go_roundw
                case rel =>
                  first
                    | exact ⟨i + 1, by omega, by go_num, unhide B9⟩
                    | ((repeat apply Exists.intro); refine ⟨?_, ?_⟩; rotate_left; · (repeat' (first | exact rfl | apply And.intro)); · exact ⟨i + 1, by omega, by go_num, unhide B9⟩)
                case measure => simp [intOf]; omega
    · obtain rfl : i = LL.log.length := by omega
      have hil' : ¬ (LL.log.length : Int) < (LL.log.length : Int) := by omega
      have B3 := hide ((unhide B2).trans (br.mono (unhide B2).size))
      clear HR AG VA BR LSH
      go_wp2
      go_returns
      exact ⟨rfl, unhide B3⟩
end Go.Proofs.Ytjocjnjdmmihnaa
