/-
  ProdOpens, walked. Conditions: the arguments as they are read.
-/
import Derived.Test.YtjocjnjdmmihnaaQt9
namespace Go.Proofs.Ytjocjnjdmmihnaa
open Go.RowKit
set_option linter.unusedVariables false

/-- What the law has seen of the first i. -/
def OpI (l : List En) (i : Nat) (fi : Int) (op : Bool) : Prop := (op = false ∧ fi = 0 ∧ ∀ j d, j < i → ¬ openAt l j d) ∨ (op = true ∧ ∃ j d, j < i ∧ openAt l j d ∧ d.b.base = fi ∧ ∀ j' d', j' < j → ¬ openAt l j' d')
theorem OpI.skip {l : List En} {i : Nat} {fi : Int} {op : Bool} (h : OpI l i fi op) (hn : ∀ d, ¬ openAt l i d) : OpI l (i + 1) fi op := by
  rcases h with ⟨h1, h2, h3⟩ | ⟨h1, j, d, h2, h3⟩
  · refine .inl ⟨h1, h2, fun j d hj => ?_⟩
    by_cases hji : j < i
    · exact h3 j d hji
    · obtain rfl : j = i := by omega
      exact hn d
  · exact .inr ⟨h1, j, d, by omega, h3⟩
theorem OpI.first {l : List En} {i : Nat} {fi : Int} (h : OpI l i fi false) {e : En} (ho : openAt l i e) : OpI l (i + 1) e.b.base true := by
  rcases h with ⟨_, _, h3⟩ | ⟨h1, _⟩
  · exact .inr ⟨rfl, i, e, by omega, ho, rfl, h3⟩
  · cases h1
theorem OpI.more {l : List En} {i : Nat} {fi : Int} (h : OpI l i fi true) : OpI l (i + 1) fi true := by
  rcases h with ⟨h1, _⟩ | ⟨h1, j, d, h2, h3⟩
  · cases h1
  · exact .inr ⟨h1, j, d, by omega, h3⟩
/-- Whether a marker stands from i + 1 up to j. -/
def clN (l : List En) (i j s : Nat) : Bool := ((l.take j).drop (i + 1)).any (fun e => e.b.ctl && decide (e.b.pid = s))
theorem clN_start (l : List En) (i s : Nat) : clN l i (i + 1) s = false := by
  unfold clN
  rw [List.drop_eq_nil_of_le (by rw [List.length_take]; omega)]
  rfl
theorem clN_succ {l : List En} {i j s : Nat} (hij : i + 1 ≤ j) (hj : j < l.length) : clN l i (j + 1) s = (clN l i j s || (l[j].b.ctl && decide (l[j].b.pid = s))) := by
  unfold clN
  rw [List.take_succ_eq_append_getElem hj, List.drop_append_of_le_length (by rw [List.length_take]; omega), List.any_append]
  simp
theorem clN_end {l : List En} {i : Nat} {e : En} (he : l[i]? = some e) (ht : e.b.txn = true) (hc : e.b.ctl = false) : (clN l i l.length e.b.pid = false → openAt l i e) ∧ (clN l i l.length e.b.pid = true → ∀ d, ¬ openAt l i d) := by
  unfold clN
  rw [List.take_length]
  refine ⟨fun h => ⟨he, ht, hc, fun k c hk hkc hh => ?_⟩, fun h d ho => ?_⟩
  · rw [List.any_eq_false] at h
    have hm : c ∈ l.drop (i + 1) := by
      refine List.mem_of_getElem? (i := k - (i + 1)) ?_
      rw [List.getElem?_drop, show i + 1 + (k - (i + 1)) = k by omega]
      exact hkc
    exact h c hm (by simp [hh.1, hh.2])
  · obtain ⟨c, hm, hcc⟩ := List.any_eq_true.1 h
    obtain ⟨k, hk, rfl⟩ := List.getElem_of_mem hm
    have hd : d = e := Option.some.inj (ho.1.symm.trans he)
    have hk2 : i + 1 + k < l.length := by rw [List.length_drop] at hk; omega
    rw [List.getElem_drop] at hcc
    simp only [Bool.and_eq_true, decide_eq_true_eq] at hcc
    exact ho.2.2.2 (i + 1 + k) _ (by omega) (List.getElem?_eq_getElem hk2) ⟨hcc.1, by rw [hd]; exact hcc.2⟩
theorem not_open {l : List En} {i : Nat} {e : En} (he : l[i]? = some e) (h : e.b.txn = false ∨ e.b.ctl = true) : ∀ d, ¬ openAt l i d := fun d ho => by
  have hd : d = e := Option.some.inj (ho.1.symm.trans he)
  subst hd
  rcases h with h | h
  · rw [ho.2.1] at h; cases h
  · rw [ho.2.2.1] at h; cases h
set_option maxRecDepth 100000 in
set_option maxHeartbeats 4000000 in
theorem prodOpens_walk {a0 : Option Addr} {cap0 : Nat} {es : List En} (w : World) (hr : RowsAt enC 9 w a0 es) (hin : ∀ e ∈ es, BIn w e.b e.a e.c) (hlen : es.length * 72 ≤ reachBytes) :
    Calls Try.prog 4 #[.slice a0 es.length cap0] w fun e w' => e = .returned (.bool true) ∧ Below w.heap.size w w' := by
  have LD : Hid (∀ W, Below w.heap.size w W → Calls Try.prog 6 #[.slice a0 es.length cap0] W fun e w' => LaidP W es e w') := fun W hW =>
    laid_any (fun i hi => by
      obtain ⟨g, off, e1, e2, e3⟩ := hr i hi
      exact ⟨g, off, e1, Nat.lt_of_lt_of_le e2 hW.size, fun j hj => (hW.cell (p := ⟨g, off + i * 9 + j, none⟩) e2).trans (e3 j hj)⟩) (fun e he => ⟨(hin e he).at_.later hW, (hin e he).fits, (hin e he).len, (hin e he).each⟩) hlen
  have hlow := (laidL_low es (Nat.le_refl _)).2
  have VP : Hid (∀ e ∈ (laidL es es.length).log, e.b.pid < 18446744073709551616) := fun e he => by
    obtain ⟨e0, h0, h1, h2, h3, h4⟩ := laid_from es (Nat.le_refl _) e he
    rw [h4]
    exact (hin e0 h0).fits.pid
  have OKN : Hid (∀ i e, openAt (laidL es es.length).log i e → ∃ k, (laidL es es.length).K e.b.pid = some k ∧ k.op = true ∧ 0 ≤ k.fi ∧ k.fi ≤ e.b.base) := fun i e hi => by
    obtain ⟨k, i', e', k1, k2, k3, k4, k5, k6, k7, k8, k9⟩ := open_known (KInv.laid es (Nat.le_refl _)) (KLs.laid es (Nat.le_refl _)) (KOp.laid es (Nat.le_refl _)) (KBa.laid es (Nat.le_refl _)) hi
    exact ⟨k, k1, k2, k8, k9⟩
  have K1 := hide (KInv.laid es (Nat.le_refl es.length))
  have K2 := hide (KLs.laid es (Nat.le_refl es.length))
  have K3 := hide (KOp.laid es (Nat.le_refl es.length))
  have K4 := hide (KBa.laid es (Nat.le_refl es.length))
  unfold reachBytes at hlen
  clear hr hin
  go_enter Try.func4, Try.ntmps4
  go_wp2_with fail
  refine (awake9_any w).mono ?_
  rintro e w1 ⟨rfl, b1⟩
  have B1 := hide b1
  clear b1
  go_wp2_with fail
  refine (unhide LD w1 (unhide B1)).mono ?_
  rintro e w2 ⟨lv, rfl, ls2⟩
  have B2 := hide ((unhide B1).trans (ls2.bel.mono (unhide B1).size))
  obtain ⟨la, lc, rfl⟩ := ls2.row.shape
  have HR := hide ls2.row.rows
  have LSH := hide ls2
  clear ls2 B1 LD
  generalize laidL es es.length = LL at *
  have hn : LL.log.length < 4611686018427387904 := by omega
  clear hlow hlen
  generalize es.length = ne at *
  go_wp2_with fail
  generalize w1.heap.size = tb at *
  go_loopw [5, 6, 26] (fun s5 s6 s26 wr => ∃ i fi op, i ≤ LL.log.length ∧ s26 = .int .i64 (i : Int) ∧ s5 = .int .i64 fi ∧ s6 = .bool op ∧ OpI LL.log i fi op ∧ Below w2.heap.size w2 wr) (fun _ _ pl _ => LL.log.length - (intOf pl).toNat)
  case atStart => exact ⟨0, 0, false, Nat.zero_le _, rfl, rfl, rfl, .inl ⟨rfl, rfl, fun j d hj => absurd hj (Nat.not_lt_zero _)⟩, Below.refl _ _⟩
  case round =>
    obtain ⟨i, fi, op, hi, rfl, rfl, rfl, oi, br⟩ := hrel
    have OI := hide oi
    clear oi
    by_cases hil : i < LL.log.length
    · have hil' : (i : Int) < (LL.log.length : Int) := by omega
      have hz : (0 : Int) ≤ (i : Int) := by omega
      have hw1 : IntKind.i64.wrap ((i : Int) + 1) = (i : Int) + 1 := wrap_low (by omega) (by omega)
      obtain ⟨pb, off, rfl, y0, y1, y2, y3, y4, y5, y6, y7, y8⟩ := (unhide HR).en br hil
      have VPI := hide (unhide VP _ (List.getElem_mem hil))
      have XI : Hid (LL.log[i]? = some LL.log[i]) := List.getElem?_eq_getElem hil
      generalize LL.log[i] = x at *
      obtain ⟨⟨xbase, xepoch, xpid, xpep, xseq, xtxn, xctl, xcom, xvs⟩, xa, xc⟩ := x
      simp only at *
      have hA : Below wr.heap.size wr (wr.alloc (.cells #[.int .i64 xbase, .int .i64 xepoch, .int .u64 (xpid : Int), .int .i64 xpep, .int .i64 xseq, .bool xtxn, .bool xctl, .bool xcom, .slice xa xvs.length xc] 30)) := (Below.refl _ _).alloc (Nat.le_refl _) _
      have BX : Hid ((wr.alloc (.cells #[.int .i64 xbase, .int .i64 xepoch, .int .u64 (xpid : Int), .int .i64 xpep, .int .i64 xseq, .bool xtxn, .bool xctl, .bool xcom, .slice xa xvs.length xc] 30)).heap[wr.heap.size]? = some (.cells #[.int .i64 xbase, .int .i64 xepoch, .int .u64 (xpid : Int), .int .i64 xpep, .int .i64 xseq, .bool xtxn, .bool xctl, .bool xcom, .slice xa xvs.length xc] 30)) := heap_new _ _
      have B3 := hide (br.trans (hA.mono br.size))
      clear br hA
      go_upto_region 8 with fail
      generalize wr.alloc (.cells #[.int .i64 xbase, .int .i64 xepoch, .int .u64 (xpid : Int), .int .i64 xpep, .int .i64 xseq, .bool xtxn, .bool xctl, .bool xcom, .slice xa xvs.length xc] 30) = W3 at *
      generalize wr.heap.size = gx at *
      have q5 : W3.cell? ⟨gx, 5, none⟩ = some (.bool xtxn) := cell_of (unhide BX) 5
      have q6 : W3.cell? ⟨gx, 6, none⟩ = some (.bool xctl) := cell_of (unhide BX) 6
      clear y0 y1 y2 y3 y4 y5 y6 y7 y8
      cases xtxn with
      | false =>
        have OS : Hid (OpI LL.log (i + 1) fi op) := (unhide OI).skip (not_open (unhide XI) (.inl rfl))
        clear OI XI
        go_wp2
        go_roundw
        case rel =>
          first
            | exact ⟨i + 1, fi, op, by omega, by go_num, rfl, rfl, unhide OS, unhide B3⟩
            | ((repeat apply Exists.intro); refine ⟨?_, ?_⟩; rotate_left; · (repeat' (first | exact rfl | apply And.intro)); · exact ⟨i + 1, fi, op, by omega, by go_num, rfl, rfl, unhide OS, unhide B3⟩)
        case measure => simp [intOf]; omega
      | true =>
        cases xctl with
        | true =>
          have OS : Hid (OpI LL.log (i + 1) fi op) := (unhide OI).skip (not_open (unhide XI) (.inr rfl))
          clear OI XI
          go_wp2
          go_roundw
          case rel =>
            first
              | exact ⟨i + 1, fi, op, by omega, by go_num, rfl, rfl, unhide OS, unhide B3⟩
              | ((repeat apply Exists.intro); refine ⟨?_, ?_⟩; rotate_left; · (repeat' (first | exact rfl | apply And.intro)); · exact ⟨i + 1, fi, op, by omega, by go_num, rfl, rfl, unhide OS, unhide B3⟩)
          case measure => simp [intOf]; omega
        | false =>
          have CE := hide (clN_end (unhide XI) rfl rfl)
          simp only at CE
          go_wp2_with fail
          clear q5 q6
          go_loopw [9, 10] (fun s9 s10 wq => ∃ j, i + 1 ≤ j ∧ j ≤ LL.log.length ∧ s10 = .int .i64 (j : Int) ∧ s9 = .bool (clN LL.log i j xpid) ∧ Below W3.heap.size W3 wq) (fun _ pl _ => LL.log.length - (intOf pl).toNat)
          case atStart => exact ⟨i + 1, Nat.le_refl _, by omega, by simp, by rw [clN_start], Below.refl _ _⟩
          case round =>
            obtain ⟨j, hj1, hj2, rfl, rfl, bq⟩ := hrel
            have BQ := hide bq
            have BXQ := hide (below_keep bq (unhide BX))
            have BQ2 := hide ((unhide B3).trans (bq.mono (unhide B3).size))
            by_cases hjl : j < LL.log.length
            · have hjl' : (j : Int) < (LL.log.length : Int) := by omega
              have hzj : (0 : Int) ≤ (j : Int) := by omega
              have hwj : IntKind.i64.wrap ((j : Int) + 1) = (j : Int) + 1 := wrap_low (by omega) (by omega)
              obtain ⟨pb', off', epb, y0, y1, y2, y3, y4, y5, y6, y7, y8⟩ := (unhide HR).en (unhide BQ2) hjl
              cases epb
              have CS := hide (clN_succ (s := xpid) hj1 hjl)
              have u2 : wr.cell? ⟨gx, 2, none⟩ = some (.int .u64 (xpid : Int)) := cell_of (unhide BXQ) 2
              clear y0 y1 y3 y4 y5 y7 y8 bq BXQ
              generalize LL.log[j] = y at *
              obtain ⟨⟨ybase, yepoch, ypid, ypep, yseq, ytxn, yctl, ycom, yvs⟩, ya, yc⟩ := y
              simp only at *
              generalize clN LL.log i j xpid = cn at *
              cases cn with
              | true =>
                have cs2 : clN LL.log i (j + 1) xpid = true := by have := unhide CS; simpa using this
                have CS2 := hide cs2
                clear cs2
                clear CS
                go_wp2_with fail
                go_quiet (fail)
                go_wp2
                go_roundw
                case rel =>
                  first
                    | exact ⟨j + 1, by omega, by omega, by go_num, by rw [unhide CS2], below_drewN3 (unhide BQ) _⟩
                    | ((repeat apply Exists.intro); refine ⟨?_, ?_⟩; rotate_left; · (repeat' (first | exact rfl | apply And.intro)); · exact ⟨j + 1, by omega, by omega, by go_num, by rw [unhide CS2], below_drewN3 (unhide BQ) _⟩)
                case measure => simp [intOf]; omega
              | false =>
                cases yctl with
                | false =>
                  have cs2 : clN LL.log i (j + 1) xpid = false := by have := unhide CS; simpa using this
                  have CS2 := hide cs2
                  clear cs2
                  clear CS
                  go_wp2_with fail
                  go_quiet (fail)
                  go_wp2
                  go_roundw
                  case rel =>
                    first
                      | exact ⟨j + 1, by omega, by omega, by go_num, by rw [unhide CS2], below_drewN3 (unhide BQ) _⟩
                      | ((repeat apply Exists.intro); refine ⟨?_, ?_⟩; rotate_left; · (repeat' (first | exact rfl | apply And.intro)); · exact ⟨j + 1, by omega, by omega, by go_num, by rw [unhide CS2], below_drewN3 (unhide BQ) _⟩)
                  case measure => simp [intOf]; omega
                | true =>
                  by_cases hp : ypid = xpid
                  · have hp' : (ypid : Int) = (xpid : Int) := by omega
                    have cs2 : clN LL.log i (j + 1) xpid = true := by have := unhide CS; simpa [hp] using this
                    have CS2 := hide cs2
                    clear cs2
                    clear CS
                    subst hp
                    go_wp2_with fail
                    go_quiet (fail)
                    go_wp2
                    go_roundw
                    case rel =>
                      first
                        | exact ⟨j + 1, by omega, by omega, by go_num, by rw [unhide CS2], below_drewN3 (unhide BQ) _⟩
                        | ((repeat apply Exists.intro); refine ⟨?_, ?_⟩; rotate_left; · (repeat' (first | exact rfl | apply And.intro)); · exact ⟨j + 1, by omega, by omega, by go_num, by rw [unhide CS2], below_drewN3 (unhide BQ) _⟩)
                    case measure => simp [intOf]; omega
                  · have hp' : ¬ (ypid : Int) = (xpid : Int) := by omega
                    have cs2 : clN LL.log i (j + 1) xpid = false := by have := unhide CS; simpa [hp] using this
                    have CS2 := hide cs2
                    clear cs2
                    have hd : decide ((ypid : Int) = (xpid : Int)) = false := decide_eq_false hp'
                    clear CS
                    go_wp2_with fail
                    go_quiet (fail)
                    go_wp2
                    go_roundw
                    case rel =>
                      first
                        | exact ⟨j + 1, by omega, by omega, by go_num, by rw [unhide CS2]; simp; omega, below_drewN3 (unhide BQ) _⟩
                        | ((repeat apply Exists.intro); refine ⟨?_, ?_⟩; rotate_left; · (repeat' (first | exact rfl | apply And.intro)); · exact ⟨j + 1, by omega, by omega, by go_num, by rw [unhide CS2]; simp; omega, below_drewN3 (unhide BQ) _⟩)
                    case measure => simp [intOf]; omega
            · obtain rfl : j = LL.log.length := by omega
              obtain ⟨ce1, ce2⟩ := unhide CE
              cases hcn : clN LL.log i LL.log.length xpid with
              | true =>
                have OS : Hid (OpI LL.log (i + 1) fi op) := (unhide OI).skip (ce2 hcn)
                have BF := hide (unhide BQ2)
                clear ce1 ce2 CE OI XI bq BQ BXQ
                go_wp2
                go_roundw
                case rel =>
                  first
                    | exact ⟨i + 1, _, _, by omega, by go_num, rfl, rfl, unhide OS, unhide BF⟩
                    | ((repeat apply Exists.intro); refine ⟨?_, ?_⟩; rotate_left; · (repeat' (first | exact rfl | apply And.intro)); · exact ⟨i + 1, _, _, by omega, by go_num, rfl, rfl, unhide OS, unhide BF⟩)
                case measure => simp [intOf]; omega
              | false =>
                have ho := ce1 hcn
                obtain ⟨k, k1, k2, k3, k4⟩ := unhide OKN i _ ho
                simp only at k1 k4
                have KN : Hid (Calls Try.prog 7 #[.pointer (some ⟨tb, 0, none⟩), .int .u64 (xpid : Int)] wr fun e w' => AnsPost wr (.tuple #[.int .i64 k.ep, .int .i64 k.nx, .int .i64 k.fi, .bool true]) e w') := by
                  have := ((unhide LSH).later (unhide BQ2)).known (unhide VPI)
                  rw [k1] at this
                  unfold knwK at this
                  simp only [k2, if_true] at this
                  exact this
                have OF : Hid (op = false → OpI LL.log (i + 1) xbase true) := fun h => by
                  subst h
                  exact (unhide OI).first ho
                have OM : Hid (op = true → OpI LL.log (i + 1) fi true) := fun h => by
                  subst h
                  exact (unhide OI).more
                have z0 : wr.cell? ⟨gx, 0, none⟩ = some (.int .i64 xbase) := cell_of (unhide BXQ) 0
                have z2 : wr.cell? ⟨gx, 2, none⟩ = some (.int .u64 (xpid : Int)) := cell_of (unhide BXQ) 2
                have BX9 := hide (unhide BXQ)
                have hn3 : ¬ k.fi < 0 := by omega
                have hn4 : ¬ xbase < k.fi := by omega
                clear ce1 ce2 CE OI XI bq BQ BXQ ho k1 k2 k3 k4 hcn
                cases op with
                | false =>
                  go_wp2_with fail
                  refine (unhide KN).mono ?_
                  rintro e w5 ⟨rfl, b5⟩
                  have v0 : w5.cell? ⟨gx, 0, none⟩ = some (.int .i64 xbase) := cell_of (below_keep b5 (unhide BX9)) 0
                  have BF := hide ((unhide BQ2).trans (b5.mono (unhide BQ2).size))
                  have OS := hide (unhide OF (by first | rfl | trivial))
                  clear KN b5 z0 z2 BX9 OF OM
                  go_wp2
                  go_roundw
                  case rel =>
                    first
                      | exact ⟨i + 1, _, _, by omega, by go_num, rfl, rfl, unhide OS, unhide BF⟩
                      | ((repeat apply Exists.intro); refine ⟨?_, ?_⟩; rotate_left; · (repeat' (first | exact rfl | apply And.intro)); · exact ⟨i + 1, _, _, by omega, by go_num, rfl, rfl, unhide OS, unhide BF⟩)
                  case measure => simp [intOf]; omega
                | true =>
                  go_wp2_with fail
                  refine (unhide KN).mono ?_
                  rintro e w5 ⟨rfl, b5⟩
                  have v0 : w5.cell? ⟨gx, 0, none⟩ = some (.int .i64 xbase) := cell_of (below_keep b5 (unhide BX9)) 0
                  have BF := hide ((unhide BQ2).trans (b5.mono (unhide BQ2).size))
                  have OS := hide (unhide OM (by first | rfl | trivial))
                  clear KN b5 z0 z2 BX9 OF OM
                  go_wp2
                  go_roundw
                  case rel =>
                    first
                      | exact ⟨i + 1, _, _, by omega, by go_num, rfl, rfl, unhide OS, unhide BF⟩
                      | ((repeat apply Exists.intro); refine ⟨?_, ?_⟩; rotate_left; · (repeat' (first | exact rfl | apply And.intro)); · exact ⟨i + 1, _, _, by omega, by go_num, rfl, rfl, unhide OS, unhide BF⟩)
                  case measure => simp [intOf]; omega
    · obtain rfl : i = LL.log.length := by omega
      have hil' : ¬ (LL.log.length : Int) < (LL.log.length : Int) := by omega
      have UN := hide (((unhide LSH).later br).unst (unhide K1) (unhide K2) (unhide K3) (unhide K4))
      have B3 := hide ((unhide B2).trans (br.mono (unhide B2).size))
      clear HR VP OKN LSH br
      go_wp2_with fail
      refine (unhide UN).mono ?_
      rintro e w5 ⟨fi2, op2, ⟨rfl, b5⟩, u1, u2⟩
      have BF := hide ((unhide B3).trans (b5.mono (unhide B3).size))
      have hq : op2 = op ∧ fi2 = fi := by
        rcases unhide OI with ⟨h1, h2, h3⟩ | ⟨h1, j, d, h2, h3, h4, h5⟩
        · obtain ⟨a1, a2⟩ := u2 (fun j d ho => h3 j d (at_lt ho.1) ho)
          exact ⟨by rw [a1, h1], by rw [a2, h2]⟩
        · obtain ⟨a1, a2⟩ := u1 j d h3 h5
          exact ⟨by rw [a1, h1], by rw [a2, h4]⟩
      obtain ⟨rfl, rfl⟩ := hq
      clear UN b5 u1 u2 OI K1 K2 K3 K4
      go_wp2
      go_returns
      exact ⟨by simp, unhide BF⟩
end Go.Proofs.Ytjocjnjdmmihnaa
