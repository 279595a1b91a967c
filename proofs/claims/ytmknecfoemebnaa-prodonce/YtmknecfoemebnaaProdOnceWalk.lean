/-
  ProdOnce, walked. Conditions: the arguments as they are read.
-/
import Derived.Test.YtmknecfoemebnaaQq9
namespace Go.Proofs.Ytmknecfoemebnaa
open Go.RowKit
set_option linter.unusedVariables false

/-- The number that comes next behind the first k, as the walk sees it. -/
def nxK (log : List En) (k : Nat) (s : Nat) (ep : Int) : Int := nxtL (log.take k) s ep
theorem nxK_zero (log : List En) (s : Nat) (ep : Int) : nxK log 0 s ep = 0 := rfl
theorem nxK_hit {log : List En} {k : Nat} (hk : k < log.length) {s : Nat} {ep : Int} (h1 : log[k].b.pid = s) (h2 : log[k].b.pep = ep) (h3 : log[k].b.ctl = false) : nxK log (k + 1) s ep = IntKind.i64.wrap (log[k].b.seq + (log[k].b.vs.length : Int)) := by
  unfold nxK
  rw [nxtL_take hk]
  unfold nxtF
  rw [if_pos ⟨h1, h2, h3⟩]
theorem nxK_not {log : List En} {k : Nat} (hk : k < log.length) {s : Nat} {ep : Int} (h : ¬ (log[k].b.pid = s ∧ log[k].b.pep = ep ∧ log[k].b.ctl = false)) : nxK log (k + 1) s ep = nxK log k s ep := by
  unfold nxK
  rw [nxtL_take hk]
  unfold nxtF
  rw [if_neg h]
/-- What a log is whose batches follow one another. -/
def OnceL (log : List En) : Prop := ∀ i (h : i < log.length), (log[i]).b.pid ≠ 0 → (∀ j (hj : j < i), (log[j]).b.pid = (log[i]).b.pid → (log[j]).b.pep ≤ (log[i]).b.pep) ∧ ((log[i]).b.ctl = false → (log[i]).b.seq = nxK log i (log[i]).b.pid (log[i]).b.pep)
set_option maxRecDepth 100000 in
set_option maxHeartbeats 2000000 in
theorem prodOnce_walk {a0 : Option Addr} {cap0 : Nat} {es : List En} (w : World) (hr : RowsAt enC 9 w a0 es) (hin : ∀ e ∈ es, BIn w e.b e.a e.c) (hlen : es.length * 72 ≤ reachBytes) :
    Calls Try.prog 3 #[.slice a0 es.length cap0] w fun e w' => e = .returned (.bool true) ∧ Below w.heap.size w w' := by
  have LD : Hid (∀ W, Below w.heap.size w W → Calls Try.prog 8 #[.slice a0 es.length cap0] W fun e w' => LaidP W es e w') := fun W hW =>
    laid_any (fun i hi => by
      obtain ⟨g, off, e1, e2, e3⟩ := hr i hi
      exact ⟨g, off, e1, Nat.lt_of_lt_of_le e2 hW.size, fun j hj => (hW.cell (p := ⟨g, off + i * 9 + j, none⟩) e2).trans (e3 j hj)⟩) (fun e he => ⟨(hin e he).at_.later hW, (hin e he).fits, (hin e he).len, (hin e he).each⟩) hlen
  have hlow := (laidL_low es (Nat.le_refl _)).2
  have KI : Hid (OnceL (laidL es es.length).log) := (KInv.laid es (Nat.le_refl _)).once
  unfold reachBytes at hlen
  clear hr hin
  go_enter Try.func3, Try.ntmps3
  go_wp2_with fail
  refine (awake9_any w).mono ?_
  rintro e w1 ⟨rfl, b1⟩
  have B1 := hide b1
  clear b1
  go_wp2_with fail
  refine (unhide LD w1 (unhide B1)).mono ?_
  rintro e w2 ⟨lv, rfl, ls2⟩
  have B2 := hide ((unhide B1).trans (ls2.bel.mono (unhide B1).size))
  obtain ⟨la, lc, rfl⟩ := ls2.row.shape
  have HR := hide ls2.row.rows
  clear ls2 B1 LD
  generalize (laidL es es.length).log = log at *
  have hn : log.length < 4611686018427387904 := by omega
  clear hlow hlen
  go_wp2_with fail
  go_loopw [19] (fun s19 wr => ∃ i, i ≤ log.length ∧ s19 = .int .i64 (i : Int) ∧ Below w2.heap.size w2 wr) (fun pl _ => log.length - (intOf pl).toNat)
  case atStart => exact ⟨0, Nat.zero_le _, rfl, Below.refl _ _⟩
  case round =>
    obtain ⟨i, hi, rfl, br⟩ := hrel
    have BR := hide br
    by_cases hil : i < log.length
    · have hil' : (i : Int) < (log.length : Int) := by omega
      have hz : (0 : Int) ≤ (i : Int) := by omega
      have hw1 : IntKind.i64.wrap ((i : Int) + 1) = (i : Int) + 1 := wrap_low (by omega) (by omega)
      obtain ⟨pb, off, rfl, y0, y1, y2, y3, y4, y5, y6, y7, y8⟩ := (unhide HR).en br hil
      have ON := hide (unhide KI i hil)
      generalize hx : log[i] = x at *
      obtain ⟨⟨xbase, xepoch, xpid, xpep, xseq, xtxn, xctl, xcom, xvs⟩, xa, xc⟩ := x
      simp only at *
      have HXI := hide hx
      have hA : Below wr.heap.size wr (wr.alloc (.cells #[.int .i64 xbase, .int .i64 xepoch, .int .u64 (xpid : Int), .int .i64 xpep, .int .i64 xseq, .bool xtxn, .bool xctl, .bool xcom, .slice xa xvs.length xc] 30)) := (Below.refl _ _).alloc (Nat.le_refl _) _
      have BX : Hid ((wr.alloc (.cells #[.int .i64 xbase, .int .i64 xepoch, .int .u64 (xpid : Int), .int .i64 xpep, .int .i64 xseq, .bool xtxn, .bool xctl, .bool xcom, .slice xa xvs.length xc] 30)).heap[wr.heap.size]? = some (.cells #[.int .i64 xbase, .int .i64 xepoch, .int .u64 (xpid : Int), .int .i64 xpep, .int .i64 xseq, .bool xtxn, .bool xctl, .bool xcom, .slice xa xvs.length xc] 30)) := heap_new _ _
      have B3 := hide (br.trans (hA.mono br.size))
      clear br hx hA
      go_upto_region 7 with fail
      generalize wr.alloc (.cells #[.int .i64 xbase, .int .i64 xepoch, .int .u64 (xpid : Int), .int .i64 xpep, .int .i64 xseq, .bool xtxn, .bool xctl, .bool xcom, .slice xa xvs.length xc] 30) = W3 at *
      generalize wr.heap.size = gx at *
      have q2 : W3.cell? ⟨gx, 2, none⟩ = some (.int .u64 (xpid : Int)) := cell_of (unhide BX) 2
      by_cases h0 : xpid = 0
      · have h0' : (xpid : Int) = 0 := by omega
        go_wp2
        go_roundw
        case rel => exact ⟨i + 1, by omega, by go_num, unhide B3⟩
        case measure => simp [intOf]; omega
      · have h0' : ¬ (xpid : Int) = 0 := by omega
        obtain ⟨o1, o2⟩ := unhide ON h0
        have O1 := hide o1
        have O2 := hide o2
        clear ON o1 o2 KI
        go_wp2_with fail
        clear BR y0 y1 y2 y3 y4 y5 y6 y7 y8
        go_loopw [7, 8] (fun s7 s8 wq => ∃ k, k ≤ i ∧ s8 = .int .i64 (k : Int) ∧ s7 = .int .i64 (nxK log k xpid xpep) ∧ Below W3.heap.size W3 wq) (fun _ pl _ => i - (intOf pl).toNat)
        case atStart => exact ⟨0, Nat.zero_le _, rfl, rfl, Below.refl _ _⟩
        case round =>
          obtain ⟨k, hk, rfl, rfl, bq⟩ := hrel
          have BQ := hide bq
          have BX2 := hide (below_keep bq (unhide BX))
          have B4 := hide ((unhide B3).trans (bq.mono (unhide B3).size))
          have v2 : wr.cell? ⟨gx, 2, none⟩ = some (.int .u64 (xpid : Int)) := cell_of (unhide BX2) 2
          have v3 : wr.cell? ⟨gx, 3, none⟩ = some (.int .i64 xpep) := cell_of (unhide BX2) 3
          have v4 : wr.cell? ⟨gx, 4, none⟩ = some (.int .i64 xseq) := cell_of (unhide BX2) 4
          have v6 : wr.cell? ⟨gx, 6, none⟩ = some (.bool xctl) := cell_of (unhide BX2) 6
          clear bq
          by_cases hki : k < i
          · have hki' : (k : Int) < (i : Int) := by omega
            have hzk : (0 : Int) ≤ (k : Int) := by omega
            have hkl : k < log.length := by omega
            have hkl' : (k : Int) < (log.length : Int) := by omega
            have hwk : IntKind.i64.wrap ((k : Int) + 1) = (k : Int) + 1 := wrap_low (by omega) (by omega)
            obtain ⟨pb', off', epb, y0, y1, y2, y3, y4, y5, y6, y7, y8⟩ := (unhide HR).en (unhide B4) hkl
            cases epb
            have O1k := hide (unhide O1 k hki)
            have NH := hide (@nxK_hit log k hkl xpid xpep)
            have NN := hide (@nxK_not log k hkl xpid xpep)
            generalize log[k] = y at *
            obtain ⟨⟨ybase, yepoch, ypid, ypep, yseq, ytxn, yctl, ycom, yvs⟩, ya, yc⟩ := y
            simp only at *
            have hA : Below wr.heap.size wr (wr.alloc (.cells #[.int .i64 ybase, .int .i64 yepoch, .int .u64 (ypid : Int), .int .i64 ypep, .int .i64 yseq, .bool ytxn, .bool yctl, .bool ycom, .slice ya yvs.length yc] 30)) := (Below.refl _ _).alloc (Nat.le_refl _) _
            have BQ2 := hide ((unhide BQ).trans (hA.mono (unhide BQ).size))
            have u2 : (wr.alloc (.cells #[.int .i64 ybase, .int .i64 yepoch, .int .u64 (ypid : Int), .int .i64 ypep, .int .i64 yseq, .bool ytxn, .bool yctl, .bool ycom, .slice ya yvs.length yc] 30)).cell? ⟨gx, 2, none⟩ = some (.int .u64 (xpid : Int)) := cell_of (below_keep hA (unhide BX2)) 2
            have u3 : (wr.alloc (.cells #[.int .i64 ybase, .int .i64 yepoch, .int .u64 (ypid : Int), .int .i64 ypep, .int .i64 yseq, .bool ytxn, .bool yctl, .bool ycom, .slice ya yvs.length yc] 30)).cell? ⟨gx, 3, none⟩ = some (.int .i64 xpep) := cell_of (below_keep hA (unhide BX2)) 3
            clear hA BX2 B4 BQ
            by_cases hp : ypid = xpid
            · subst hp
              have hle := unhide O1k rfl
              have hgt : ¬ xpep < ypep := by omega
              by_cases hpe : ypep = xpep
              · subst hpe
                cases yctl with
                | true =>
                  have e := unhide NN (fun h => Bool.noConfusion h.2.2)
                  have E := hide e
                  clear e NH NN O1k
                  go_wp2
                  go_roundw
                  case rel => exact ⟨k + 1, by omega, by go_num, by rw [unhide E], unhide BQ2⟩
                  case measure => simp [intOf]; omega
                | false =>
                  have e := unhide NH rfl rfl rfl
                  have E := hide e
                  clear e NH NN O1k
                  go_wp2
                  go_roundw
                  case rel => exact ⟨k + 1, by omega, by go_num, by rw [unhide E, wrap64_i64], unhide BQ2⟩
                  case measure => simp [intOf]; omega
              · have e := unhide NN (fun h => hpe h.2.1)
                have E := hide e
                clear e NH NN O1k
                go_wp2
                go_roundw
                case rel =>
                  (repeat apply Exists.intro)
                  exact ⟨⟨k + 1, by omega, by go_num, by rw [unhide E], unhide BQ2⟩, rfl, rfl, rfl⟩
                case measure => simp [intOf]; omega
            · have hp' : ¬ (ypid : Int) = (xpid : Int) := by omega
              have e := unhide NN (fun h => hp h.1)
              have E := hide e
              clear e NH NN O1k
              go_wp2
              go_roundw
              case rel => exact ⟨k + 1, by omega, by go_num, by rw [unhide E], unhide BQ2⟩
              case measure => simp [intOf]; omega
          · obtain rfl : k = i := by omega
            have hki' : ¬ (k : Int) < (k : Int) := by omega
            cases xctl with
            | true =>
              clear O1 O2
              go_wp2
              go_roundw
              case rel => exact ⟨k + 1, by omega, by go_num, unhide B4⟩
              case measure => simp [intOf]; omega
            | false =>
              have hs : xseq = nxK log k xpid xpep := unhide O2 rfl
              subst hs
              clear O1 O2
              go_wp2
              go_roundw
              case rel => exact ⟨k + 1, by omega, by go_num, unhide B4⟩
              case measure => simp [intOf]; omega
    · obtain rfl : i = log.length := by omega
      have hil' : ¬ (log.length : Int) < (log.length : Int) := by omega
      have B3 := hide ((unhide B2).trans (br.mono (unhide B2).size))
      clear HR KI BR
      go_wp2
      go_returns
      exact ⟨rfl, unhide B3⟩
end Go.Proofs.Ytmknecfoemebnaa
