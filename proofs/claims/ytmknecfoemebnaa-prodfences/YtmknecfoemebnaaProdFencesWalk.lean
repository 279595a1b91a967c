/-
  ProdFences, walked. Conditions: the arguments as they are read.
-/
import Derived.Test.YtmknecfoemebnaaQj9
namespace Go.Proofs.Ytmknecfoemebnaa
open Go.RowKit
set_option linter.unusedVariables false

theorem fence_cases {b : Bt} (hc : chk b = 0) (h0 : b.pid ≠ 0) (o : Option Kn) :
    (chkK b (atK o b.pep) = (0, false, 10) ∧ ∃ y1 y2 y3, knwK o = (y1, y2, y3, true) ∧ b.pep < y1) ∨
    (((∃ x1 x2, chkK b (atK o b.pep) = (x1, x2, 0)) ∨ chkK b (atK o b.pep) = (0, false, 11)) ∧ (knwK o = (0, 0, 0, false) ∨ ∃ y1 y2 y3, knwK o = (y1, y2, y3, true) ∧ ¬ b.pep < y1)) := by
  have hn : ¬ chk b ≠ 0 := fun h => h hc
  have main : ∀ k : Kn, ¬ b.pep < k.ep → (∃ x1 x2, chkK b k = (x1, x2, 0)) ∨ chkK b k = (0, false, 11) := by
    intro k hk
    unfold chkK
    rw [if_neg hn, if_neg h0, if_neg hk]
    split
    · exact .inl ⟨_, _, rfl⟩
    · split
      · exact .inl ⟨_, _, rfl⟩
      · split
        · exact .inl ⟨_, _, rfl⟩
        · exact .inr rfl
  cases o with
  | none => exact .inr ⟨main _ (Int.lt_irrefl _), .inl rfl⟩
  | some k =>
    have e2 : atK (some k) b.pep = if k.ep < b.pep then ⟨b.pep, 0, k.op, k.fi, []⟩ else k := rfl
    by_cases hlt : k.ep < b.pep
    · rw [e2, if_pos hlt]
      exact .inr ⟨main _ (Int.lt_irrefl _), .inr ⟨_, _, _, rfl, by omega⟩⟩
    · rw [e2, if_neg hlt]
      by_cases h2 : b.pep < k.ep
      · refine .inl ⟨?_, _, _, _, rfl, h2⟩
        unfold chkK
        rw [if_neg hn, if_neg h0, if_pos h2]
      · exact .inr ⟨main _ h2, .inr ⟨_, _, _, rfl, h2⟩⟩
theorem LS.known {w W : World} {tb c : Nat} {K : Nat → Option Kn} {log : List En} {lv : Value} (h : LS w W tb K c log lv) {s : Nat} (h64 : s < 18446744073709551616) :
    Calls Try.prog 9 #[.pointer (some ⟨tb, 0, none⟩), .int .u64 (s : Int)] W fun e w' => AnsPost W (tup4 (knwK (K s))) e w' := by
  obtain ⟨mv, av, m, n, R, t1, _⟩ := h.tab
  exact known_tb t1 h64
set_option maxRecDepth 100000 in
set_option maxHeartbeats 2000000 in
theorem prodFences_walk {a0 : Option Addr} {cap0 : Nat} {es : List En} (b : Bt) (a : Option Addr) (cap : Nat) (w : World) (hr : RowsAt enC 9 w a0 es) (hin : ∀ e ∈ es, BIn w e.b e.a e.c) (hlen : es.length * 72 ≤ reachBytes) (hb : BIn w b a cap) :
    Calls Try.prog 5 #[.slice a0 es.length cap0, bv b a cap] w fun e w' => e = .returned (.bool true) ∧ Below w.heap.size w w' := by
  have h64 := hb.fits.pid
  have hA : Below w.heap.size w (w.alloc (.cells (btC b a cap) 30)) := (Below.refl _ _).alloc (Nat.le_refl _) _
  have BX : Hid ((w.alloc (.cells (btC b a cap) 30)).heap[w.heap.size]? = some (.cells (btC b a cap) 30)) := heap_new _ _
  have HA := hide hA
  have RA := hide hb.at_
  have LD : Hid (∀ W, Below w.heap.size w W → Calls Try.prog 8 #[.slice a0 es.length cap0] W fun e w' => LaidP W es e w') := fun W hW =>
    laid_any (fun i hi => by
      obtain ⟨g, off, e1, e2, e3⟩ := hr i hi
      exact ⟨g, off, e1, Nat.lt_of_lt_of_le e2 hW.size, fun j hj => (hW.cell (p := ⟨g, off + i * 9 + j, none⟩) e2).trans (e3 j hj)⟩) (fun e he => ⟨(hin e he).at_.later hW, (hin e he).fits, (hin e he).len, (hin e he).each⟩) hlen
  have DC : Hid (∀ W, RAt W a b.vs → Calls Try.prog 11 #[bv b a cap] W fun e w' => IntPost W (chk b) e w') := fun W hp => doccheck_any b a cap W hp
  have FC : Hid (chk b = 0 → b.pid ≠ 0 → ∀ o, (chkK b (atK o b.pep) = (0, false, 10) ∧ ∃ y1 y2 y3, knwK o = (y1, y2, y3, true) ∧ b.pep < y1) ∨ (((∃ x1 x2, chkK b (atK o b.pep) = (x1, x2, 0)) ∨ chkK b (atK o b.pep) = (0, false, 11)) ∧ (knwK o = (0, 0, 0, false) ∨ ∃ y1 y2 y3, knwK o = (y1, y2, y3, true) ∧ ¬ b.pep < y1))) := fun h1 h2 o => fence_cases h1 h2 o
  have FZ : Hid (chk b = 0 → b.pid = 0 → ∀ k, chkK b k = (0, false, 0)) := fun h1 h2 k => by
    unfold chkK
    rw [if_neg (fun h => h h1), if_pos h2]
  have CKA : Hid (∀ {W0 W : World} {tb c : Nat} {K : Nat → Option Kn} {log : List En} {lv : Value}, LS W0 W tb K c log lv → RAt W a b.vs → Calls Try.prog 10 #[.pointer (some ⟨tb, 0, none⟩), bv b a cap] W fun e w' => AnsPost W (tup3 (chkK b (atK (K b.pid) b.pep))) e w') := fun h hp => h.check b a cap hp h64
  generalize hck : chk b = ck at *
  clear hb hA hr hin hlen hck
  unfold bv at DC CKA ⊢
  unfold btC at HA BX
  go_enter Try.func5, Try.ntmps5
  go_wp2_with fail
  generalize w.alloc (.cells #[.int .i64 b.base, .int .i64 b.epoch, .int .u64 (b.pid : Int), .int .i64 b.pep, .int .i64 b.seq, .bool b.txn, .bool b.ctl, .bool b.com, .slice a b.vs.length cap] 30) = W0 at *
  refine (awake9_any W0).mono ?_
  rintro e w1 ⟨rfl, b1⟩
  have B1 := hide ((unhide HA).trans (b1.mono (unhide HA).size))
  have X1 := hide (below_keep b1 (unhide BX))
  clear b1 HA BX
  go_wp2_with fail
  refine (unhide LD w1 (unhide B1)).mono ?_
  rintro e w2 ⟨lv, rfl, ls2⟩
  have LS2 := hide ls2
  have B2 := hide ((unhide B1).trans (ls2.bel.mono (unhide B1).size))
  have X2 := hide (below_keep ls2.bel (unhide X1))
  obtain ⟨la, lc, rfl⟩ := ls2.row.shape
  clear ls2 B1 X1 LD
  generalize (laidL es es.length).K = K at *
  generalize (laidL es es.length).log = log at *
  have RA2 := hide ((unhide RA).later (unhide B2))
  have D2 := hide (unhide DC w2 (unhide RA2))
  have z0 : w2.cell? ⟨w.heap.size, 0, none⟩ = some (.int .i64 b.base) := cell_of (unhide X2) 0
  have z1 : w2.cell? ⟨w.heap.size, 1, none⟩ = some (.int .i64 b.epoch) := cell_of (unhide X2) 1
  have z2 : w2.cell? ⟨w.heap.size, 2, none⟩ = some (.int .u64 (b.pid : Int)) := cell_of (unhide X2) 2
  have z3 : w2.cell? ⟨w.heap.size, 3, none⟩ = some (.int .i64 b.pep) := cell_of (unhide X2) 3
  have z4 : w2.cell? ⟨w.heap.size, 4, none⟩ = some (.int .i64 b.seq) := cell_of (unhide X2) 4
  have z5 : w2.cell? ⟨w.heap.size, 5, none⟩ = some (.bool b.txn) := cell_of (unhide X2) 5
  have z6 : w2.cell? ⟨w.heap.size, 6, none⟩ = some (.bool b.ctl) := cell_of (unhide X2) 6
  have z7 : w2.cell? ⟨w.heap.size, 7, none⟩ = some (.bool b.com) := cell_of (unhide X2) 7
  have z8 : w2.cell? ⟨w.heap.size, 8, none⟩ = some (.slice a b.vs.length cap) := cell_of (unhide X2) 8
  go_wp2_with fail
  refine (unhide D2).mono ?_
  rintro e w3 ⟨rfl, b3⟩
  have LS3 := hide ((unhide LS2).later b3)
  have B3 := hide ((unhide B2).trans (b3.mono (unhide B2).size))
  have X3 := hide (below_keep b3 (unhide X2))
  have RA3 := hide ((unhide RA).later (unhide B3))
  clear b3 LS2 B2 X2 RA2 D2 DC z0 z1 z2 z3 z4 z5 z6 z7 z8
  by_cases hc : ck = 0
  · subst hc
    have KN := hide ((unhide LS3).known h64)
    obtain ⟨y1, y2, y3, y4, hy⟩ : ∃ y1 y2 y3 y4, knwK (K b.pid) = (y1, y2, y3, y4) := ⟨_, _, _, _, rfl⟩
    rw [hy] at KN
    simp only [tup4] at KN
    have z2 : w3.cell? ⟨w.heap.size, 2, none⟩ = some (.int .u64 (b.pid : Int)) := cell_of (unhide X3) 2
    have HY := hide hy
    clear hy
    go_wp2_with fail
    refine (unhide KN).mono ?_
    rintro e w4 ⟨rfl, b4⟩
    have LS4 := hide ((unhide LS3).later b4)
    have B4 := hide ((unhide B3).trans (b4.mono (unhide B3).size))
    have X4 := hide (below_keep b4 (unhide X3))
    have RA4 := hide ((unhide RA).later (unhide B4))
    clear b4 LS3 B3 X3 RA3 KN z2
    have CK := unhide CKA (unhide LS4) (unhide RA4)
    obtain ⟨x1, x2, x3, hx⟩ : ∃ x1 x2 x3, chkK b (atK (K b.pid) b.pep) = (x1, x2, x3) := ⟨_, _, _, rfl⟩
    rw [hx] at CK
    simp only [tup3] at CK
    have CK2 := hide CK
    have HX := hide hx
    clear CK hx CKA
    have z0 : w4.cell? ⟨w.heap.size, 0, none⟩ = some (.int .i64 b.base) := cell_of (unhide X4) 0
    have z1 : w4.cell? ⟨w.heap.size, 1, none⟩ = some (.int .i64 b.epoch) := cell_of (unhide X4) 1
    have z2 : w4.cell? ⟨w.heap.size, 2, none⟩ = some (.int .u64 (b.pid : Int)) := cell_of (unhide X4) 2
    have z3 : w4.cell? ⟨w.heap.size, 3, none⟩ = some (.int .i64 b.pep) := cell_of (unhide X4) 3
    have z4 : w4.cell? ⟨w.heap.size, 4, none⟩ = some (.int .i64 b.seq) := cell_of (unhide X4) 4
    have z5 : w4.cell? ⟨w.heap.size, 5, none⟩ = some (.bool b.txn) := cell_of (unhide X4) 5
    have z6 : w4.cell? ⟨w.heap.size, 6, none⟩ = some (.bool b.ctl) := cell_of (unhide X4) 6
    have z7 : w4.cell? ⟨w.heap.size, 7, none⟩ = some (.bool b.com) := cell_of (unhide X4) 7
    have z8 : w4.cell? ⟨w.heap.size, 8, none⟩ = some (.slice a b.vs.length cap) := cell_of (unhide X4) 8
    go_wp2_with fail
    refine (unhide CK2).mono ?_
    rintro e w5 ⟨rfl, b5⟩
    have B5 := hide ((unhide B4).trans (b5.mono (unhide B4).size))
    have X5 := hide (below_keep b5 (unhide X4))
    clear b5 LS4 B4 X4 RA4 CK2 z0 z1 z2 z3 z4 z5 z6 z7 z8
    have z2 : w5.cell? ⟨w.heap.size, 2, none⟩ = some (.int .u64 (b.pid : Int)) := cell_of (unhide X5) 2
    have z3 : w5.cell? ⟨w.heap.size, 3, none⟩ = some (.int .i64 b.pep) := cell_of (unhide X5) 3
    by_cases h0 : b.pid = 0
    · have hz := (unhide HX).symm.trans (unhide FZ (by first | trivial | rfl) h0 _)
      injection hz with hz1 hz2
      injection hz2 with hz2 hz3
      subst hz1 hz2 hz3
      have h0' : ((b.pid : Int) == 0) = true := by simp [h0]
      have h0'' : (b.pid : Int) = 0 := by omega
      clear FC FZ HX HY
      go_wp2
      go_returns
      exact ⟨rfl, unhide B5⟩
    · have h0' : ((b.pid : Int) == 0) = false := by simp [h0]
      have h0'' : ¬ (b.pid : Int) = 0 := by omega
      have hf := unhide FC (by first | trivial | rfl) h0 (K b.pid)
      rw [unhide HX, unhide HY] at hf
      clear FC FZ HX HY
      rcases hf with ⟨e1, u1, u2, u3, e2, e3⟩ | ⟨e1, e2⟩
      · injection e1 with e1 e1b
        injection e1b with e1b e1c
        subst e1 e1b e1c
        injection e2 with e2 e2b
        injection e2b with e2b e2c
        injection e2c with e2c e2d
        subst e2 e2b e2c e2d
        go_wp2
        go_returns
        exact ⟨rfl, unhide B5⟩
      · rcases e1 with ⟨v1, v2, e1⟩ | e1
        · injection e1 with e1 e1b
          injection e1b with e1b e1c
          subst e1 e1b e1c
          rcases e2 with e2 | ⟨u1, u2, u3, e2, e3⟩
          · injection e2 with e2 e2b
            injection e2b with e2b e2c
            injection e2c with e2c e2d
            subst e2 e2b e2c e2d
            go_wp2
            go_returns
            exact ⟨rfl, unhide B5⟩
          · injection e2 with e2 e2b
            injection e2b with e2b e2c
            injection e2c with e2c e2d
            subst e2 e2b e2c e2d
            go_wp2
            go_returns
            exact ⟨rfl, unhide B5⟩
        · injection e1 with e1 e1b
          injection e1b with e1b e1c
          subst e1 e1b e1c
          rcases e2 with e2 | ⟨u1, u2, u3, e2, e3⟩
          · injection e2 with e2 e2b
            injection e2b with e2b e2c
            injection e2c with e2c e2d
            subst e2 e2b e2c e2d
            go_wp2
            go_returns
            exact ⟨rfl, unhide B5⟩
          · injection e2 with e2 e2b
            injection e2b with e2b e2c
            injection e2c with e2c e2d
            subst e2 e2b e2c e2d
            go_wp2
            go_returns
            exact ⟨rfl, unhide B5⟩
  · have hc' : ((ck : Int) != 0) = true := by simp; omega
    have hc'' : ¬ (ck : Int) = 0 := by omega
    clear FC FZ CKA
    go_wp2
    go_returns
    exact ⟨rfl, unhide B3⟩
end Go.Proofs.Ytmknecfoemebnaa
