/-
  same: all that an image tells is the document's. Conditions: as it says.
-/
import Derived.Test.YtfakjcaolpmkeaaSb13
import Derived.Deep.CutBlock
import Derived.Deep.RegionHeld3
namespace Go.Proofs.Ytfakjcaolpmkeaa
open Go.RowKit Go.Maps
set_option linter.unusedVariables false

theorem num6 {i : Nat} (h : i ≤ 1000000) : Value.int .i64 (wrap64 ((i : Int) + 1)) = Value.int .i64 ((i + 1 : Nat) : Int) := by rw [wrap64_low (by omega) (by omega)]; simp
theorem wr_one {x : Int} (h1 : -1 ≤ x) (h2 : x ≤ 5000) : wrap64 (x + 1) = x + 1 ∧ IntKind.i64.wrap (x + 1) = x + 1 := ⟨wrap64_low (by omega) (by omega), wrap_low (by omega) (by omega)⟩
set_option maxRecDepth 100000 in
set_option maxHeartbeats 4000000 in
theorem same13 {w : World} {mb rb : Nat} {m : Im} (h : ImAt w mb m) (hr : RDat w rb m.abs) (hn : m.ns.length ≤ 1000) (hp : m.ps.length ≤ 1000) (hf : ∀ q ∈ m.ps.map Pm.q, q.is.length ≤ 1000000 ∧ q.rs.length ≤ 1000000 ∧ q.ts.length ≤ 1000000) :
    Calls Try.prog 7 #[.pointer (some ⟨mb, 0, none⟩), .pointer (some ⟨rb, 0, none⟩)] w fun e w' => e = .returned (.bool true) ∧ Below w.heap.size w w' := by
  have H := hide h
  have HF := hide hf
  obtain ⟨va, vb, vc, vp, na, nb, nc, np, g1, g2, g3⟩ := hr.ex
  have G2 := hide g2
  have G3 := hide g3
  have G1 := hide g1
  have hx0 := h.ctr.hx
  have hx1 := h.ctr.hl
  have K1 := hide (counts_any h)
  have K2 : Hid (∀ W, Touch (fun _ => False) w W → Calls Try.prog 13 #[.pointer (some ⟨mb, 0, none⟩)] W fun e w' => e = .returned (.tuple #[.int .u64 m.nx, .int .u64 (1001 - m.nx)]) ∧ Touch (fun _ => False) W w') := hide (fun W t => pids_any (h.quiet t))
  have KN : Hid (∀ (W : World) (y : Nat) (d : Nd), Below w.heap.size w W → m.ns[y]? = some d → Calls Try.prog 14 #[.pointer (some ⟨mb, 0, none⟩), .int .i64 y] W fun e w' => e = .returned (.tuple #[.bool d.th, .int .i64 d.tm, .int .u64 d.bk]) ∧ Hid (Below w.heap.size w w')) := hide (fun W y d hW hd => by
    have hy : y < m.ns.length := by
      rcases Nat.lt_or_ge y m.ns.length with h | h
      · exact h
      · rw [List.getElem?_eq_none h] at hd; cases hd
    have e : m.ns[y] = d := by rw [List.getElem?_eq_getElem hy] at hd; exact Option.some.inj hd
    refine (node_any (h.later hW) hy).mono ?_
    rintro e2 w2 ⟨rfl, b2⟩
    rw [e]
    exact ⟨rfl, hide (hW.trans (b2.mono hW.size))⟩)
  have KZ : Hid (∀ (W : World) (x : Int), Below w.heap.size w W → isN m.ns.length x = false → Calls Try.prog 14 #[.pointer (some ⟨mb, 0, none⟩), .int .i64 x] W fun e w' => e = .returned (.tuple #[.bool false, .int .i64 0, .int .u64 0]) ∧ Hid (Below w.heap.size w w')) := hide (fun W x hW hx => (node_none (h.later hW) hx).mono (by
    rintro e2 w2 ⟨rfl, b2⟩
    exact ⟨rfl, hide (hW.trans (b2.mono hW.size))⟩))
  have u1 : IntKind.u64.wrap (1001 - m.nx) = 1001 - m.nx := by simp [IntKind.wrap, IntKind.bits, IntKind.signed]; omega
  clear h hr hf g1 g2 g3 hx0 hx1
  have RB : Hid (∀ W, Below w.heap.size w W → W.heap[rb]? = some (.cells #[.slice va m.ns.length na, .slice vb m.ns.length nb, .slice vc m.ns.length nc, .slice vp m.ps.length np, .int .u64 m.nx, .int .i64 m.ct] 46)) := hide (fun W hW => by
    have := below_keep hW (unhide G1)
    simpa [Im.abs] using this)
  have PN : Hid (∀ (k : Nat) (q : Pt), m.abs.ps[k]? = some q → ∃ p : Pm, m.ps[k]? = some p ∧ p.q = q) := hide (fun k q hq => by
    have hq' : (m.ps.map Pm.q)[k]? = some q := hq
    rw [List.getElem?_map] at hq'
    cases hk : m.ps[k]? with
    | none => rw [hk] at hq'; cases hq'
    | some p => rw [hk] at hq'; exact ⟨p, rfl, by simpa using hq'⟩)
  generalize hnn : m.ns.length = n at *
  have HNN := hide hnn
  generalize hpp : m.ps.length = p at *
  have HPP := hide hpp
  clear hnn hpp
  generalize m.nx = nx at *
  generalize m.ct = ct at *
  go_enter Try.func7, Try.ntmps7
  go_upto_region 3 with (first
    | (go_at_call 12; refine (unhide K1).mono ?_; rintro e w1 ⟨rfl, t1⟩; have T1 := hide t1; clear t1 K1)
    | (go_at_call 13; refine (unhide K2 w1 (unhide T1)).mono ?_; rintro e w2 ⟨rfl, t2⟩; have T2 := hide ((unhide T1).trans t2); clear t2 K2))
  have B2 : Hid (Below w.heap.size w w2) := hide (below_touch (Below.refl _ _) (unhide T2) (Nat.le_refl _) (fun _ h => h.elim))
  have hz := unhide RB w2 (unhide B2)
  have r0 := cell_of hz 0
  have r3 := cell_of hz 3
  have r4 := cell_of hz 4
  have r5 := cell_of hz 5
  simp at r0 r3 r4 r5
  clear hz T1 T2
  go_wp2_with fail
  clear r0 r3 r4 r5 u1
  go_loopg [10] (n + 2) (fun gg s10 wr => ∃ (j : Nat) (x : Int), j ≤ n + 2 ∧ n + 2 - j ≤ gg ∧ s10 = .int .i64 x ∧ Hid (x = (j : Int) - 1) ∧ Hid (Below w.heap.size w wr))
  case atStart => exact ⟨0, -1, by omega, by omega, rfl, hide (by omega), B2⟩
  case round =>
    clear B2
    obtain ⟨j, x, hj, hgj, rfl, XJ, B⟩ := hrel
    by_cases hjn : j < n + 2
    · have hxl : x ≤ (n : Int) := by have := unhide XJ; omega
      have hx1 : -1 ≤ x := by have := unhide XJ; omega
      obtain ⟨w1, w2'⟩ := wr_one (x := x) hx1 (by omega)
      have NEW : Hid (Value.int .i64 (x + 1) = Value.int .i64 (x + 1) ∧ x + 1 = ((j + 1 : Nat) : Int) - 1) := hide ⟨rfl, by have := unhide XJ; omega⟩
      have AR := hide (And.intro hj (And.intro hgj hjn))
      by_cases h0 : x < 0 ∨ x = (n : Int)
      · have KX := hide (unhide KZ wr x (unhide B) (by rcases h0 with h | h <;> simp [isN] <;> omega))
        rcases h0 with h0 | h0
        · clear hj hgj hjn hx1
          go_wp2_with (go_at_call 14; refine (unhide KX).mono ?_; rintro e w3 ⟨rfl, B3⟩; clear KX)
          obtain ⟨hj, hgj, hjn⟩ := unhide AR
          go_roundg (n + 2 - (j + 1))
          case measure => omega
          case rel => exact ⟨j + 1, x + 1, by omega, by omega, rfl, hide (unhide NEW).2, B3⟩
        · have h0' : ¬ x < 0 := by omega
          have h00 : (x == (n : Int)) = true := by simpa using h0
          clear hj hgj hjn hx1 h0
          go_wp2_with (go_at_call 14; refine (unhide KX).mono ?_; rintro e w3 ⟨rfl, B3⟩; clear KX)
          obtain ⟨hj, hgj, hjn⟩ := unhide AR
          go_roundg (n + 2 - (j + 1))
          case measure => omega
          case rel => exact ⟨j + 1, x + 1, by omega, by omega, rfl, hide (unhide NEW).2, B3⟩
      · obtain ⟨y, rfl⟩ := Int.eq_ofNat_of_zero_le (show 0 ≤ x by omega)
        have hyn : y < n := by omega
        have y0 : ¬ (y : Int) < 0 := by omega
        have y1 : ¬ (y : Int) = (n : Int) := by omega
        have y2 : ((y : Int) == (n : Int)) = false := by simpa using y1
        have yz : (y : Int) < (n : Int) := by omega
        have yp : (0 : Int) ≤ (y : Int) := by omega
        obtain ⟨d, hd⟩ : ∃ d, m.ns[y]? = some d := ⟨_, List.getElem?_eq_getElem (by rw [unhide HNN]; exact hyn)⟩
        have KX := hide (unhide KN wr y d (unhide B) hd)
        obtain ⟨⟨b1, o1, e1, f1, q1⟩, ⟨b2, o2, e2, f2, q2⟩, ⟨b3, o3, e3, f3, q3⟩⟩ := unhide G2 y d hd
        subst e1 e2 e3
        have CK : Hid (∀ W, Below w.heap.size w W → W.cell? ⟨b1, o1 + y, none⟩ = some (.bool d.th) ∧ W.cell? ⟨b2, o2 + y, none⟩ = some (.int .i64 d.tm) ∧ W.cell? ⟨b3, o3 + y, none⟩ = some (.int .u64 d.bk)) := hide (fun W hW => ⟨(hW.cell (p := ⟨b1, o1 + y, none⟩) f1).trans q1, (hW.cell (p := ⟨b2, o2 + y, none⟩) f2).trans q2, (hW.cell (p := ⟨b3, o3 + y, none⟩) f3).trans q3⟩)
        clear hj hgj hjn hx1 h0 hd q1 q2 q3 f1 f2 f3 y1
        go_wp2_with (go_at_call 14; refine (unhide KX).mono ?_; rintro e w3 ⟨rfl, B3⟩; obtain ⟨z1, z2, z3⟩ := unhide CK w3 (unhide B3); have hz := unhide RB w3 (unhide B3); have r0 := cell_of hz 0; have r1 := cell_of hz 1; have r2 := cell_of hz 2; simp at r0 r1 r2; clear KX hz)
        obtain ⟨hj, hgj, hjn⟩ := unhide AR
        go_roundg (n + 2 - (j + 1))
        case measure => omega
        case rel => exact ⟨j + 1, (y : Int) + 1, by omega, by omega, rfl, hide (unhide NEW).2, B3⟩
    · have hxl : ¬ x ≤ (n : Int) := by have := unhide XJ; omega
      clear KN KZ G2
      go_wp2_with fail
      clear hxl XJ hj hgj hjn
      go_loopg [14] (p + 2) (fun gg s14 wq => ∃ (j : Nat) (x : Int), j ≤ p + 2 ∧ p + 2 - j ≤ gg ∧ s14 = .int .i64 x ∧ Hid (x = (j : Int) - 1) ∧ Hid (Below w.heap.size w wq))
      case atStart => exact ⟨0, -1, by omega, by omega, rfl, hide (by omega), B⟩
      case round =>
        clear B
        obtain ⟨j, x, hj, hgj, rfl, XJ, B⟩ := hrel
        by_cases hjn : j < p + 2
        · skip
          have hxl : x ≤ (p : Int) := by have := unhide XJ; omega
          have hx1 : -1 ≤ x := by have := unhide XJ; omega
          obtain ⟨w1, w2'⟩ := wr_one (x := x) hx1 (by omega)
          have NEW : Hid (Value.int .i64 (x + 1) = Value.int .i64 (x + 1) ∧ x + 1 = ((j + 1 : Nat) : Int) - 1) := hide ⟨rfl, by have := unhide XJ; omega⟩
          have AR := hide (And.intro hj (And.intro hgj hjn))
          by_cases h0 : x < 0 ∨ x = (p : Int)
          · have KX : Hid (Calls Try.prog 11 #[.pointer (some ⟨mb, 0, none⟩), .int .i64 x] wr fun e w' => e = .returned (.tuple #[.agg #[.int .i64 0, .int .i64 0, .int .i64 0, .slice none 0 0, .slice none 0 0, .slice none 0 0], .bool false]) ∧ Hid (Below w.heap.size w w')) := hide ((part_none ((unhide H).later (unhide B)) (x := x) (by rw [unhide HPP]; rcases h0 with h | h <;> simp [isN] <;> omega)).mono (by
              rintro e w2 ⟨rfl, b2⟩
              exact ⟨rfl, hide ((unhide B).trans (b2.mono (unhide B).size))⟩))
            rcases h0 with h0 | h0
            · have g1 : decide (0 ≤ x) = false := by simp; omega
              clear hj hgj hjn hx1
              go_upto_region 18 with (go_at_call 11; refine (unhide KX).mono ?_; rintro e w3 ⟨rfl, B3⟩; clear KX)
              have bx := heap_new w3 (.cells #[.int .i64 0, .int .i64 0, .int .i64 0, .slice none 0 0, .slice none 0 0, .slice none 0 0] 42)
              have b4 : Below w.heap.size w (w3.alloc (.cells #[.int .i64 0, .int .i64 0, .int .i64 0, .slice none 0 0, .slice none 0 0, .slice none 0 0] 42)) := (unhide B3).alloc (unhide B3).size _
              have PX3 : Hid (PBx w (w3.alloc (.cells #[.int .i64 0, .int .i64 0, .int .i64 0, .slice none 0 0, .slice none 0 0, .slice none 0 0] 42)) w3.heap.size (.int .i64 0) (.int .i64 0) (.int .i64 0) (.slice none 0 0) none 0 0 none 0 0) := hide ⟨bx, ⟨[], IL.nil _, rfl⟩, ⟨[], IL.nil _, rfl⟩, New.nil _, New.nil _, (fun k hk => by simp [Value.ownBlock] at hk), b4⟩
              clear bx b4 B3
              generalize w3.alloc (.cells #[.int .i64 0, .int .i64 0, .int .i64 0, .slice none 0 0, .slice none 0 0, .slice none 0 0] 42) = W4 at *
              generalize w3.heap.size = pb at *
              go_quiet (fail)
              have PX4 := hide ((unhide PX3).quiet (tdrew _ nq))
              clear PX3
              generalize W4.drewN nq = W5 at *
              clear g1
              have px := unhide PX4
              have c3 := cell_of px.box 3
              simp at c3
              clear px
              go_wp2_with fail
              clear c3
              go_loopg [168] 0 (fun gi s168 wq => ∃ i : Nat, i ≤ 0 ∧ 0 - i ≤ gi ∧ s168 = .int .i64 i ∧ Hid (PBx w wq pb (.int .i64 0) (.int .i64 0) (.int .i64 0) (.slice none 0 0) none 0 0 none 0 0))
              case atStart => exact ⟨0, by omega, by omega, rfl, PX4⟩
              case round =>
                clear PX4
                obtain ⟨i, hi, hgi, rfl, PX⟩ := hrel
                by_cases hin : i < 0
                · exact absurd hin (Nat.not_lt_zero _)
                · have hiz : ¬ (i : Int) < (0 : Int) := by omega
                  have px := unhide PX
                  have c4 := cell_of px.box 4
                  simp at c4
                  clear px
                  go_wp2_with fail
                  clear c4 hiz hi hgi hin
                  go_loopg [179] 0 (fun gi s179 wq => ∃ i : Nat, i ≤ 0 ∧ 0 - i ≤ gi ∧ s179 = .int .i64 i ∧ Hid (PBx w wq pb (.int .i64 0) (.int .i64 0) (.int .i64 0) (.slice none 0 0) none 0 0 none 0 0))
                  case atStart => exact ⟨0, by omega, by omega, rfl, PX⟩
                  case round =>
                    clear PX
                    obtain ⟨i, hi, hgi, rfl, PX⟩ := hrel
                    by_cases hin : i < 0
                    · exact absurd hin (Nat.not_lt_zero _)
                    · have hiz : ¬ (i : Int) < (0 : Int) := by omega
                      have BE := hide (unhide PX).bl
                      go_wp2
                      obtain ⟨hj, hgj, hjn⟩ := unhide AR
                      go_roundg (p + 2 - (j + 1))
                      case measure => omega
                      case rel => exact ⟨j + 1, x + 1, by omega, by omega, by first | rfl | (rw [w1]), hide (unhide NEW).2, BE⟩
            · have g1 : decide (0 ≤ x) = true := by simp; omega
              have g2 : decide (x < (p : Int)) = false := by simp; omega
              clear h0
              clear hj hgj hjn hx1
              go_upto_region 18 with (go_at_call 11; refine (unhide KX).mono ?_; rintro e w3 ⟨rfl, B3⟩; clear KX)
              have bx := heap_new w3 (.cells #[.int .i64 0, .int .i64 0, .int .i64 0, .slice none 0 0, .slice none 0 0, .slice none 0 0] 42)
              have b4 : Below w.heap.size w (w3.alloc (.cells #[.int .i64 0, .int .i64 0, .int .i64 0, .slice none 0 0, .slice none 0 0, .slice none 0 0] 42)) := (unhide B3).alloc (unhide B3).size _
              have PX3 : Hid (PBx w (w3.alloc (.cells #[.int .i64 0, .int .i64 0, .int .i64 0, .slice none 0 0, .slice none 0 0, .slice none 0 0] 42)) w3.heap.size (.int .i64 0) (.int .i64 0) (.int .i64 0) (.slice none 0 0) none 0 0 none 0 0) := hide ⟨bx, ⟨[], IL.nil _, rfl⟩, ⟨[], IL.nil _, rfl⟩, New.nil _, New.nil _, (fun k hk => by simp [Value.ownBlock] at hk), b4⟩
              clear bx b4 B3
              generalize w3.alloc (.cells #[.int .i64 0, .int .i64 0, .int .i64 0, .slice none 0 0, .slice none 0 0, .slice none 0 0] 42) = W4 at *
              generalize w3.heap.size = pb at *
              go_quiet (fail)
              have PX4 := hide ((unhide PX3).quiet (tdrew _ nq))
              clear PX3
              generalize W4.drewN nq = W5 at *
              clear g1 g2
              have px := unhide PX4
              have c3 := cell_of px.box 3
              simp at c3
              clear px
              go_wp2_with fail
              clear c3
              go_loopg [168] 0 (fun gi s168 wq => ∃ i : Nat, i ≤ 0 ∧ 0 - i ≤ gi ∧ s168 = .int .i64 i ∧ Hid (PBx w wq pb (.int .i64 0) (.int .i64 0) (.int .i64 0) (.slice none 0 0) none 0 0 none 0 0))
              case atStart => exact ⟨0, by omega, by omega, rfl, PX4⟩
              case round =>
                clear PX4
                obtain ⟨i, hi, hgi, rfl, PX⟩ := hrel
                by_cases hin : i < 0
                · exact absurd hin (Nat.not_lt_zero _)
                · have hiz : ¬ (i : Int) < (0 : Int) := by omega
                  have px := unhide PX
                  have c4 := cell_of px.box 4
                  simp at c4
                  clear px
                  go_wp2_with fail
                  clear c4 hiz hi hgi hin
                  go_loopg [179] 0 (fun gi s179 wq => ∃ i : Nat, i ≤ 0 ∧ 0 - i ≤ gi ∧ s179 = .int .i64 i ∧ Hid (PBx w wq pb (.int .i64 0) (.int .i64 0) (.int .i64 0) (.slice none 0 0) none 0 0 none 0 0))
                  case atStart => exact ⟨0, by omega, by omega, rfl, PX⟩
                  case round =>
                    clear PX
                    obtain ⟨i, hi, hgi, rfl, PX⟩ := hrel
                    by_cases hin : i < 0
                    · exact absurd hin (Nat.not_lt_zero _)
                    · have hiz : ¬ (i : Int) < (0 : Int) := by omega
                      have BE := hide (unhide PX).bl
                      go_wp2
                      obtain ⟨hj, hgj, hjn⟩ := unhide AR
                      go_roundg (p + 2 - (j + 1))
                      case measure => omega
                      case rel => exact ⟨j + 1, x + 1, by omega, by omega, by first | rfl | (rw [w1]), hide (unhide NEW).2, BE⟩
          · obtain ⟨y, rfl⟩ := Int.eq_ofNat_of_zero_le (show 0 ≤ x by omega)
            have hyp : y < p := by omega
            have g1 : decide ((0 : Int) ≤ (y : Int)) = true := by simp
            have g2 : decide ((y : Int) < (p : Int)) = true := by simp; omega
            have g3 : decide (y < p) = true := by simp; omega
            have yz : (y : Int) < (p : Int) := by omega
            have yp : (0 : Int) ≤ (y : Int) := by omega
            have hyl : y < m.ps.length := by rw [unhide HPP]; exact hyp
            obtain ⟨q, vi, vr, vt, hq⟩ : ∃ q vi vr vt, m.ps[y] = ⟨q, vi, vr, vt⟩ := ⟨_, _, _, _, rfl⟩
            have hqa : m.abs.ps[y]? = some q := by
              show (m.ps.map Pm.q)[y]? = some q
              rw [List.getElem?_map, List.getElem?_eq_getElem hyl, hq]
              rfl
            obtain ⟨f1, f2, f3⟩ := unhide HF q (List.mem_of_getElem? hqa)
            have KX := hide (part_any ((unhide H).later (unhide B)) hyl hq f1 f2 f3)
            obtain ⟨b1, o1, ev, fl, d1, d2, d3, s1, s2, s3, gc, ia1, ia2, ia3⟩ := unhide G3 y q hqa
            subst ev
            have GC := hide gc
            have FL := hide fl
            have IA := hide (And.intro ia1 (And.intro ia2 ia3))
            have FF := hide (And.intro f1 (And.intro f2 f3))
            have SB : w.heap.size ≤ wr.heap.size := (unhide B).size
            clear gc fl ia1 ia2 ia3 hqa hq hyl hyp f1 f2 f3 hj hgj hjn hx1 h0
            go_upto_region 18 with (go_at_call 11; refine (unhide KX).mono ?_; rintro e w3 ⟨ui, ur, ut, rfl, td⟩; obtain ⟨ai, ki, ei, _⟩ := td.li.iat; subst ei; obtain ⟨ar, kr, er, _⟩ := td.lr.iat; subst er; obtain ⟨at_, kt, et, _⟩ := td.lt.iat; subst et; have TD := hide td; clear td KX)
            have ba := (Below.refl w3.heap.size w3).alloc (Nat.le_refl _) (.cells #[.int .i64 q.ld, .int .i64 q.ep, .int .i64 q.ve, .slice ai q.is.length ki, .slice ar q.rs.length kr, .slice at_ q.ts.length kt] 42)
            have b3 : Below w.heap.size w w3 := (unhide B).trans ((unhide TD).below.mono (unhide B).size)
            have b4 : Below w.heap.size w (w3.alloc (.cells #[.int .i64 q.ld, .int .i64 q.ep, .int .i64 q.ve, .slice ai q.is.length ki, .slice ar q.rs.length kr, .slice at_ q.ts.length kt] 42)) := b3.alloc b3.size _
            have PX3 : Hid (PBx w (w3.alloc (.cells #[.int .i64 q.ld, .int .i64 q.ep, .int .i64 q.ve, .slice ai q.is.length ki, .slice ar q.rs.length kr, .slice at_ q.ts.length kt] 42)) w3.heap.size (.int .i64 q.ld) (.int .i64 q.ep) (.int .i64 q.ve) (.slice at_ q.ts.length kt) ai q.is.length ki ar q.rs.length kr) := hide ⟨heap_new w3 _, ⟨q.is, (unhide TD).li.later ba, rfl⟩, ⟨q.rs, (unhide TD).lr.later ba, rfl⟩, (unhide TD).ni.mono SB, (unhide TD).nr.mono SB, (unhide TD).ir, b4⟩
            have TL := hide (And.intro ((unhide TD).li.later ba) (And.intro ((unhide TD).lr.later ba) ((unhide TD).lt.later ba)))
            have B4 := hide b4
            clear ba b3 b4 TD B SB
            generalize w3.alloc (.cells #[.int .i64 q.ld, .int .i64 q.ep, .int .i64 q.ve, .slice ai q.is.length ki, .slice ar q.rs.length kr, .slice at_ q.ts.length kt] 42) = W4 at *
            generalize w3.heap.size = pb at *
            have SK : Hid (∀ W, Below W4.heap.size W4 W → W.cell? ⟨pb, 0, none⟩ = some (.int .i64 q.ld) ∧ W.cell? ⟨pb, 1, none⟩ = some (.int .i64 q.ep) ∧ W.cell? ⟨pb, 2, none⟩ = some (.int .i64 q.ve) ∧ W.cell? ⟨pb, 3, none⟩ = some (.slice ai q.is.length ki) ∧ W.cell? ⟨pb, 4, none⟩ = some (.slice ar q.rs.length kr) ∧ W.cell? ⟨pb, 5, none⟩ = some (.slice at_ q.ts.length kt) ∧ W.cell? ⟨rb, 3, none⟩ = some (.slice (some ⟨b1, o1, none⟩) p np) ∧ W.cell? ⟨b1, o1 + y * 6, none⟩ = some (.int .i64 q.ld) ∧ W.cell? ⟨b1, o1 + y * 6 + 1, none⟩ = some (.int .i64 q.ep) ∧ W.cell? ⟨b1, o1 + y * 6 + 2, none⟩ = some (.int .i64 q.ve) ∧ W.cell? ⟨b1, o1 + y * 6 + 3, none⟩ = some (.slice d1 q.is.length s1) ∧ W.cell? ⟨b1, o1 + y * 6 + 4, none⟩ = some (.slice d2 q.rs.length s2) ∧ W.cell? ⟨b1, o1 + y * 6 + 5, none⟩ = some (.slice d3 q.ts.length s3)) := hide (fun W hW => by
              have hb := below_keep hW (unhide PX3).box
              have hw := (unhide B4).trans (hW.mono (unhide B4).size)
              have hz := unhide RB W hw
              have gg : ∀ f, f < 6 → W.cell? ⟨b1, o1 + y * 6 + f, none⟩ = [Value.int .i64 q.ld, .int .i64 q.ep, .int .i64 q.ve, .slice d1 q.is.length s1, .slice d2 q.rs.length s2, .slice d3 q.ts.length s3][f]? := fun f hf => (hw.cell (p := ⟨b1, o1 + y * 6 + f, none⟩) (unhide FL)).trans (unhide GC f hf)
              exact ⟨cell_of hb 0, cell_of hb 1, cell_of hb 2, cell_of hb 3, cell_of hb 4, cell_of hb 5, cell_of hz 3, gg 0 (by omega), gg 1 (by omega), gg 2 (by omega), gg 3 (by omega), gg 4 (by omega), gg 5 (by omega)⟩)
            have KSP : Hid (∀ W, Below W4.heap.size W4 W → Calls Try.prog 15 #[.agg #[.int .i64 q.ld, .int .i64 q.ep, .int .i64 q.ve, .slice ai q.is.length ki, .slice ar q.rs.length kr, .slice at_ q.ts.length kt], .agg #[.int .i64 q.ld, .int .i64 q.ep, .int .i64 q.ve, .slice d1 q.is.length s1, .slice d2 q.rs.length s2, .slice d3 q.ts.length s3]] W fun e w' => e = .returned (.bool true) ∧ Below W4.heap.size W4 w') := hide (fun W hW => by
              obtain ⟨t1, t2, t3⟩ := unhide TL
              obtain ⟨j1, j2, j3⟩ := unhide IA
              have hw := (unhide B4).trans (hW.mono (unhide B4).size)
              have at1 : ∀ {a : Option Addr} {k : Nat} {l : List Int}, IL W4 (.slice a l.length k) l → IAt W a l := fun hl => by
                obtain ⟨a', k', e', h1, _⟩ := (hl.later hW).iat
                injection e' with e1 e2 e3
                subst e1
                exact h1
              refine (spart_any q (at1 t1) (at1 t2) (at1 t3) (j1.later hw) (j2.later hw) (j3.later hw) t1.len t2.len t3.len).mono ?_
              rintro e w' ⟨rfl, b⟩
              exact ⟨rfl, hW.trans (b.mono hW.size)⟩)
            have s0 := unhide SK W4 (Below.refl _ _)
            have N12 : Hid (q.is.length ≤ 1000000 ∧ q.rs.length ≤ 1000000) := hide ⟨(unhide FF).1, (unhide FF).2.1⟩
            clear TL IA FF GC FL
            have PX4 : Hid (∀ W, Below W4.heap.size W4 W → PBx w W pb (.int .i64 q.ld) (.int .i64 q.ep) (.int .i64 q.ve) (.slice at_ q.ts.length kt) ai q.is.length ki ar q.rs.length kr) := hide (fun W hW => (unhide PX3).later hW)
            clear PX3
            generalize q.is.length = n1 at *
            generalize q.rs.length = n2 at *
            go_region_held3 (fun w' => w'.cell? ⟨pb, 0, none⟩ = some (.int .i64 q.ld) ∧ w'.cell? ⟨pb, 1, none⟩ = some (.int .i64 q.ep) ∧ w'.cell? ⟨pb, 2, none⟩ = some (.int .i64 q.ve) ∧ w'.cell? ⟨pb, 3, none⟩ = some (.slice ai n1 ki) ∧ w'.cell? ⟨pb, 4, none⟩ = some (.slice ar n2 kr) ∧ w'.cell? ⟨pb, 5, none⟩ = some (.slice at_ q.ts.length kt) ∧ w'.cell? ⟨rb, 3, none⟩ = some (.slice (some ⟨b1, o1, none⟩) p np) ∧ w'.cell? ⟨b1, o1 + y * 6, none⟩ = some (.int .i64 q.ld) ∧ w'.cell? ⟨b1, o1 + y * 6 + 1, none⟩ = some (.int .i64 q.ep) ∧ w'.cell? ⟨b1, o1 + y * 6 + 2, none⟩ = some (.int .i64 q.ve) ∧ w'.cell? ⟨b1, o1 + y * 6 + 3, none⟩ = some (.slice d1 n1 s1) ∧ w'.cell? ⟨b1, o1 + y * 6 + 4, none⟩ = some (.slice d2 n2 s2) ∧ w'.cell? ⟨b1, o1 + y * 6 + 5, none⟩ = some (.slice d3 q.ts.length s3)) (exact unhide SK _ (by first | assumption | exact Below.drew (Below.refl _ _) | exact below_drewN' (Below.refl _ _) _ | exact Below.refl _ _)) (first
              | (go_at_call 15; refine (unhide KSP _ (by first | exact Below.drew (Below.refl _ _) | exact below_drewN' (Below.refl _ _) _ | exact Below.refl _ _)).mono ?_; rintro e w5 ⟨rfl, b5⟩))
            have PX5 := hide (unhide PX4 w5 b5)
            clear PX4 SK KSP s0 b5 g1 g2 g3 yz
            have PX4 := PX5
            clear PX5
            have px := unhide PX4
            have c3 := cell_of px.box 3
            simp at c3
            clear px
            go_wp2_with fail
            clear c3
            go_loopg [168] n1 (fun gi s168 wq => ∃ i : Nat, i ≤ n1 ∧ n1 - i ≤ gi ∧ s168 = .int .i64 i ∧ Hid (PBx w wq pb (.int .i64 q.ld) (.int .i64 q.ep) (.int .i64 q.ve) (.slice at_ q.ts.length kt) ai n1 ki ar n2 kr))
            case atStart => exact ⟨0, by omega, by omega, rfl, PX4⟩
            case round =>
              clear PX4
              obtain ⟨i, hi, hgi, rfl, PX⟩ := hrel
              by_cases hin : i < n1
              · have hiz : (i : Int) < (n1 : Int) := by omega
                have hi0 : (0 : Int) ≤ (i : Int) := by omega
                have px := unhide PX
                have c3 := cell_of px.box 3
                simp at c3
                obtain ⟨g, ea, ⟨v, hv⟩, hfz, px2⟩ := px.put1 hin
                have PX2 := hide px2
                rw [ea] at c3
                have NI := num6 (i := i) (by have := unhide N12; omega)
                clear px px2 ea
                go_wp2
                go_roundg (n1 - (i + 1))
                case measure => omega
                case rel => exact ⟨i + 1, by omega, by omega, by first | exact NI | go_num, PX2⟩
              · have hiz : ¬ (i : Int) < (n1 : Int) := by omega
                have px := unhide PX
                have c4 := cell_of px.box 4
                simp at c4
                clear px
                go_wp2_with fail
                clear c4 hiz hi hgi hin
                go_loopg [179] n2 (fun gi s179 wq => ∃ i : Nat, i ≤ n2 ∧ n2 - i ≤ gi ∧ s179 = .int .i64 i ∧ Hid (PBx w wq pb (.int .i64 q.ld) (.int .i64 q.ep) (.int .i64 q.ve) (.slice at_ q.ts.length kt) ai n1 ki ar n2 kr))
                case atStart => exact ⟨0, by omega, by omega, rfl, PX⟩
                case round =>
                  clear PX
                  obtain ⟨i, hi, hgi, rfl, PX⟩ := hrel
                  by_cases hin : i < n2
                  · have hiz : (i : Int) < (n2 : Int) := by omega
                    have hi0 : (0 : Int) ≤ (i : Int) := by omega
                    have px := unhide PX
                    have c4 := cell_of px.box 4
                    simp at c4
                    obtain ⟨g, ea, ⟨v, hv⟩, hfz, px2⟩ := px.put2 hin
                    have PX2 := hide px2
                    rw [ea] at c4
                    have NI := num6 (i := i) (by have := unhide N12; omega)
                    clear px px2 ea
                    go_wp2
                    go_roundg (n2 - (i + 1))
                    case measure => omega
                    case rel => exact ⟨i + 1, by omega, by omega, by first | exact NI | go_num, PX2⟩
                  · have hiz : ¬ (i : Int) < (n2 : Int) := by omega
                    have BE := hide (unhide PX).bl
                    go_wp2
                    obtain ⟨hj, hgj, hjn⟩ := unhide AR
                    go_roundg (p + 2 - (j + 1))
                    case measure => omega
                    case rel => exact ⟨j + 1, (y : Int) + 1, by omega, by omega, by first | rfl | (rw [w1]), hide (unhide NEW).2, BE⟩
        · have hxl : ¬ x ≤ (p : Int) := by have := unhide XJ; omega
          go_wp2
          go_returns
          exact ⟨rfl, unhide B⟩
end Go.Proofs.Ytfakjcaolpmkeaa
