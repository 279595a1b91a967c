/-
  maySync: may a node be in sync, by what is known of it? Conditions: it is a node.
-/
import Derived.Test.YthaedepnglincaaIgd
namespace Go.Proofs.Ythaedepnglincaa
open Go.RowKit Go.Maps
set_option linter.unusedVariables false

def mayQ (ns : List Nd) (q : Pt) (y : Int) : Bool := (q.rs.contains y || q.ts.contains y) && (thr ns y || q.is.contains y)
section
variable {w w' : World} {mb : Nat} {m : Im}
set_option maxHeartbeats 2000000 in
theorem maySync_any (h : ImAt w mb m) {i pg cap : Nat} (hi : i < m.ps.length) (hg : m.pv = .slice (some ⟨pg, 0, none⟩) m.ps.length cap) {q : Pt} {vi vr vt : Value} (hp : m.ps[i] = ⟨q, vi, vr, vt⟩) {y : Int} (hy : isN m.ns.length y = true) :
    Calls Try.prog 36 #[.pointer (some ⟨mb, 0, none⟩), .pointer (some ⟨pg, i * 6, none⟩), .int .i64 y] w fun e w' => e = .returned (.bool (mayQ m.ns q y)) ∧ Touch (fun _ => False) w w' := by
  obtain ⟨pg', cap', e', _, _, hc, hf⟩ := h.pc hi
  rw [hg] at e'
  cases e'
  rw [hp] at hc
  have d3 := hc 3 (by omega)
  have d4 := hc 4 (by omega)
  have d5 := hc 5 (by omega)
  simp only [pmC, List.getElem?_cons_zero, List.getElem?_cons_succ] at d3 d4 d5
  have PI := h.each i hi
  rw [hp] at PI
  obtain ⟨ia, ic, ei, ii, _, _, _⟩ := PI.li.iat
  obtain ⟨ra, rc, er, ri, _, _, _⟩ := PI.lr.iat
  obtain ⟨ta, tc, et, ti, _, _, _⟩ := PI.lt.iat
  simp only at ei ii er ri et ti
  have KI := hide (contains_any (c := ic) y ii PI.li.len)
  have KR := hide (contains_any (c := rc) y ri PI.lr.len)
  have KT := hide (contains_any (c := tc) y ti PI.lt.len)
  have KH := hide (isThere_any h hy)
  have d3' := d3
  rw [ei] at d3
  rw [er] at d4
  rw [et] at d5
  have KW : Hid (∀ W, Touch (fun _ => False) w W → W.cell? ⟨pg, i * 6 + 3, none⟩ = some (.slice ia q.is.length ic) ∧ Calls Try.prog 29 #[.slice ia q.is.length ic, .int .i64 y] W fun e w' => e = .returned (.bool (q.is.contains y)) ∧ w' = W) := hide (fun W t => ⟨(World.cell?_of_block (a := ⟨pg, i * 6 + 3, none⟩) (t.block pg (lt_of_cell d3) (fun h => h))).trans d3, contains_any (c := ic) y (ii.keep t (fun _ _ _ h => h)) PI.li.len⟩)
  have EQ : Hid (mayQ m.ns q y = ((q.rs.contains y || q.ts.contains y) && (thr m.ns y || q.is.contains y))) := hide rfl
  clear h hi hg hp hy hc hf PI ii ri ti ei er et d3' KI
  generalize mayQ m.ns q y = R at *
  generalize q.rs.contains y = br at *
  generalize q.ts.contains y = bt at *
  generalize q.is.contains y = bi at *
  generalize thr m.ns y = bh at *
  generalize q.rs.length = rl at *
  generalize q.ts.length = tl at *
  generalize q.is.length = il at *
  cases br with
  | false =>
    cases bt with
    | false =>
      cases bh with
      | false =>
        cases bi with
        | false =>
          go_enter Try.func36, Try.ntmps36
          go_wp2_with fail
          refine (unhide KR).mono ?_
          rintro e w1 ⟨rfl, rfl⟩
          go_wp2_with fail
          refine (unhide KT).mono ?_
          rintro e w1 ⟨rfl, rfl⟩
          go_wp2
          go_ret
          exact ⟨by rw [unhide EQ]; rfl, Touch.refl _ _⟩
        | true =>
          go_enter Try.func36, Try.ntmps36
          go_wp2_with fail
          refine (unhide KR).mono ?_
          rintro e w1 ⟨rfl, rfl⟩
          go_wp2_with fail
          refine (unhide KT).mono ?_
          rintro e w1 ⟨rfl, rfl⟩
          go_wp2
          go_ret
          exact ⟨by rw [unhide EQ]; rfl, Touch.refl _ _⟩
      | true =>
        cases bi with
        | false =>
          go_enter Try.func36, Try.ntmps36
          go_wp2_with fail
          refine (unhide KR).mono ?_
          rintro e w1 ⟨rfl, rfl⟩
          go_wp2_with fail
          refine (unhide KT).mono ?_
          rintro e w1 ⟨rfl, rfl⟩
          go_wp2
          go_ret
          exact ⟨by rw [unhide EQ]; rfl, Touch.refl _ _⟩
        | true =>
          go_enter Try.func36, Try.ntmps36
          go_wp2_with fail
          refine (unhide KR).mono ?_
          rintro e w1 ⟨rfl, rfl⟩
          go_wp2_with fail
          refine (unhide KT).mono ?_
          rintro e w1 ⟨rfl, rfl⟩
          go_wp2
          go_ret
          exact ⟨by rw [unhide EQ]; rfl, Touch.refl _ _⟩
    | true =>
      cases bh with
      | false =>
        cases bi with
        | false =>
          go_enter Try.func36, Try.ntmps36
          go_wp2_with fail
          refine (unhide KR).mono ?_
          rintro e w1 ⟨rfl, rfl⟩
          go_wp2_with fail
          refine (unhide KT).mono ?_
          rintro e w1 ⟨rfl, rfl⟩
          go_wp2_with fail
          refine (unhide KH).mono ?_
          rintro e w2 ⟨rfl, t2⟩
          have KC2 := hide (unhide KW w2 t2).2
          have k3 := (unhide KW w2 t2).1
          have T2 := hide t2
          clear t2
          go_wp2_with fail
          refine (unhide KC2).mono ?_
          rintro e w3 ⟨rfl, rfl⟩
          go_wp2
          go_ret
          exact ⟨by rw [unhide EQ]; rfl, unhide T2⟩
        | true =>
          go_enter Try.func36, Try.ntmps36
          go_wp2_with fail
          refine (unhide KR).mono ?_
          rintro e w1 ⟨rfl, rfl⟩
          go_wp2_with fail
          refine (unhide KT).mono ?_
          rintro e w1 ⟨rfl, rfl⟩
          go_wp2_with fail
          refine (unhide KH).mono ?_
          rintro e w2 ⟨rfl, t2⟩
          have KC2 := hide (unhide KW w2 t2).2
          have k3 := (unhide KW w2 t2).1
          have T2 := hide t2
          clear t2
          go_wp2_with fail
          refine (unhide KC2).mono ?_
          rintro e w3 ⟨rfl, rfl⟩
          go_wp2
          go_ret
          exact ⟨by rw [unhide EQ]; rfl, unhide T2⟩
      | true =>
        cases bi with
        | false =>
          go_enter Try.func36, Try.ntmps36
          go_wp2_with fail
          refine (unhide KR).mono ?_
          rintro e w1 ⟨rfl, rfl⟩
          go_wp2_with fail
          refine (unhide KT).mono ?_
          rintro e w1 ⟨rfl, rfl⟩
          go_wp2_with fail
          refine (unhide KH).mono ?_
          rintro e w2 ⟨rfl, t2⟩
          have KC2 := hide (unhide KW w2 t2).2
          have k3 := (unhide KW w2 t2).1
          have T2 := hide t2
          clear t2
          go_wp2
          go_ret
          exact ⟨by rw [unhide EQ]; rfl, unhide T2⟩
        | true =>
          go_enter Try.func36, Try.ntmps36
          go_wp2_with fail
          refine (unhide KR).mono ?_
          rintro e w1 ⟨rfl, rfl⟩
          go_wp2_with fail
          refine (unhide KT).mono ?_
          rintro e w1 ⟨rfl, rfl⟩
          go_wp2_with fail
          refine (unhide KH).mono ?_
          rintro e w2 ⟨rfl, t2⟩
          have KC2 := hide (unhide KW w2 t2).2
          have k3 := (unhide KW w2 t2).1
          have T2 := hide t2
          clear t2
          go_wp2
          go_ret
          exact ⟨by rw [unhide EQ]; rfl, unhide T2⟩
  | true =>
    cases bt with
    | false =>
      cases bh with
      | false =>
        cases bi with
        | false =>
          go_enter Try.func36, Try.ntmps36
          go_wp2_with fail
          refine (unhide KR).mono ?_
          rintro e w1 ⟨rfl, rfl⟩
          go_wp2_with fail
          refine (unhide KH).mono ?_
          rintro e w2 ⟨rfl, t2⟩
          have KC2 := hide (unhide KW w2 t2).2
          have k3 := (unhide KW w2 t2).1
          have T2 := hide t2
          clear t2
          go_wp2_with fail
          refine (unhide KC2).mono ?_
          rintro e w3 ⟨rfl, rfl⟩
          go_wp2
          go_ret
          exact ⟨by rw [unhide EQ]; rfl, unhide T2⟩
        | true =>
          go_enter Try.func36, Try.ntmps36
          go_wp2_with fail
          refine (unhide KR).mono ?_
          rintro e w1 ⟨rfl, rfl⟩
          go_wp2_with fail
          refine (unhide KH).mono ?_
          rintro e w2 ⟨rfl, t2⟩
          have KC2 := hide (unhide KW w2 t2).2
          have k3 := (unhide KW w2 t2).1
          have T2 := hide t2
          clear t2
          go_wp2_with fail
          refine (unhide KC2).mono ?_
          rintro e w3 ⟨rfl, rfl⟩
          go_wp2
          go_ret
          exact ⟨by rw [unhide EQ]; rfl, unhide T2⟩
      | true =>
        cases bi with
        | false =>
          go_enter Try.func36, Try.ntmps36
          go_wp2_with fail
          refine (unhide KR).mono ?_
          rintro e w1 ⟨rfl, rfl⟩
          go_wp2_with fail
          refine (unhide KH).mono ?_
          rintro e w2 ⟨rfl, t2⟩
          have KC2 := hide (unhide KW w2 t2).2
          have k3 := (unhide KW w2 t2).1
          have T2 := hide t2
          clear t2
          go_wp2
          go_ret
          exact ⟨by rw [unhide EQ]; rfl, unhide T2⟩
        | true =>
          go_enter Try.func36, Try.ntmps36
          go_wp2_with fail
          refine (unhide KR).mono ?_
          rintro e w1 ⟨rfl, rfl⟩
          go_wp2_with fail
          refine (unhide KH).mono ?_
          rintro e w2 ⟨rfl, t2⟩
          have KC2 := hide (unhide KW w2 t2).2
          have k3 := (unhide KW w2 t2).1
          have T2 := hide t2
          clear t2
          go_wp2
          go_ret
          exact ⟨by rw [unhide EQ]; rfl, unhide T2⟩
    | true =>
      cases bh with
      | false =>
        cases bi with
        | false =>
          go_enter Try.func36, Try.ntmps36
          go_wp2_with fail
          refine (unhide KR).mono ?_
          rintro e w1 ⟨rfl, rfl⟩
          go_wp2_with fail
          refine (unhide KH).mono ?_
          rintro e w2 ⟨rfl, t2⟩
          have KC2 := hide (unhide KW w2 t2).2
          have k3 := (unhide KW w2 t2).1
          have T2 := hide t2
          clear t2
          go_wp2_with fail
          refine (unhide KC2).mono ?_
          rintro e w3 ⟨rfl, rfl⟩
          go_wp2
          go_ret
          exact ⟨by rw [unhide EQ]; rfl, unhide T2⟩
        | true =>
          go_enter Try.func36, Try.ntmps36
          go_wp2_with fail
          refine (unhide KR).mono ?_
          rintro e w1 ⟨rfl, rfl⟩
          go_wp2_with fail
          refine (unhide KH).mono ?_
          rintro e w2 ⟨rfl, t2⟩
          have KC2 := hide (unhide KW w2 t2).2
          have k3 := (unhide KW w2 t2).1
          have T2 := hide t2
          clear t2
          go_wp2_with fail
          refine (unhide KC2).mono ?_
          rintro e w3 ⟨rfl, rfl⟩
          go_wp2
          go_ret
          exact ⟨by rw [unhide EQ]; rfl, unhide T2⟩
      | true =>
        cases bi with
        | false =>
          go_enter Try.func36, Try.ntmps36
          go_wp2_with fail
          refine (unhide KR).mono ?_
          rintro e w1 ⟨rfl, rfl⟩
          go_wp2_with fail
          refine (unhide KH).mono ?_
          rintro e w2 ⟨rfl, t2⟩
          have KC2 := hide (unhide KW w2 t2).2
          have k3 := (unhide KW w2 t2).1
          have T2 := hide t2
          clear t2
          go_wp2
          go_ret
          exact ⟨by rw [unhide EQ]; rfl, unhide T2⟩
        | true =>
          go_enter Try.func36, Try.ntmps36
          go_wp2_with fail
          refine (unhide KR).mono ?_
          rintro e w1 ⟨rfl, rfl⟩
          go_wp2_with fail
          refine (unhide KH).mono ?_
          rintro e w2 ⟨rfl, t2⟩
          have KC2 := hide (unhide KW w2 t2).2
          have k3 := (unhide KW w2 t2).1
          have T2 := hide t2
          clear t2
          go_wp2
          go_ret
          exact ⟨by rw [unhide EQ]; rfl, unhide T2⟩
end
end Go.Proofs.Ythaedepnglincaa
