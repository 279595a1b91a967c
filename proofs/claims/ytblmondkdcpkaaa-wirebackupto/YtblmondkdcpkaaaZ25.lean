/-
  wire's reader: cmd. Conditions: the reader as it lies.
-/
import Derived.Test.YtblmondkdcpkaaaZ11
import Derived.Test.YtblmondkdcpkaaaZ22

/-
  Decode and the document's: a command off bytes, or the first error. Conditions: none beyond those of the parameters' types.
-/
namespace Go.Proofs.Ytblmondkdcpkaaa
open Go.RowKit
set_option linter.unusedVariables false

theorem set6 {X : World} {z : Nat} {T : TypeId} {c0 c1 c2 c3 c4 c5 : Value} (v0 v1 v2 v3 v4 v5 : Value) (h : X.heap[z]? = some (.cells #[c0, c1, c2, c3, c4, c5] T)) :
    ((((((X.setCell ⟨z, 0, none⟩ v0).setCell ⟨z, 1, none⟩ v1).setCell ⟨z, 2, none⟩ v2).setCell ⟨z, 3, none⟩ v3).setCell ⟨z, 4, none⟩ v4).setCell ⟨z, 5, none⟩ v5).heap[z]? = some (.cells #[v0, v1, v2, v3, v4, v5] T) ∧
    Touch (· = z) X ((((((X.setCell ⟨z, 0, none⟩ v0).setCell ⟨z, 1, none⟩ v1).setCell ⟨z, 2, none⟩ v2).setCell ⟨z, 3, none⟩ v3).setCell ⟨z, 4, none⟩ v4).setCell ⟨z, 5, none⟩ v5) := by
  have q0 := heap_set h 0 v0
  have q1 := heap_set q0 1 v1
  have q2 := heap_set q1 2 v2
  have q3 := heap_set q2 3 v3
  have q4 := heap_set q3 4 v4
  have q5 := heap_set q4 5 v5
  refine ⟨by simpa using q5, (((((touch_set _ _ _ _).trans (touch_set _ _ _ _)).trans (touch_set _ _ _ _)).trans (touch_set _ _ _ _)).trans (touch_set _ _ _ _)).trans (touch_set _ _ _ _)⟩
/-- What is told: a command, and an error. -/
def DeC (w : World) (x1 x2 x3 x4 x5 : Int) (l : List Int) (E : Int) (e : Ending) (w' : World) : Prop :=
  ∃ a k, e = .returned (.tuple #[.agg #[.int .i64 x1, .int .i64 x2, .int .i64 x3, .int .i64 x4, .int .i64 x5, .slice a l.length k], .int .i64 E]) ∧ IAt w' a l ∧ (∀ x, a = some x → w.heap.size ≤ x.block) ∧ Below w.heap.size w w'
def DeP (w : World) (x1 x2 x3 x4 x5 : Int) (l : List Int) (n : Nat) (e : Ending) (w' : World) : Prop :=
  (n ≠ 0 → DeC w 0 0 0 0 0 [] n e w') ∧ (n = 0 → isC ⟨x1, x2, x3, x4, x5, none, 0, l⟩ = false → DeC w 0 0 0 0 0 [] 1 e w') ∧ (n = 0 → isC ⟨x1, x2, x3, x4, x5, none, 0, l⟩ = true → DeC w x1 x2 x3 x4 x5 l 0 e w')
theorem DeC.zero {w w' : World} {E : Int} (hb : Below w.heap.size w w') : DeC w 0 0 0 0 0 [] E (.returned (.tuple #[.agg #[.int .i64 0, .int .i64 0, .int .i64 0, .int .i64 0, .int .i64 0, .slice none 0 0], .int .i64 E])) w' :=
  ⟨none, 0, rfl, (fun i hi => by cases hi), (fun x hx => by cases hx), hb⟩
theorem rints_c {w0 w : World} {b : Nat} {a : Option Addr} {cap : Nat} {t : List Nat} {s : Rst} (h : Rc w0 w b a cap t s) {l : List Int} {s' : Rst} (e : rL t s = (l, s')) :
    Calls Try.prog 79 #[.pointer (some ⟨b, 0, none⟩)] w fun x w' => ∃ v, x = .returned v ∧ IRow w' v l ∧ New w v ∧ Rc w0 w' b a cap t s' := by
  have := rints_any w h.rd
  rw [e] at this
  exact this.mono fun _ _ ⟨v, he, h1, h2, hr, tc⟩ => ⟨v, he, h1, h2, h.step hr tc⟩
theorem Rc.alloc {w0 w : World} {b : Nat} {a : Option Addr} {cap : Nat} {t : List Nat} {s : Rst} (h : Rc w0 w b a cap t s) (o : Obj) : Rc w0 (w.alloc o) b a cap t s :=
  ⟨h.rd.later ((Below.refl _ _).alloc (Nat.le_refl _) o), h.below.alloc h.below.size o, h.hb⟩
set_option maxHeartbeats 4000000 in
theorem cdecode_any {w : World} {a : Option Addr} {cap : Nat} {t : List Nat} {x1 x2 x3 x4 x5 : Int} {s1 s2 s3 s4 s5 s6 : Rst} {l : List Int} {n : Nat} (ht : LAt w a t) (hn : a = none → cap = 0) (hc : t.length ≤ cap) (hl : t.length ≤ 140737488355328) (e1 : rI t ⟨0, 0⟩ = (x1, s1)) (e2 : rI t s1 = (x2, s2)) (e3 : rI t s2 = (x3, s3)) (e4 : rI t s3 = (x4, s4)) (e5 : rI t s4 = (x5, s5)) (e6 : rL t s5 = (l, s6)) (e7 : rE t s6 = n) :
    Calls Try.prog 77 #[.slice a t.length cap] w fun e w' => DeP w x1 x2 x3 x4 x5 l n e w' := by
  have B0 := hide ((Below.refl w.heap.size w).alloc (Nat.le_refl _) (.cells #[.int .i64 0, .int .i64 0, .int .i64 0, .int .i64 0, .int .i64 0, .slice none 0 0] 34))
  have Z0 := hide (heap_new w (.cells #[.int .i64 0, .int .i64 0, .int .i64 0, .int .i64 0, .int .i64 0, .slice none 0 0] 34))
  have K0 := hide (reader_c (w0 := w.alloc (.cells #[.int .i64 0, .int .i64 0, .int .i64 0, .int .i64 0, .int .i64 0, .slice none 0 0] 34)) (Below.refl _ _) a cap t (ht.later (unhide B0)) hn hl)
  clear ht hn hc hl
  have E1 := hide e1
  have E2 := hide e2
  have E3 := hide e3
  have E4 := hide e4
  have E5 := hide e5
  have E6 := hide e6
  have E7 := hide e7
  clear e1 e2 e3 e4 e5 e6 e7
  generalize t.length = tl at *
  go_enter Try.func77, Try.ntmps77
  go_wp2_with fail
  refine (unhide K0).mono ?_
  rintro e y0 ⟨b, a', cap', rfl, c0, _, _, _⟩
  have C0 := hide c0
  clear c0 K0
  go_wp2_with fail
  refine (rint_c (unhide C0) (unhide E1)).mono ?_
  rintro e y1 ⟨rfl, c1⟩
  have C1 := hide c1
  clear c1 C0
  go_wp2_with fail
  refine (rint_c (unhide C1) (unhide E2)).mono ?_
  rintro e y2 ⟨rfl, c2⟩
  have C2 := hide c2
  clear c2 C1
  go_wp2_with fail
  refine (rint_c (unhide C2) (unhide E3)).mono ?_
  rintro e y3 ⟨rfl, c3⟩
  have C3 := hide c3
  clear c3 C2
  go_wp2_with fail
  refine (rint_c (unhide C3) (unhide E4)).mono ?_
  rintro e y4 ⟨rfl, c4⟩
  have C4 := hide c4
  clear c4 C3
  go_wp2_with fail
  refine (rint_c (unhide C4) (unhide E5)).mono ?_
  rintro e y5 ⟨rfl, c5⟩
  have C5 := hide c5
  clear c5 C4
  go_wp2_with fail
  refine (rints_c (unhide C5) (unhide E6)).mono ?_
  rintro e y6 ⟨v, rfl, r6, n6, c6⟩
  obtain ⟨av, kv, rfl, q6, _, q8, q9, _⟩ := r6.parts
  have hll : l.length ≤ maxLen := by omega
  have NB : Hid (∀ x, av = some x → w.heap.size < x.block) := hide (fun x hx => by
    have h1 := n6 x.block (by rw [hx]; rfl)
    have h2 := (unhide C5).below.size
    simp at h2
    omega)
  have Q6 := hide q6
  have C6 := hide (c6.alloc (.cells #[.int .i64 x1, .int .i64 x2, .int .i64 x3, .int .i64 x4, .int .i64 x5, .slice av l.length kv] 34))
  have HB6 := hide (heap_new y6 (.cells #[.int .i64 x1, .int .i64 x2, .int .i64 x3, .int .i64 x4, .int .i64 x5, .slice av l.length kv] 34))
  have QA := hide (q6.later ((Below.refl y6.heap.size y6).alloc (Nat.le_refl _) (.cells #[.int .i64 x1, .int .i64 x2, .int .i64 x3, .int .i64 x4, .int .i64 x5, .slice av l.length kv] 34)))
  have KE := hide (end_any _ (unhide C6).rd)
  rw [unhide E7] at KE
  have ZZ0 := hide (below_keep (unhide C6).below (unhide Z0))
  have BW0 := hide ((unhide B0).trans ((unhide C6).below.mono (unhide B0).size))
  clear c6 r6 n6 q6 q8 q9 C5 C6 B0 Z0 Q6
  go_wp2_with fail
  generalize y6.alloc (.cells #[.int .i64 x1, .int .i64 x2, .int .i64 x3, .int .i64 x4, .int .i64 x5, .slice av l.length kv] 34) = Y6 at *
  generalize y6.heap.size = bx at *
  refine (unhide KE).mono ?_
  rintro e y7 ⟨rfl, qd, hq⟩
  have T7 : Hid (Touch (fun _ => False) Y6 y7) := hide (by rw [hq]; exact ⟨rfl, rfl, rfl, Nat.le_refl _, fun _ _ _ => rfl⟩)
  have ZZ := hide ((unhide T7).keep (unhide ZZ0) (fun h => h))
  have BX := hide ((unhide T7).keep (unhide HB6) (fun h => h))
  have QA7 := hide ((unhide QA).keep (unhide T7) (fun _ _ _ h => h))
  have BW := hide (below_touch (unhide BW0) (unhide T7) (unhide BW0).size (fun _ h => h.elim))
  clear hq T7 ZZ0 BW0 HB6 QA KE
  have z0 := cell_of (unhide ZZ) 0
  have z1 := cell_of (unhide ZZ) 1
  have z2 := cell_of (unhide ZZ) 2
  have z3 := cell_of (unhide ZZ) 3
  have z4 := cell_of (unhide ZZ) 4
  have z5 := cell_of (unhide ZZ) 5
  have zf := fun j => frozen_of (unhide ZZ) j
  have k0 := cell_of (unhide BX) 0
  have k1 := cell_of (unhide BX) 1
  have k2 := cell_of (unhide BX) 2
  have k3 := cell_of (unhide BX) 3
  have k4 := cell_of (unhide BX) 4
  have k5 := cell_of (unhide BX) 5
  simp at z0 z1 z2 z3 z4 z5 k0 k1 k2 k3 k4 k5
  generalize hzb : w.heap.size = zb at *
  by_cases hn0 : n = 0
  · subst hn0
    have KC := isCmd_any y7 ⟨x1, x2, x3, x4, x5, av, kv, l⟩ hll
    have ei : isC ⟨x1, x2, x3, x4, x5, av, kv, l⟩ = isC ⟨x1, x2, x3, x4, x5, none, 0, l⟩ := rfl
    rw [ei] at KC
    have HKC := hide KC
    unfold cmA at HKC
    simp only at HKC
    clear KC ei
    cases hC : isC ⟨x1, x2, x3, x4, x5, none, 0, l⟩ with
    | false =>
      rw [hC] at HKC
      go_wp2_with (go_at_call 86; refine (unhide HKC).mono ?_; rintro e y8 ⟨rfl, b8⟩; have ZZ1 := hide (below_keep b8 (unhide ZZ)); have BX1 := hide (below_keep b8 (unhide BX)); have QA8 := hide ((unhide QA7).later b8); have BW1 := hide ((unhide BW).trans (b8.mono (by have := (unhide BW).size; omega))); have g0 := cell_of (unhide ZZ1) 0; have g1 := cell_of (unhide ZZ1) 1; have g2 := cell_of (unhide ZZ1) 2; have g3 := cell_of (unhide ZZ1) 3; have g4 := cell_of (unhide ZZ1) 4; have g5 := cell_of (unhide ZZ1) 5; have gf := fun j => frozen_of (unhide ZZ1) j; have j0 := cell_of (unhide BX1) 0; have j1 := cell_of (unhide BX1) 1; have j2 := cell_of (unhide BX1) 2; have j3 := cell_of (unhide BX1) 3; have j4 := cell_of (unhide BX1) 4; have j5 := cell_of (unhide BX1) 5; simp at g0 g1 g2 g3 g4 g5 j0 j1 j2 j3 j4 j5; clear b8)
      obtain ⟨S1, S2⟩ := set6 (.int .i64 0) (.int .i64 0) (.int .i64 0) (.int .i64 0) (.int .i64 0) (.slice none 0 0) (unhide ZZ1)
      generalize ((((((y8.setCell ⟨zb, 0, none⟩ (.int .i64 0)).setCell ⟨zb, 1, none⟩ (.int .i64 0)).setCell ⟨zb, 2, none⟩ (.int .i64 0)).setCell ⟨zb, 3, none⟩ (.int .i64 0)).setCell ⟨zb, 4, none⟩ (.int .i64 0)).setCell ⟨zb, 5, none⟩ (.slice none 0 0)) = Y at *
      have w0 := cell_of S1 0
      have w1 := cell_of S1 1
      have w2 := cell_of S1 2
      have w3 := cell_of S1 3
      have w4 := cell_of S1 4
      have w5 := cell_of S1 5
      simp at w0 w1 w2 w3 w4 w5
      refine bodyPost_ret (by simp [results, Try.results77, go_sem, w0, w1, w2, w3, w4, w5]; try rfl) rfl ?_
      have bb : Below w.heap.size w Y := by
        rw [hzb]
        exact below_touch (unhide BW1) S2 (by have := (unhide BW1).size; omega) (fun k hk => by omega)
      exact ⟨fun h => absurd rfl h, fun _ _ => DeC.zero bb, fun _ h => absurd (hC.symm.trans h) (by simp)⟩
    | true =>
      rw [hC] at HKC
      go_wp2_with (go_at_call 86; refine (unhide HKC).mono ?_; rintro e y8 ⟨rfl, b8⟩; have ZZ1 := hide (below_keep b8 (unhide ZZ)); have BX1 := hide (below_keep b8 (unhide BX)); have QA8 := hide ((unhide QA7).later b8); have BW1 := hide ((unhide BW).trans (b8.mono (by have := (unhide BW).size; omega))); have g0 := cell_of (unhide ZZ1) 0; have g1 := cell_of (unhide ZZ1) 1; have g2 := cell_of (unhide ZZ1) 2; have g3 := cell_of (unhide ZZ1) 3; have g4 := cell_of (unhide ZZ1) 4; have g5 := cell_of (unhide ZZ1) 5; have gf := fun j => frozen_of (unhide ZZ1) j; have j0 := cell_of (unhide BX1) 0; have j1 := cell_of (unhide BX1) 1; have j2 := cell_of (unhide BX1) 2; have j3 := cell_of (unhide BX1) 3; have j4 := cell_of (unhide BX1) 4; have j5 := cell_of (unhide BX1) 5; simp at g0 g1 g2 g3 g4 g5 j0 j1 j2 j3 j4 j5; clear b8)
      obtain ⟨S1, S2⟩ := set6 (.int .i64 x1) (.int .i64 x2) (.int .i64 x3) (.int .i64 x4) (.int .i64 x5) (.slice av l.length kv) (unhide ZZ1)
      generalize ((((((y8.setCell ⟨zb, 0, none⟩ (.int .i64 x1)).setCell ⟨zb, 1, none⟩ (.int .i64 x2)).setCell ⟨zb, 2, none⟩ (.int .i64 x3)).setCell ⟨zb, 3, none⟩ (.int .i64 x4)).setCell ⟨zb, 4, none⟩ (.int .i64 x5)).setCell ⟨zb, 5, none⟩ (.slice av l.length kv)) = Y at *
      have w0 := cell_of S1 0
      have w1 := cell_of S1 1
      have w2 := cell_of S1 2
      have w3 := cell_of S1 3
      have w4 := cell_of S1 4
      have w5 := cell_of S1 5
      simp at w0 w1 w2 w3 w4 w5
      refine bodyPost_ret (by simp [results, Try.results77, go_sem, w0, w1, w2, w3, w4, w5]; try rfl) rfl ?_
      have bb : Below w.heap.size w Y := by
        rw [hzb]
        exact below_touch (unhide BW1) S2 (by have := (unhide BW1).size; omega) (fun k hk => by omega)
      exact ⟨fun h => absurd rfl h, fun _ h => absurd (hC.symm.trans h) (by simp), fun _ _ => ⟨av, kv, rfl, (unhide QA8).keep S2 (fun h0 x hx e => by have := unhide NB x hx; omega), (fun x hx => by have := unhide NB x hx; omega), bb⟩⟩
  · have hnz : ((n : Int) == 0) = false := by simp; omega
    have hnz2 : ¬ (n : Int) = 0 := by omega
    go_wp2
    obtain ⟨S1, S2⟩ := set6 (.int .i64 0) (.int .i64 0) (.int .i64 0) (.int .i64 0) (.int .i64 0) (.slice none 0 0) (unhide ZZ)
    generalize ((((((y7.setCell ⟨zb, 0, none⟩ (.int .i64 0)).setCell ⟨zb, 1, none⟩ (.int .i64 0)).setCell ⟨zb, 2, none⟩ (.int .i64 0)).setCell ⟨zb, 3, none⟩ (.int .i64 0)).setCell ⟨zb, 4, none⟩ (.int .i64 0)).setCell ⟨zb, 5, none⟩ (.slice none 0 0)) = Y at *
    have w0 := cell_of S1 0
    have w1 := cell_of S1 1
    have w2 := cell_of S1 2
    have w3 := cell_of S1 3
    have w4 := cell_of S1 4
    have w5 := cell_of S1 5
    simp at w0 w1 w2 w3 w4 w5
    refine bodyPost_ret (by simp [results, Try.results77, go_sem, w0, w1, w2, w3, w4, w5]; try rfl) rfl ?_
    have bb : Below w.heap.size w Y := by
      rw [hzb]
      exact below_touch (unhide BW) S2 (by have := (unhide BW).size; omega) (fun k hk => by omega)
    exact ⟨fun _ => DeC.zero bb, fun h => absurd h hn0, fun h => absurd h hn0⟩
end Go.Proofs.Ytblmondkdcpkaaa


/-
  wire's reader: a command, whatever its bytes are. Conditions: the reader as it lies.
-/
namespace Go.Proofs.Ytblmondkdcpkaaa
open Go.RowKit
set_option linter.unusedVariables false

/-- A command's bytes, read: its numbers, its list, and what is wrong. -/
def c1 (x : List Nat) := rI x ⟨0, 0⟩
def c2 (x : List Nat) := rI x (c1 x).2
def c3 (x : List Nat) := rI x (c2 x).2
def c4 (x : List Nat) := rI x (c3 x).2
def c5 (x : List Nat) := rI x (c4 x).2
def c6 (x : List Nat) := rL x (c5 x).2
def rawC (x : List Nat) : Cm := ⟨(c1 x).1, (c2 x).1, (c3 x).1, (c4 x).1, (c5 x).1, none, 0, (c6 x).1⟩
def cmdX (x : List Nat) : Int := if rE x (c6 x).2 ≠ 0 then (rE x (c6 x).2 : Int) else if isC (rawC x) = true then 0 else 1
theorem rL_fits {t : List Nat} {s : Rst} (hy : ∀ x ∈ t, x < 256) : ∀ x ∈ (rL t s).1, -9223372036854775808 ≤ x ∧ x < 9223372036854775808 := by
  have hz : ∀ s, I64 (rI t s).1 := fun s => zag_fits (rU_fits hy)
  have hn : ∀ k s l, (∀ x ∈ l, I64 x) → ∀ x ∈ (rNs t k s l).1, I64 x := by
    intro k
    induction k with
    | zero => intro s l h; exact h
    | succ k ih =>
      intro s l h
      rw [rNs]
      split
      · refine ih _ _ (fun x hx => ?_)
        rcases List.mem_append.1 hx with e | e
        · exact h x e
        · rw [List.mem_singleton] at e
          subst e
          exact hz s
      · intro x hx
        cases hx
  unfold rL
  split
  · split
    · intro x hx; cases hx
    · exact hn _ _ _ (fun x hx => by cases hx)
  · intro x hx; cases hx
def cmL (c : Cm) : List Value := [.int .i64 c.kd, .int .i64 c.nd, .int .i64 c.pt, .int .i64 c.ep, .int .i64 c.ve, .slice c.a c.l.length c.k]
theorem cm_one (c : Cm) : (cmL c).toArray.all (·.oneCell') = true := by simp [cmL, Value.oneCell']
theorem info_cm : (Try.prog.info? 34).map (·.size) = some 6 := by kernel_rfl
def cm0 : Cm := ⟨0, 0, 0, 0, 0, none, 0, []⟩
/-- What cmd tells. -/
def CmV (w : World) (r : Cm) (v : Value) (W : World) : Prop := ∃ c : Cm, v = .agg (cmL c).toArray ∧ { c with a := none, k := 0 } = r ∧ CFit c ∧ Keeps w.heap.size W.heap.size W (fun W => CIn W c)
section
variable {w : World} {b : Nat} {a : Option Addr} {cap : Nat} {t : List Nat} {s s' : Rst}
/-- Decode of a command's bytes. -/
theorem cdec_y {x : List Nat} {va : Option Addr} {vc : Nat} {y1 y2 y3 y4 y5 : Int} {s1 s2 s3 s4 s5 s6 : Rst} {l6 : List Int} {n : Nat} {X : Int} (w : World) (l : LAt w va x) (hn : va = none → vc = 0) (hc : x.length ≤ vc) (hl : x.length ≤ 140737488355328)
    (g1 : rI x ⟨0, 0⟩ = (y1, s1)) (g2 : rI x s1 = (y2, s2)) (g3 : rI x s2 = (y3, s3)) (g4 : rI x s3 = (y4, s4)) (g5 : rI x s4 = (y5, s5)) (g6 : rL x s5 = (l6, s6)) (g7 : rE x s6 = n) (hX : X = if n ≠ 0 then (n : Int) else if isC ⟨y1, y2, y3, y4, y5, none, 0, l6⟩ = true then 0 else 1) :
    Calls Try.prog 77 #[.slice va x.length vc] w fun e w' => Below w.heap.size w w' ∧ ∃ c : Cm, e = .returned (.tuple #[.agg (cmL c).toArray, .int .i64 X]) ∧ (X = 0 → { c with a := none, k := 0 } = (⟨y1, y2, y3, y4, y5, none, 0, l6⟩ : Cm) ∧ CFit c ∧ Keeps w.heap.size w'.heap.size w' (fun W => CIn W c)) := by
  have hy := l.bytes
  have hz : ∀ s, I64 (rI x s).1 := fun s => zag_fits (rU_fits hy)
  have q1 : I64 y1 := by have := hz ⟨0, 0⟩; rw [g1] at this; exact this
  have q2 : I64 y2 := by have := hz s1; rw [g2] at this; exact this
  have q3 : I64 y3 := by have := hz s2; rw [g3] at this; exact this
  have q4 : I64 y4 := by have := hz s3; rw [g4] at this; exact this
  have q5 : I64 y5 := by have := hz s4; rw [g5] at this; exact this
  have q6 : ∀ y ∈ l6, -9223372036854775808 ≤ y ∧ y < 9223372036854775808 := by have := rL_fits (s := s5) hy; rw [g6] at this; exact this
  refine (cdecode_any l hn hc hl g1 g2 g3 g4 g5 g6 g7).mono ?_
  clear g1 g2 g3 g4 g5 g6 g7 hz
  rintro e w' ⟨d1, d2, d3⟩
  by_cases h0 : n = 0
  · rw [if_neg (by omega)] at hX
    cases hC : isC ⟨y1, y2, y3, y4, y5, none, 0, l6⟩ with
    | false =>
      obtain ⟨ca, ck, e1, e2, e3, e4⟩ := d2 h0 hC
      rw [hC, if_neg (by decide)] at hX
      subst hX
      exact ⟨e4, ⟨0, 0, 0, 0, 0, ca, ck, []⟩, e1, fun h => absurd h (by decide)⟩
    | true =>
      obtain ⟨ca, ck, e1, e2, e3, e4⟩ := d3 h0 hC
      have hlen : l6.length ≤ 5 := isC_few hC
      rw [hC, if_pos rfl] at hX
      subst hX
      refine ⟨e4, ⟨y1, y2, y3, y4, y5, ca, ck, l6⟩, e1, fun _ => ⟨rfl, ⟨q1, q2, q3, q4, q5, q6⟩, Nat.le_refl _, fun S w'' tc hs => ?_⟩⟩
      refine ⟨e2.keep tc (fun hp y hy' hS => ?_), by show l6.length ≤ maxLen; unfold maxLen; omega⟩
      have h1 := e3 y hy'
      obtain ⟨b', o', e', hb', _⟩ := e2 0 hp
      rw [hy'] at e'
      cases e'
      rcases hs _ hS with e | e
      · simp only at e h1
        omega
      · simp only at e
        omega
  · obtain ⟨ca, ck, e1, e2, e3, e4⟩ := d1 h0
    rw [if_pos h0] at hX
    subst hX
    exact ⟨e4, ⟨0, 0, 0, 0, 0, ca, ck, []⟩, e1, fun h => absurd h (by omega)⟩
theorem pair_eq {α β : Type} (p : α × β) : p = (p.1, p.2) := rfl
theorem cdec_x {x : List Nat} {va : Option Addr} {vc : Nat} (w : World) (l : LAt w va x) (hn : va = none → vc = 0) (hc : x.length ≤ vc) (hl : x.length ≤ 140737488355328) :
    Calls Try.prog 77 #[.slice va x.length vc] w fun e w' => Below w.heap.size w w' ∧ ∃ c : Cm, e = .returned (.tuple #[.agg (cmL c).toArray, .int .i64 (cmdX x)]) ∧ (cmdX x = 0 → { c with a := none, k := 0 } = rawC x ∧ CFit c ∧ Keeps w.heap.size w'.heap.size w' (fun W => CIn W c)) :=
  cdec_y w l hn hc hl (pair_eq (c1 x)) (pair_eq (c2 x)) (pair_eq (c3 x)) (pair_eq (c4 x)) (pair_eq (c5 x)) (pair_eq (c6 x)) (Eq.refl (rE x (c6 x).2)) (Eq.refl (cmdX x))
end
end Go.Proofs.Ytblmondkdcpkaaa


namespace Go.Proofs.Ytblmondkdcpkaaa
open Go.RowKit
set_option linter.unusedVariables false

section
variable {w : World} {b : Nat} {a : Option Addr} {cap : Nat} {t : List Nat} {s s' : Rst}
theorem res_cm {Y : World} {g : Nat} {L : List Value} {tmps : Array Value} (h : Y.heap[g]? = some (.cells L.toArray 34)) (hL : L.length = 6) (ht : tmps[2]?.getD undef = .pointer (some ⟨g, 0, none⟩)) :
    (results Try.f52 tmps).run Try.prog Y = .ok (.agg L.toArray) Y := by
  have hlv := run_loadVar_mid (P := Try.prog) Y g 0 34 L _ (range_all h) Try.underlying34 rfl (by rw [info_cm, hL])
  simp [results, Try.results52, ht, asAddr, hlv]
abbrev zC : Array Value := #[.int .i64 0, .int .i64 0, .int .i64 0, .int .i64 0, .int .i64 0, .slice none 0 0]
set_option maxRecDepth 100000 in
set_option maxHeartbeats 8000000 in
theorem cmd_x {x : List Nat} (h : RdAt 97 w b a cap t s) (e0 : rB t s = (x, s')) :
    Calls Try.prog 52 #[.agg #[.pointer (some ⟨b, 0, none⟩)]] w fun e w' => RP w b a cap t (cmdX x) s' (CmV w (rawC x)) e w' := by
  have R0 := hide (Rg.start h zC 34)
  have HK := hide (rbytes_later (Rg.start h zC 34).rd e0)
  have hlx : x.length ≤ 140737488355328 := by
    have := rB_len (t := t) (s := s)
    rw [e0] at this
    simp only at this
    omega
  clear h e0
  go_enter Try.func52, Try.ntmps52
  go_upto_region 1 with fail
  generalize (w.alloc (.cells #[.pointer (some ⟨b, 0, none⟩)] 84)).alloc (.cells zC 34) = W1 at *
  have z0 := (unhide R0).box
  go_wp2_with fail
  refine (unhide HK).mono ?_
  rintro e w2 ⟨v, rfl, r2, n2, rd2, t2⟩
  obtain ⟨va, vc, ev, l2, lc2, _, nn2, _⟩ := r2.parts
  subst ev
  have R2 := hide ((unhide R0).call rd2 (touch_new t2))
  have KD := hide (cdec_x w2 l2 nn2 lc2 hlx)
  have hs0 := (unhide R0).sz
  have hs2 : W1.heap.size ≤ w2.heap.size := t2.size
  clear r2 n2 rd2 t2 l2 nn2 z0 HK R0 lc2
  generalize x.length = nx at *
  go_wp2_with fail
  refine (unhide KD).mono ?_
  rintro e w3 ⟨b3, c, rfl, k3⟩
  have R3 := hide ((unhide R2).call ((unhide R2).rd.later b3) (Touch.of_below b3))
  have Q3 := hide k3
  clear b3 k3 KD R2
  generalize hRR : rawC x = RC at *
  have HRR := hide hRR
  clear hRR
  have HB : Hid (∀ ob, Below w3.heap.size w3 (w3.alloc ob)) := hide (fun ob => (Below.refl w3.heap.size w3).alloc (Nat.le_refl _) ob)
  have HI : Hid ((Try.prog.info? 34).map (·.size) = some (cmL c).length) := hide info_cm
  have HO := hide (cm_one c)
  have HC : Hid (zC.size = (cmL c).length) := hide rfl
  have hsz3 := (unhide R3).sz
  generalize hLL : cmL c = LL at *
  have HLL := hide hLL
  clear hLL
  generalize hEE : cmdX x = E at *
  have HEE := hide hEE
  clear hEE
  go_upto_region 2 with (with_reducible (show wpList _ _ _ (Oper.mk _ (Op.store _ _ _) _ _ _ _ :: _) _ _); refine store_at rfl (.tmp 3) (.tmp 10) rfl w3.heap.size LL rfl rfl (heap_new w3 _) (unhide HI) (unhide HC) (unhide HO) ?_; rintro W4 q1 q2; have Q1 := hide q1; have R4 := hide ((unhide R3).call (((unhide R3).rd.later (unhide HB _)).keep q2 (fun e => by have := (unhide R3).rd.lt; omega) (fun h0 x hx e => by have := (unhide R3).low h0 x hx; omega)) (((Touch.of_below (S := fun q => q = b ∨ w3.heap.size ≤ q) (unhide HB _))).trans (q2.mono (fun q hq => .inr (by omega))))); have T4 : Hid (Touch (fun q => w3.heap.size ≤ q) w3 W4) := hide ((Touch.of_below (unhide HB _)).trans (q2.mono (fun q hq => by omega))); clear q1 q2)
  clear R3 HB HC
  by_cases hE : E = 0
  · subst hE
    obtain ⟨f1, f2, f3⟩ := unhide Q3 rfl
    have K4 := hide (f3.step (unhide T4) (fun k hk => .inr hk))
    have F1 := hide (And.intro f1 f2)
    have hs4 := (unhide R4).sz
    clear f1 f2 f3 Q3 T4
    go_wp2_with fail
    refine (need_any 0 W4).mono ?_
    rintro e w5 ⟨rfl, he, _⟩
    obtain rfl := he rfl
    clear he
    have HRG := hide (range_all (unhide Q1))
    have HC : Hid (zC.size = LL.length) := hide (by rw [← unhide HLL]; rfl)
    go_wp2_with (first
      | (with_reducible (show wpList _ _ _ (Oper.mk _ (Op.load _ _) _ _ _ _ :: _) _ _); refine wpList_load_mid rfl 34 (.tmp 3) rfl w3.heap.size 0 rfl LL _ (unhide HRG) Try.underlying34 rfl (unhide HI) ?_)
      | (with_reducible (show wpList _ _ _ (Oper.mk _ (Op.store _ _ _) _ _ _ _ :: _) _ _); refine store_at rfl (.tmp 2) (.tmp 14) rfl (w.heap.size + 1) LL rfl rfl (unhide R4).rs (unhide HI) (unhide HC) (unhide HO) ?_; rintro W6 q1 q2; have Q6 := hide q1; have R6 := hide (((unhide R4).rd.keep q2 (fun e => by have := (unhide R4).bl; omega) (fun h0 x hx e => by have := (unhide R4).low h0 x hx; omega))); have T6 := hide ((unhide R4).tc.trans (q2.mono (fun q hq => .inr (by omega)))); have K6 := hide ((unhide K4).step q2 (fun k hk => .inl (by omega))); clear q1 q2))
    have FF : Hid (RP w b a cap t (cmdX x) s' (CmV w (rawC x)) (.returned (.agg LL.toArray)) W6) := hide (by
      rw [unhide HEE, unhide HRR]
      refine ⟨unhide T6, fun _ => ⟨_, rfl, unhide R6, c, by rw [unhide HLL], (unhide F1).1, (unhide F1).2, (unhide K6).wide (by omega) (unhide K6).old (Nat.le_refl _)⟩, fun h => absurd rfl h⟩)
    refine bodyPost_ret (res_cm (unhide Q6) (by rw [← unhide HLL]; rfl) rfl) rfl ?_
    exact unhide FF
  · have hs4 := (unhide R4).sz
    go_wp2_with fail
    refine (need_any E W4).mono ?_
    rintro e w5 ⟨rfl, _, he⟩
    obtain rfl := he hE
    have T5 := hide (unhide R4).tc
    have HE := hide hE
    clear he hE
    go_wp2
    refine ⟨rfl, ?_⟩
    rw [unhide HEE]
    exact ⟨unhide T5, fun h => absurd h (unhide HE), fun _ => rfl⟩
end
end Go.Proofs.Ytblmondkdcpkaaa
