/-
  A block of nine cells that is laid cell by cell. Plain lemmas: no Go text is read here. No conditions.
-/
import Derived.Test.YtblmondkdcpkaaaZ14
import Derived.Deep.RegionHeld3
import Derived.Test.YtblmondkdcpkaaaZ01

/-
  Cells laid one behind the other; a reader that is handed about; the message without anything. Conditions: as each says.
-/
namespace Go.Proofs.Ytblmondkdcpkaaa
open Go.RowKit
set_option linter.unusedVariables false

/-- Cells are laid from a place on. -/
def lay (cs : Array Value) : Nat → List Value → Array Value
  | _, [] => cs
  | o, v :: r => lay (cs.setIfInBounds o v) (o + 1) r
theorem heap_setCells {g : Nat} {t : TypeId} : ∀ (vs : List Value) (o : Nat) (u : World) (cs : Array Value), u.heap[g]? = some (.cells cs t) → (u.setCells g o vs).heap[g]? = some (.cells (lay cs o vs) t) ∧ Touch (· = g) u (u.setCells g o vs)
  | [], o, u, cs, h => ⟨h, Touch.refl _ _⟩
  | v :: r, o, u, cs, h => by
    have h1 := heap_set h o v
    obtain ⟨q1, q2⟩ := heap_setCells r (o + 1) (u.setCell ⟨g, o, none⟩ v) (cs.setIfInBounds o v) h1
    exact ⟨q1, (touch_set u g o v).trans q2⟩
theorem lay_size : ∀ (vs : List Value) (o : Nat) (cs : Array Value), (lay cs o vs).size = cs.size
  | [], _, _ => rfl
  | v :: r, o, cs => by rw [lay, lay_size r]; simp
theorem lay_at : ∀ (vs : List Value) (o : Nat) (cs : Array Value) (i : Nat), (lay cs o vs)[i]? = if o ≤ i ∧ i < o + vs.length ∧ i < cs.size then vs[i - o]? else cs[i]?
  | [], o, cs, i => by
    rw [lay, if_neg]
    simp
    omega
  | v :: r, o, cs, i => by
    rw [lay, lay_at r]
    by_cases h : i = o
    · subst h
      rw [if_neg (by omega)]
      by_cases hs : i < cs.size
      · rw [if_pos (by simp; omega)]
        simp [hs]
      · rw [if_neg (by omega)]
        simp [hs]
    · by_cases hs : o + 1 ≤ i ∧ i < o + 1 + r.length ∧ i < cs.size
      · rw [if_pos (by simpa using hs), if_pos (by simp; omega)]
        have e : i - o = i - (o + 1) + 1 := by omega
        rw [e, List.getElem?_cons_succ]
      · rw [if_neg (by simpa using hs), if_neg (by simp; omega)]
        rw [Array.getElem?_setIfInBounds_ne (by omega)]
theorem lay_all {cs : Array Value} {vs : List Value} (h : cs.size = vs.length) : lay cs 0 vs = vs.toArray := by
  refine Array.ext_getElem? fun i => ?_
  rw [lay_at]
  by_cases hi : i < vs.length
  · rw [if_pos (by omega)]
    simp
  · rw [if_neg (by omega), Array.getElem?_eq_none (by omega)]
    simp
    omega
theorem there_of {u : World} {g o n : Nat} {cs : Array Value} {t : TypeId} (h : u.heap[g]? = some (.cells cs t)) (hn : o + n ≤ cs.size) : u.there g o n := fun j hj => by
  refine ⟨?_, frozen_of h (o + j)⟩
  rw [cell_of h]
  simp
  omega
def mg0 : Mg := ⟨0, 0, 0, 0, 0, 0, 0, 0, 0, 0, 0, 0, false, [], none, 0, [], none, 0, 0, 0, 0, 0, 0, 0, 0, 0, 0, false, 0, 0, 0, 0, [], none, 0, ⟨0, 0, 0, 0, 0, none, 0, []⟩, ⟨0, 0, 0, 0, 0, false, false, false, []⟩, none, 0, 0, 0, 0, 0, 0, 0, false, 0, 0, 0, [], none, 0, [], none, 0, [], none, 0, 0⟩
theorem mg_one (m : Mg) : (mgL m).toArray.all (·.oneCell') = true := by simp [mgL, Value.oneCell']
theorem mg_size (m : Mg) : (mgL m).toArray.size = 59 := rfl
theorem info_mga (m : Mg) : (Try.prog.info? 41).map (·.size) = some (mgL m).toArray.size := info_msg
theorem res_head {Y : World} {g : Nat} {m : Mg} {tmps : Array Value} (h : Y.heap[g]? = some (.cells (mgL m).toArray 41)) (ht : tmps[2]?.getD undef = .pointer (some ⟨g, 0, none⟩)) :
    (results Try.f48 tmps).run Try.prog Y = .ok (.agg (mgL m).toArray) Y := by
  have hlv := run_loadVar_mid (P := Try.prog) Y g 0 41 (mgL m) _ (range_of h (fun j v hv => by rw [Nat.zero_add]; exact hv)) Try.underlying41 rfl (info_mg m)
  simp [results, Try.results48, ht, asAddr, hlv]
theorem res_msg {Y : World} {g : Nat} {m : Mg} {tmps : Array Value} (h : Y.heap[g]? = some (.cells (mgL m).toArray 41)) (ht : tmps[2]?.getD undef = .pointer (some ⟨g, 0, none⟩)) :
    (results Try.f35 tmps).run Try.prog Y = .ok (.agg (mgL m).toArray) Y := by
  have hlv := run_loadVar_mid (P := Try.prog) Y g 0 41 (mgL m) _ (range_of h (fun j v hv => by rw [Nat.zero_add]; exact hv)) Try.underlying41 rfl (info_mg m)
  simp [results, Try.results35, ht, asAddr, hlv]
theorem res_dec {Y : World} {g : Nat} {m : Mg} {E : Int} {tmps : Array Value} (h : Y.heap[g]? = some (.cells (mgL m).toArray 41)) (ht : tmps[2]?.getD undef = .pointer (some ⟨g, 0, none⟩)) (h3 : tmps[3]?.getD undef = .int .i64 E) :
    (results Try.f13 tmps).run Try.prog Y = .ok (.tuple #[.agg (mgL m).toArray, .int .i64 E]) Y := by
  have hlv := run_loadVar_mid (P := Try.prog) Y g 0 41 (mgL m) _ (range_of h (fun j v hv => by rw [Nat.zero_add]; exact hv)) Try.underlying41 rfl (info_mg m)
  simp [results, Try.results13, ht, h3, asAddr, hlv]
end Go.Proofs.Ytblmondkdcpkaaa


/-
  What wire's head leaves. Conditions: none.
-/
namespace Go.Proofs.Ytblmondkdcpkaaa
open Go.RowKit
set_option linter.unusedVariables false
def hdM (x1 x2 x3 x4 x5 : Int) : Mg := { mg0 with kd := x1, fr := x2, tt := x3, co := x4, er := x5 }
/-- What head leaves. -/
def HdP (w : World) (b : Nat) (a : Option Addr) (cap : Nat) (t : List Nat) (s5 : Rst) (x1 x2 x3 x4 x5 : Int) (e : Ending) (w' : World) : Prop :=
  Touch (fun q => q = b ∨ w.heap.size ≤ q) w w' ∧ (kndE x1 = 0 → e = .returned (.agg (mgL (hdM x1 x2 x3 x4 x5)).toArray) ∧ RdAt 97 w' b a cap t s5) ∧ (kndE x1 ≠ 0 → e = gone 1)
/-- A reader's number, read in any later world. -/
theorem rint_later {w W : World} {b : Nat} {a : Option Addr} {cap : Nat} {t : List Nat} {s s' : Rst} {x : Int} (h : RdAt 97 w b a cap t s) (e : rI t s = (x, s')) (hb : Below w.heap.size w W) :
    Calls Try.prog 70 #[.pointer (some ⟨b, 0, none⟩)] W fun e w' => e = .returned (.int .i64 x) ∧ RdAt 97 w' b a cap t s' ∧ Touch (· = b) W w' := by
  have := rint_any W (h.later hb)
  rw [e] at this
  exact this
end Go.Proofs.Ytblmondkdcpkaaa


namespace Go.Proofs.Ytblmondkdcpkaaa
open Go.RowKit
set_option linter.unusedVariables false

theorem set1 {u : World} {g : Nat} {cs cs' : Array Value} {t : TypeId} (h : u.heap[g]? = some (.cells cs t)) (i : Nat) (v : Value) (e : cs.setIfInBounds i v = cs') : (u.setCell ⟨g, i, none⟩ v).heap[g]? = some (.cells cs' t) := by
  rw [← e]; exact heap_set h i v
/-- Nine cells are laid one behind the other. -/
theorem set9 {u : World} {g : Nat} {cs : Array Value} {t : TypeId} (h : u.heap[g]? = some (.cells cs t)) (hs : cs.size = 9) (v0 v1 v2 v3 v4 v5 v6 v7 v8 : Value) :
    (((((((((u.setCell ⟨g, 0, none⟩ v0).setCell ⟨g, 1, none⟩ v1).setCell ⟨g, 2, none⟩ v2).setCell ⟨g, 3, none⟩ v3).setCell ⟨g, 4, none⟩ v4).setCell ⟨g, 5, none⟩ v5).setCell ⟨g, 6, none⟩ v6).setCell ⟨g, 7, none⟩ v7).setCell ⟨g, 8, none⟩ v8).heap[g]? = some (.cells #[v0, v1, v2, v3, v4, v5, v6, v7, v8] t) ∧ Touch (· = g) u (((((((((u.setCell ⟨g, 0, none⟩ v0).setCell ⟨g, 1, none⟩ v1).setCell ⟨g, 2, none⟩ v2).setCell ⟨g, 3, none⟩ v3).setCell ⟨g, 4, none⟩ v4).setCell ⟨g, 5, none⟩ v5).setCell ⟨g, 6, none⟩ v6).setCell ⟨g, 7, none⟩ v7).setCell ⟨g, 8, none⟩ v8) := by
  match cs, hs with
  | ⟨[c0, c1, c2, c3, c4, c5, c6, c7, c8]⟩, _ =>
    have e0 := set1 h 0 v0 (cs' := #[v0, c1, c2, c3, c4, c5, c6, c7, c8]) rfl
    have e1 := set1 e0 1 v1 (cs' := #[v0, v1, c2, c3, c4, c5, c6, c7, c8]) rfl
    have e2 := set1 e1 2 v2 (cs' := #[v0, v1, v2, c3, c4, c5, c6, c7, c8]) rfl
    have e3 := set1 e2 3 v3 (cs' := #[v0, v1, v2, v3, c4, c5, c6, c7, c8]) rfl
    have e4 := set1 e3 4 v4 (cs' := #[v0, v1, v2, v3, v4, c5, c6, c7, c8]) rfl
    have e5 := set1 e4 5 v5 (cs' := #[v0, v1, v2, v3, v4, v5, c6, c7, c8]) rfl
    have e6 := set1 e5 6 v6 (cs' := #[v0, v1, v2, v3, v4, v5, v6, c7, c8]) rfl
    have e7 := set1 e6 7 v7 (cs' := #[v0, v1, v2, v3, v4, v5, v6, v7, c8]) rfl
    have e8 := set1 e7 8 v8 (cs' := #[v0, v1, v2, v3, v4, v5, v6, v7, v8]) rfl
    refine ⟨e8, ?_⟩
    have t0 := touch_set u g 0 v0
    have t1 := t0.trans (touch_set _ g 1 v1)
    have t2 := t1.trans (touch_set _ g 2 v2)
    have t3 := t2.trans (touch_set _ g 3 v3)
    have t4 := t3.trans (touch_set _ g 4 v4)
    have t5 := t4.trans (touch_set _ g 5 v5)
    have t6 := t5.trans (touch_set _ g 6 v6)
    have t7 := t6.trans (touch_set _ g 7 v7)
    have t8 := t7.trans (touch_set _ g 8 v8)
    exact t8
theorem set9_cells {u : World} {g : Nat} {cs : Array Value} {t : TypeId} (h : u.heap[g]? = some (.cells cs t)) (hs : cs.size = 9) (v0 v1 v2 v3 v4 v5 v6 v7 v8 : Value) :
    (u.setCell ⟨g, 0, none⟩ v0).cell? ⟨g, 0, none⟩ = some v0 ∧ ((u.setCell ⟨g, 0, none⟩ v0).setCell ⟨g, 1, none⟩ v1).cell? ⟨g, 1, none⟩ = some v1 ∧ (((u.setCell ⟨g, 0, none⟩ v0).setCell ⟨g, 1, none⟩ v1).setCell ⟨g, 2, none⟩ v2).cell? ⟨g, 2, none⟩ = some v2 ∧ ((((u.setCell ⟨g, 0, none⟩ v0).setCell ⟨g, 1, none⟩ v1).setCell ⟨g, 2, none⟩ v2).setCell ⟨g, 3, none⟩ v3).cell? ⟨g, 3, none⟩ = some v3 ∧ (((((u.setCell ⟨g, 0, none⟩ v0).setCell ⟨g, 1, none⟩ v1).setCell ⟨g, 2, none⟩ v2).setCell ⟨g, 3, none⟩ v3).setCell ⟨g, 4, none⟩ v4).cell? ⟨g, 4, none⟩ = some v4 ∧ ((((((u.setCell ⟨g, 0, none⟩ v0).setCell ⟨g, 1, none⟩ v1).setCell ⟨g, 2, none⟩ v2).setCell ⟨g, 3, none⟩ v3).setCell ⟨g, 4, none⟩ v4).setCell ⟨g, 5, none⟩ v5).cell? ⟨g, 5, none⟩ = some v5 ∧ (((((((u.setCell ⟨g, 0, none⟩ v0).setCell ⟨g, 1, none⟩ v1).setCell ⟨g, 2, none⟩ v2).setCell ⟨g, 3, none⟩ v3).setCell ⟨g, 4, none⟩ v4).setCell ⟨g, 5, none⟩ v5).setCell ⟨g, 6, none⟩ v6).cell? ⟨g, 6, none⟩ = some v6 ∧ ((((((((u.setCell ⟨g, 0, none⟩ v0).setCell ⟨g, 1, none⟩ v1).setCell ⟨g, 2, none⟩ v2).setCell ⟨g, 3, none⟩ v3).setCell ⟨g, 4, none⟩ v4).setCell ⟨g, 5, none⟩ v5).setCell ⟨g, 6, none⟩ v6).setCell ⟨g, 7, none⟩ v7).cell? ⟨g, 7, none⟩ = some v7 ∧ (((((((((u.setCell ⟨g, 0, none⟩ v0).setCell ⟨g, 1, none⟩ v1).setCell ⟨g, 2, none⟩ v2).setCell ⟨g, 3, none⟩ v3).setCell ⟨g, 4, none⟩ v4).setCell ⟨g, 5, none⟩ v5).setCell ⟨g, 6, none⟩ v6).setCell ⟨g, 7, none⟩ v7).setCell ⟨g, 8, none⟩ v8).cell? ⟨g, 8, none⟩ = some v8 := by
  match cs, hs with
  | ⟨[c0, c1, c2, c3, c4, c5, c6, c7, c8]⟩, _ =>
    have e0 := set1 h 0 v0 (cs' := #[v0, c1, c2, c3, c4, c5, c6, c7, c8]) rfl
    have e1 := set1 e0 1 v1 (cs' := #[v0, v1, c2, c3, c4, c5, c6, c7, c8]) rfl
    have e2 := set1 e1 2 v2 (cs' := #[v0, v1, v2, c3, c4, c5, c6, c7, c8]) rfl
    have e3 := set1 e2 3 v3 (cs' := #[v0, v1, v2, v3, c4, c5, c6, c7, c8]) rfl
    have e4 := set1 e3 4 v4 (cs' := #[v0, v1, v2, v3, v4, c5, c6, c7, c8]) rfl
    have e5 := set1 e4 5 v5 (cs' := #[v0, v1, v2, v3, v4, v5, c6, c7, c8]) rfl
    have e6 := set1 e5 6 v6 (cs' := #[v0, v1, v2, v3, v4, v5, v6, c7, c8]) rfl
    have e7 := set1 e6 7 v7 (cs' := #[v0, v1, v2, v3, v4, v5, v6, v7, c8]) rfl
    have e8 := set1 e7 8 v8 (cs' := #[v0, v1, v2, v3, v4, v5, v6, v7, v8]) rfl
    have f0 := cell_of e0 0
    have f1 := cell_of e1 1
    have f2 := cell_of e2 2
    have f3 := cell_of e3 3
    have f4 := cell_of e4 4
    have f5 := cell_of e5 5
    have f6 := cell_of e6 6
    have f7 := cell_of e7 7
    have f8 := cell_of e8 8
    exact ⟨f0, f1, f2, f3, f4, f5, f6, f7, f8⟩
end Go.Proofs.Ytblmondkdcpkaaa
