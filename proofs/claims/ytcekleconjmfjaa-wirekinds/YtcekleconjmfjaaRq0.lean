/-
  Cells laid one behind the other; a reader that is handed about; the message without anything. Conditions: as each says.
-/
import Derived.Test.YtcekleconjmfjaaWqa
import Derived.Deep.RegionHeld3
namespace Go.Proofs.Ytcekleconjmfjaa
open Go.RowKit
set_option linter.unusedVariables false

/-- Cells are laid from a place on. -/
def lay (cs : Array Value) : Nat → List Value → Array Value
  | _, [] => cs
  | o, v :: r => lay (cs.setIfInBounds o v) (o + 1) r
theorem heap_setCells {g : Nat} {t : TypeId} : ∀ (vs : List Value) (o : Nat) (u : World) (cs : Array Value), u.heap[g]? = some (.cells cs t) → (u.setCells g o vs).heap[g]? = some (.cells (lay cs o vs) t) ∧ Touch (· = g) u (u.setCells g o vs)
  | [], o, u, cs, h => ⟨h, Touch.refl _ _⟩
  | v :: r, o, u, cs, h => by
    have h1 := heap_set h o v
    obtain ⟨q1, q2⟩ := heap_setCells r (o + 1) (u.setCell ⟨g, o, none⟩ v) (cs.setIfInBounds o v) h1
    exact ⟨q1, (touch_set u g o v).trans q2⟩
theorem lay_size : ∀ (vs : List Value) (o : Nat) (cs : Array Value), (lay cs o vs).size = cs.size
  | [], _, _ => rfl
  | v :: r, o, cs => by rw [lay, lay_size r]; simp
theorem lay_at : ∀ (vs : List Value) (o : Nat) (cs : Array Value) (i : Nat), (lay cs o vs)[i]? = if o ≤ i ∧ i < o + vs.length ∧ i < cs.size then vs[i - o]? else cs[i]?
  | [], o, cs, i => by
    rw [lay, if_neg]
    simp
    omega
  | v :: r, o, cs, i => by
    rw [lay, lay_at r]
    by_cases h : i = o
    · subst h
      rw [if_neg (by omega)]
      by_cases hs : i < cs.size
      · rw [if_pos (by simp; omega)]
        simp [hs]
      · rw [if_neg (by omega)]
        simp [hs]
    · by_cases hs : o + 1 ≤ i ∧ i < o + 1 + r.length ∧ i < cs.size
      · rw [if_pos (by simpa using hs), if_pos (by simp; omega)]
        have e : i - o = i - (o + 1) + 1 := by omega
        rw [e, List.getElem?_cons_succ]
      · rw [if_neg (by simpa using hs), if_neg (by simp; omega)]
        rw [Array.getElem?_setIfInBounds_ne (by omega)]
theorem lay_all {cs : Array Value} {vs : List Value} (h : cs.size = vs.length) : lay cs 0 vs = vs.toArray := by
  refine Array.ext_getElem? fun i => ?_
  rw [lay_at]
  by_cases hi : i < vs.length
  · rw [if_pos (by omega)]
    simp
  · rw [if_neg (by omega), Array.getElem?_eq_none (by omega)]
    simp
    omega
theorem there_of {u : World} {g o n : Nat} {cs : Array Value} {t : TypeId} (h : u.heap[g]? = some (.cells cs t)) (hn : o + n ≤ cs.size) : u.there g o n := fun j hj => by
  refine ⟨?_, frozen_of h (o + j)⟩
  rw [cell_of h]
  simp
  omega
def mg0 : Mg := ⟨0, 0, 0, 0, 0, 0, 0, 0, 0, 0, 0, 0, false, [], none, 0, [], none, 0, 0, 0, 0, 0, 0, 0, 0, 0, 0, false, 0, 0, 0, 0, [], none, 0, ⟨0, 0, 0, 0, 0, none, 0, []⟩, ⟨0, 0, 0, 0, 0, false, false, false, []⟩, none, 0, 0, 0, 0, 0, 0, 0, false, 0, 0, 0, [], none, 0, [], none, 0, [], none, 0, 0⟩
theorem mg_one (m : Mg) : (mgL m).toArray.all (·.oneCell') = true := by simp [mgL, Value.oneCell']
theorem mg_size (m : Mg) : (mgL m).toArray.size = 59 := rfl
theorem info_mga (m : Mg) : (Try.prog.info? 41).map (·.size) = some (mgL m).toArray.size := info_msg
theorem res_head {Y : World} {g : Nat} {m : Mg} {tmps : Array Value} (h : Y.heap[g]? = some (.cells (mgL m).toArray 41)) (ht : tmps[2]?.getD undef = .pointer (some ⟨g, 0, none⟩)) :
    (results Try.f48 tmps).run Try.prog Y = .ok (.agg (mgL m).toArray) Y := by
  have hlv := run_loadVar_mid (P := Try.prog) Y g 0 41 (mgL m) _ (range_of h (fun j v hv => by rw [Nat.zero_add]; exact hv)) Try.underlying41 rfl (info_mg m)
  simp [results, Try.results48, ht, asAddr, hlv]
theorem res_msg {Y : World} {g : Nat} {m : Mg} {tmps : Array Value} (h : Y.heap[g]? = some (.cells (mgL m).toArray 41)) (ht : tmps[2]?.getD undef = .pointer (some ⟨g, 0, none⟩)) :
    (results Try.f35 tmps).run Try.prog Y = .ok (.agg (mgL m).toArray) Y := by
  have hlv := run_loadVar_mid (P := Try.prog) Y g 0 41 (mgL m) _ (range_of h (fun j v hv => by rw [Nat.zero_add]; exact hv)) Try.underlying41 rfl (info_mg m)
  simp [results, Try.results35, ht, asAddr, hlv]
theorem res_dec {Y : World} {g : Nat} {m : Mg} {E : Int} {tmps : Array Value} (h : Y.heap[g]? = some (.cells (mgL m).toArray 41)) (ht : tmps[2]?.getD undef = .pointer (some ⟨g, 0, none⟩)) (h3 : tmps[3]?.getD undef = .int .i64 E) :
    (results Try.f13 tmps).run Try.prog Y = .ok (.tuple #[.agg (mgL m).toArray, .int .i64 E]) Y := by
  have hlv := run_loadVar_mid (P := Try.prog) Y g 0 41 (mgL m) _ (range_of h (fun j v hv => by rw [Nat.zero_add]; exact hv)) Try.underlying41 rfl (info_mg m)
  simp [results, Try.results13, ht, h3, asAddr, hlv]
end Go.Proofs.Ytcekleconjmfjaa
