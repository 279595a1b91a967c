/-
  Lists of ints: Contains, Clone, Sort, Compact and append at them, in plain words. Conditions: as each says.
-/
import Derived.Test.YtfbnkeflgddcmaaWd8
import Derived.Test.YtfbnkeflgddcmaaSh15
import Derived.Sort.OwnSortedInts
import Derived.Maps.OwnSet
import Derived.Deep.RegionWith
import Derived.Deep.RegionHeld3
import Derived.Deep.RegionLaw
import Derived.BigQuiet
import Derived.Deep.Onto
namespace Go.Proofs.Ytfbnkeflgddcmaa
open Go.RowKit Go.Maps Go.Sort
set_option linter.unusedVariables false

def ints (l : List Int) : List Value := l.map (Value.int .i64)
theorem ints_len (l : List Int) : (ints l).length = l.length := by simp [ints]
theorem ints_at {l : List Int} {j : Nat} (h : j < l.length) : (ints l)[j]? = some (.int .i64 (l.getD j 0)) := by simp [ints, List.getD, h]
/-- A row of ints of one's own. -/
def IL (w : World) (v : Value) (l : List Int) : Prop := Own w 3 v (ints l)
theorem IL.nil (w : World) : IL w (.slice none 0 0) [] := Own.nil _ _
theorem IL.lt {w : World} {v : Value} {l : List Int} (h : IL w v l) : ∀ k, v.ownBlock = some k → k < w.heap.size := Own.lt h
theorem IL.keep {w w' : World} {v : Value} {l : List Int} {S : Nat → Prop} (h : IL w v l) (t : Touch S w w') (hs : ∀ k, v.ownBlock = some k → ¬ S k) : IL w' v l := Own.keep h t hs
theorem IL.later {w w' : World} {v : Value} {l : List Int} (h : IL w v l) (hb : Below w.heap.size w w') : IL w' v l := Own.later h hb
theorem IL.heap {w : World} {v : Value} {l : List Int} (h : IL w v l) {k : Nat} (hk : v.ownBlock = some k) : ∃ cs, w.heap[k]? = some (.cells cs 3) :=
  Wide.heap (n := (ints l).length) (sz := 1) (xs := ints l) h hk
theorem IL.iat {w : World} {v : Value} {l : List Int} (h : IL w v l) : ∃ a c, v = .slice a l.length c ∧ IAt w a l ∧ l.length ≤ c ∧ c ≤ maxLen ∧ (a = none → c = 0) ∧ (∀ x, a = some x → v.ownBlock = some x.block) := by
  obtain ⟨a, cap, e, h1, h2, h3, h4, h5⟩ := Own.parts h
  rw [ints_len] at e h1 h5
  refine ⟨a, cap, e, fun i hi => ?_, h1, h2, h3, h4⟩
  obtain ⟨g, ha, hg, hc⟩ := h5 i hi
  refine ⟨g, 0, ha, hg, ?_⟩
  rw [Nat.zero_add]
  exact hc.1.trans (ints_at hi)
theorem IL.len {w : World} {v : Value} {l : List Int} (h : IL w v l) : l.length ≤ maxLen := by
  obtain ⟨a, c, _, _, h1, h2, _⟩ := h.iat
  omega

theorem clonei_any {w : World} {a : Option Addr} {l : List Int} {c : Nat} (h : IAt w a l) (hl : l.length * 8 ≤ 140737488355328) (h0 : a = none → l = []) :
    Calls Try.prog 24 #[.slice a l.length c] w fun e w' => ∃ v, e = .returned v ∧ IL w' v l ∧ New w v ∧ Below w.heap.size w w' := by
  match a, h, h0 with
  | none, h, h0 =>
    obtain rfl := h0 rfl
    have K := Any.slices_Clone_int_nil Try.lays215 0 c w
    change Calls Try.prog 24 _ _ _ at K
    refine K.mono ?_
    rintro e w' ⟨rfl, rfl⟩
    exact ⟨_, rfl, IL.nil _, New.nil _, Below.refl _ _⟩
  | some x, h, h0 =>
    match l, h, hl with
    | [], h, hl =>
      have K := Any.slices_Clone_int_zero Try.lays215 x c w
      change Calls Try.prog 24 _ _ _ at K
      refine K.mono ?_
      rintro e w' ⟨v, rfl, h1, _, h3⟩
      exact ⟨v, rfl, World.ownsRow.mono h1 (Nat.zero_le _), fun k hk => (World.ownsRow.lt h1 k hk).1, h3⟩
    | y :: r, h, hl =>
      obtain ⟨b, off, e, _, _⟩ := h 0 (by simp)
      cases e
      have K := Any.slices_Clone_int Try.lays215 b off (y :: r).length c (y :: r) w (Nat.le_refl _) hl (fun j hj => by
        obtain ⟨b', off', e, _, hc⟩ := h j hj
        cases e
        exact hc)
      change Calls Try.prog 24 _ _ _ at K
      rw [List.take_length] at K
      refine K.mono ?_
      rintro e w' ⟨v, rfl, h1, _, h3⟩
      refine ⟨v, rfl, ?_, fun k hk => (World.ownsRow.lt h1 k hk).1, h3⟩
      have h2 := World.ownsRow.mono h1 (Nat.zero_le _)
      show World.ownsRow _ _ _ _ _ _ _
      rw [ints_len]
      exact h2

theorem wrap_low {i : Int} (h0 : 0 ≤ i) (h1 : i ≤ 9223372036854775807) : IntKind.i64.wrap i = i := by
  simp only [IntKind.wrap, IntKind.bits, IntKind.signed]
  simp
  omega
theorem wrap64_low {i : Int} (h0 : 0 ≤ i) (h1 : i ≤ 9223372036854775807) : wrap64 i = i := by
  unfold wrap64; omega

theorem intinfo13 : ∃ i, Try.prog.info? 3 = some i ∧ i.zero = some (.int .i64 0) ∧ i.size = 1 ∧ i.bytes = 8 := by
  have h : (Try.prog.info? 3).map (fun i => (i.zero, i.size, i.bytes)) = some (some (.int .i64 0), 1, 8) := by kernel_rfl
  exact info_parts h
theorem src_ints {w : World} {a : Option Addr} {l : List Int} (h : IAt w a l) : ∀ j u, (ints l)[j]? = some u → ∃ b off, a = some ⟨b, off, none⟩ ∧ w.cell? ⟨b, off + j, none⟩ = some u := by
  intro j u hj
  have hj' : j < l.length := by
    have := (List.getElem?_eq_some_iff.1 hj).1
    rwa [ints_len] at this
  obtain ⟨b, off, h1, _, h3⟩ := h j hj'
  refine ⟨b, off, h1, ?_⟩
  rw [h3, ← hj, ints_at hj']
theorem one_ints (l : List Int) : ∀ u ∈ ints l, u.oneCell' = true := by
  intro u hu
  obtain ⟨x, _, rfl⟩ := List.mem_map.1 hu
  rfl
theorem ints_app (a b : List Int) : ints a ++ ints b = ints (a ++ b) := by simp [ints]
/-- append(row, ints...). -/
theorem wpList_ints (w : World) {ops : Array Oper} {rest : List Oper} {o : Oper} {a : Act} {Q : Exit → Act → World → Prop}
    (hg : o.guard = none) (s x : Operand) (hop : o.op = Op.call { callee := Callee.builtin Builtin.append, args := #[s, x], argTypes := #[27, 27] })
    (v : Value) (l : List Int) (hs : a.eval s = v) (hr : IL w v l) (ao : Option Addr) (c : Nat) (l2 : List Int) (hx : a.eval x = .slice ao l2.length c) (hb : IAt w ao l2) (hnone : ao = none → c = 0) (hlen : l.length + l2.length ≤ 17592186044416)
    (hK : ∀ v' w', IL w' v' (l ++ l2) → Touch (fun k => v.ownBlock = some k) w w' → Moved w v v' → wpList Try.prog ops Q rest (a.put o.dst v') w') :
    wpList Try.prog ops Q (o :: rest) a w := by
  obtain ⟨i, hi, hz, hsz, hby⟩ := intinfo13
  refine wpList_app w hg s x 27 hop 3 i (.int .i64 0) 8 Try.underlying27 hi hz hsz hby rfl v (ints l) hs hr ao l2.length c (ints l2) hx (ints_len l2) (src_ints hb) (one_ints l2) hnone (by rw [ints_len]; unfold maxLen; omega) (by rw [ints_len]; omega) ?_
  intro v' w' h1 h2 h3
  exact hK v' w' (by unfold IL; rw [← ints_app]; exact h1) h2 h3

/-- Sorted. -/
def srt (l : List Int) : List Int := l.mergeSort fun x y => decide (x ≤ y)
theorem IAt.one (w : World) (x : Int) (t : TypeId) : IAt (w.alloc (.cells #[.int .i64 x] t)) (some ⟨w.heap.size, 0, none⟩) [x] := by
  intro i hi
  have : i = 0 := by simp at hi; exact hi
  subst this
  refine ⟨w.heap.size, 0, rfl, by simp, ?_⟩
  rw [cell_of (heap_new w _)]
  rfl
theorem New.below {w0 w w' : World} {v : Value} (hn : New w0 v) (hb : Below w0.heap.size w0 w) (t : Touch (fun k => v.ownBlock = some k) w w') : Below w0.heap.size w0 w' :=
  below_touch hb t hb.size (fun k hk => hn k hk)
end Go.Proofs.Ytfbnkeflgddcmaa
