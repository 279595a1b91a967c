/-
  epochs' Cache: All, and what it hands out: all epochs in their order, or the first of them. Conditions: the cache is one; at most 8 * 10^12 epochs.
-/
import Derived.Test.YtfpcocagifmpbaaEc3
import Derived.RangeFuncNested
import Derived.RangeFuncBound
import Derived.RangeFuncCalls
import Derived.RangeFuncLeaves
import Derived.RangeFuncWrites
import Derived.RangeFuncBox
import Derived.Shelf.Abstract
import Derived.Shelf.RegionOpen
import Derived.OwnWalkIn
import Derived.TacticsInMore
import Derived.LoopNIn
import Derived.LoopIn
namespace Go.Proofs.Ytfpcocagifmpbaa
open Go.RowKit Go.Shelf
set_option linter.unusedVariables false
attribute [local go_sem] Oper.semAt_some

theorem prC_one (l : List Pr) : ∀ u ∈ l.flatMap prC, u.oneCell' = true := by
  intro u hu
  obtain ⟨p, _, hp⟩ := List.mem_flatMap.1 hu
  simp at hp
  rcases hp with rfl | rfl <;> rfl
/-- append(row, elements...) to a row that the call has made. -/
theorem wpList_many {P : Program} (w : World) {ops : Array Oper} {rest : List Oper} {o : Oper} {a : Act} {Q : Exit → Act → World → Prop}
    (hg : o.guard = none) (s x : Operand) (t : TypeId) (hop : o.op = Op.call { callee := Callee.builtin Builtin.append, args := #[s, x], argTypes := #[t, t] })
    (B : Nat) (e : TypeId) (i : TypeInfo) (z : Value) (sz bytes : Nat) (ht : P.underlying t = some (.slice e)) (hi : P.info? e = some i) (hz : i.zero = some z)
    (hsize : i.size = sz) (hby : i.bytes = bytes) (hzs : z.cells.size = sz) (hsz : 0 < sz) (v : Value) (n : Nat) (xs : List Value) (hs : a.eval s = v) (hown : w.ownsRow B e sz v n xs) (hB : B ≤ w.heap.size)
    (g off m c : Nat) (news : List Value) (hx : a.eval x = .slice (some ⟨g, off, none⟩) m c) (hm : news.length = m * sz) (hnews : ∀ j u, news[j]? = some u → w.cell? ⟨g, off + j, none⟩ = some u) (h1 : ∀ u ∈ news, u.oneCell' = true)
    (h63 : n + m ≤ maxLen) (hbytes : (n + m) * bytes ≤ 140737488355328)
    (hK : ∀ v' w', w'.ownsRow B e sz v' (n + m) (xs ++ news) → Touch (fun k => v.ownBlock = some k) w w' → wpList P ops Q rest (a.put o.dst v') w') :
    wpList P ops Q (o :: rest) a w := by
  refine wpList_plain hg fun K hK' => ?_
  obtain ⟨v', w', hrun, o', g', _⟩ := run_append_own (P := P) w B t o.type e i z sz bytes ht hi hz hsize hby hzs hsz v n xs hown ⟨g, off, none⟩ m c news hm (fun j u hj => by rw [addr_add]; exact hnews j u hj) h1 h63 hbytes hB
  unfold Oper.wp
  simp [execOp, hop, resolve, invoke, builtin, hs, hx, hrun, Result.andThen]
  exact hK' _ _ (hK v' w' o' ⟨g'.os, g'.tape, g'.output, g'.size, fun k hk hs => g'.block k hk (fun e => hs e.symm)⟩)

/-- A row of epochs that a call has made. -/
def RowP (B : Nat) (w : World) (v : Value) (l : List Pr) : Prop := w.ownsRow B 52 2 v l.length (l.flatMap prC)
set_option maxRecDepth 100000 in
set_option maxHeartbeats 1000000 in
theorem clone10_any {w : World} {v : Value} {l : List Pr} (h : Wide w 52 2 v l.length (l.flatMap prC)) (hn : l.length ≤ 8000000000000) :
    Calls Try.prog 21 #[v] w fun e w' => ∃ v', e = .returned v' ∧ RowP w.heap.size w' v' l ∧ Below w.heap.size w w' := by
  have hnil := fun (w : World) (a : Option Addr) (l c : Nat) => eql_nil (P := Try.prog) w 48 52 a l c Try.underlying48
  rcases h.2 with ⟨rfl, h0⟩ | ⟨g, cap, cur, rfl, hb, hgg, hnc, hcm, hcs, htk⟩
  · have hl : l = [] := List.eq_nil_of_length_eq_zero h0
    subst hl
    clear h
    go_enter Try.func21, Try.ntmps21
    go_wp2
    go_returns
    exact ⟨_, rfl, World.ownsRow_nil _ _ _ _, Below.refl _ _⟩
  · have hg := lt_of_heap hgg
    have SRC : Hid (∀ j u, (l.flatMap prC)[j]? = some u → (w.alloc (.cells #[] 52)).cell? ⟨g, 0 + j, none⟩ = some u) := fun j u hj => by
      have hlen := flat_len prC prC_len l
      have hjl : j < l.length * 2 := by have := (List.getElem?_eq_some_iff.1 hj).1; omega
      rw [cell_of (heap_old _ hgg), Nat.zero_add, ← Array.getElem?_toList, ← hj, ← htk, List.getElem?_take, if_pos hjl]
    have O0 : Hid ((w.alloc (.cells #[] 52)).ownsRow w.heap.size 52 2 (.slice (some ⟨w.heap.size, 0, none⟩) 0 0) 0 []) := World.ownsRow_lit w #[] 0 (Nat.le_refl _) (by simp [maxLen]) (by simp)
    obtain ⟨i, z, hi, hz, hsz, hby, hzs⟩ := begin_info
    have HI := hide hi
    have HZ := hide hz
    have FL := hide (flat_len prC prC_len l)
    clear hi hz h hgg htk hcs
    go_enter Try.func21, Try.ntmps21
    go_wp2_with (at_builtin; refine wpList_many _ rfl (.tmp 5) (.tmp 6) 48 rfl w.heap.size 52 i z 2 16 Try.underlying48 (unhide HI) (unhide HZ) hsz hby hzs (by omega) _ 0 [] rfl (unhide O0) (by simp) g 0 l.length cap (l.flatMap prC) rfl (unhide FL) (unhide SRC) (prC_one l) (by unfold maxLen; omega) (by omega) ?_)
    intro v' w' o' t'
    have F : Hid (∃ v2, v' = v2 ∧ RowP w.heap.size w' v2 l ∧ Below w.heap.size w w') := ⟨v', rfl, o', below_touch ((Below.refl _ w).alloc (Nat.le_refl _) _) t' (by simp) (fun k hk => by simp [Value.ownBlock] at hk; omega)⟩
    have hs : ∃ a c, v' = .slice a l.length c := by
      rcases o'.2 with ⟨e1, e2⟩ | ⟨g, cap, cur, e1, _⟩
      · exact ⟨none, 0, by rw [e1, e2]⟩
      · exact ⟨_, _, e1⟩
    obtain ⟨a', c', rfl⟩ := hs
    clear o' t' O0 SRC HI HZ FL
    go_wp2
    go_returns
    obtain ⟨v2, e1, e2, e3⟩ := unhide F
    exact ⟨v2, by rw [← e1]; rfl, e2, e3⟩

/-- What All hands out. -/
def AlPost (w : World) (l : List Pr) (e : Ending) (w' : World) : Prop :=
  ∃ v, e = .returned (.func (.func 22) #[] #[.pointer (some ⟨w.heap.size, 0, none⟩)]) ∧ w'.heap[w.heap.size]? = some (.cells #[v] 48) ∧ RowP w.heap.size w' v l ∧ Below w.heap.size w w'
set_option maxRecDepth 100000 in
set_option maxHeartbeats 1000000 in
theorem all_nil10 (w : World) : Calls Try.prog 18 #[.pointer none] w fun e w' => AlPost w [] e w' := by
  go_enter Try.func18, Try.ntmps18
  go_wp2
  go_returns
  exact ⟨_, rfl, heap_new _ _, World.ownsRow_nil _ _ _ _, (Below.refl _ _).alloc (Nat.le_refl _) _⟩
set_option maxRecDepth 100000 in
set_option maxHeartbeats 1000000 in
theorem all_any {B : Nat} {w : World} {cb : Nat} {v : Value} {l : List Pr} (h : CaAt B w cb v l) (hn : l.length ≤ 8000000000000) :
    Calls Try.prog 18 #[.pointer (some ⟨cb, 0, none⟩)] w fun e w' => AlPost w l e w' := by
  have hA : Below w.heap.size w (w.alloc (.cells #[.slice none 0 0] 48)) := (Below.refl _ _).alloc (Nat.le_refl _) _
  have c1 := (h.later hA).cell
  have BX : Hid ((w.alloc (.cells #[.slice none 0 0] 48)).heap[w.heap.size]? = some (.cells #[.slice none 0 0] 48)) := heap_new _ _
  have CL := hide (clone10_any (h.later hA).row hn)
  have HA := hide hA
  obtain ⟨a, cap, hv⟩ := h.row.shape
  subst hv
  clear h hA
  go_enter Try.func18, Try.ntmps18
  go_wp2_with fail
  refine (unhide CL).mono ?_
  rintro e w1 ⟨v', rfl, r1, b1⟩
  have bx := below_keep b1 (unhide BX)
  have z0 := frozen_of bx 0
  have y0 : w1.cell? ⟨w.heap.size, 0, none⟩ = some (.slice none 0 0) := by rw [cell_of bx]; rfl
  have F : Hid (AlPost w l (.returned (.func (.func 22) #[] #[.pointer (some ⟨w.heap.size, 0, none⟩)])) (w1.setCell ⟨w.heap.size, 0, none⟩ v')) := by
    have ts := touch_set w1 w.heap.size 0 v'
    refine ⟨v', rfl, heap_set bx 0 v', ?_, below_touch ((unhide HA).trans (b1.mono (unhide HA).size)) ts (Nat.le_trans (unhide HA).size b1.size) (fun k hk => by omega)⟩
    refine ⟨r1.1, ?_⟩
    rcases r1.2 with h | ⟨g, cap, cur, e1, e2, e3, e4⟩
    · exact .inl h
    · have : w.heap.size + 1 ≤ g := by simpa using e2
      exact .inr ⟨g, cap, cur, e1, by omega, ts.keep e3 (by omega), e4⟩
  obtain ⟨a', c', rfl⟩ : ∃ a c, v' = .slice a l.length c := by
    rcases r1.2 with ⟨e1, e2⟩ | ⟨g, cap, cur, e1, _⟩
    · exact ⟨none, 0, by rw [e1, e2]⟩
    · exact ⟨_, _, e1⟩
  clear r1 b1 bx CL BX HA
  go_wp2
  go_returns
  exact unhide F
end Go.Proofs.Ytfpcocagifmpbaa
