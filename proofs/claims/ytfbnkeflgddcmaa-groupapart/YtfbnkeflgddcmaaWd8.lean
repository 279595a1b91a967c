/-
  Rows of elements of several cells that a call itself makes and grows. Plain lemmas. Conditions: a grown row has at most 2^47 bytes.
-/
import Derived.Test.YtfbnkeflgddcmaaLst
namespace Go.Proofs.Ytfbnkeflgddcmaa
open Go.RowKit
set_option linter.unusedVariables false

/-- A row of n elements of sz cells each; xs are all its cells. -/
def Wide (w : World) (e : TypeId) (sz : Nat) (v : Value) (n : Nat) (xs : List Value) : Prop := w.ownsRow 0 e sz v n xs
section
variable {w w' : World} {e : TypeId} {sz n : Nat} {v : Value} {xs : List Value} {S : Nat → Prop}
theorem Wide.nil (w : World) (e : TypeId) (sz : Nat) : Wide w e sz (.slice none 0 0) 0 [] := World.ownsRow_nil w 0 e sz
theorem Wide.len (h : Wide w e sz v n xs) : xs.length = n * sz := h.1
theorem Wide.lt (h : Wide w e sz v n xs) : ∀ k, v.ownBlock = some k → k < w.heap.size := fun k hk => (World.ownsRow.lt h k hk).2
theorem Wide.keep (h : Wide w e sz v n xs) (t : Touch S w w') (hs : ∀ k, v.ownBlock = some k → ¬ S k) : Wide w' e sz v n xs := by
  refine ⟨h.1, ?_⟩
  rcases h.2 with hn | ⟨g, cap, cur, rfl, hb, hgg, rest⟩
  · exact .inl hn
  · exact .inr ⟨g, cap, cur, rfl, hb, t.keep hgg (hs g rfl), rest⟩
theorem Wide.later (h : Wide w e sz v n xs) (hb : Below w.heap.size w w') : Wide w' e sz v n xs := h.keep (Touch.of_below (S := fun _ => False) hb) (fun _ _ h => h)
theorem Wide.heap (h : Wide w e sz v n xs) {k : Nat} (hk : v.ownBlock = some k) : ∃ cs, w.heap[k]? = some (.cells cs e) := by
  rcases h.2 with ⟨rfl, _⟩ | ⟨g, cap, cur, rfl, hb, hgg, rest⟩
  · simp [Value.ownBlock] at hk
  · have : g = k := by simpa [Value.ownBlock] using hk
    rw [this] at hgg; exact ⟨_, hgg⟩
theorem Wide.shape (h : Wide w e sz v n xs) : ∃ a cap, v = .slice a n cap := by
  rcases h.2 with ⟨rfl, rfl⟩ | ⟨g, cap, cur, rfl, _⟩
  · exact ⟨_, _, rfl⟩
  · exact ⟨_, _, rfl⟩
theorem Wide.parts (h : Wide w e sz v n xs) : ∃ a cap, v = .slice a n cap ∧ n ≤ cap ∧ cap ≤ maxLen ∧ (a = none → cap = 0) ∧ (∀ x, a = some x → v.ownBlock = some x.block) ∧ (0 < n → ∃ g, a = some ⟨g, 0, none⟩ ∧ g < w.heap.size ∧ (∀ j, j < n * sz → w.cell? ⟨g, j, none⟩ = xs[j]?) ∧ ∀ j, w.frozen? ⟨g, j, none⟩ = false) := by
  rcases h.2 with ⟨rfl, h0⟩ | ⟨g, cap, cur, rfl, _, hgg, hn, hm, hs, ht⟩
  · exact ⟨none, 0, by rw [h0], by omega, Nat.zero_le _, fun _ => rfl, (fun x hx => by cases hx), fun hi => by omega⟩
  · refine ⟨some ⟨g, 0, none⟩, cap, rfl, hn, hm, (fun hx => by cases hx), (fun x hx => by cases hx; rfl), fun _ => ⟨g, rfl, lt_of_heap hgg, fun j hj => ?_, fun j => frozen_of hgg j⟩⟩
    rw [cell_of hgg, ← ht, List.getElem?_take, if_pos hj]
    simp
/-- A store into it. -/
theorem Wide.set {g cap : Nat} (h : Wide w e sz (.slice (some ⟨g, 0, none⟩) n cap) n xs) (j : Nat) (u : Value) : Wide (w.setCell ⟨g, j, none⟩ u) e sz (.slice (some ⟨g, 0, none⟩) n cap) n (xs.set j u) := by
  obtain ⟨h1, h2⟩ := h
  rcases h2 with ⟨e, _⟩ | ⟨g', cap', cur, e, hb, hgg, hn, hm, hs, ht⟩
  · cases e
  · cases e
    refine ⟨by simpa using h1, .inr ⟨g, cap, _, rfl, hb, heap_set hgg j _, hn, hm, by simpa using hs, ?_⟩⟩
    rw [Array.toList_setIfInBounds, List.take_set, ht]
end

theorem addr_add (b off j : Nat) : Addr.add ⟨b, off, none⟩ j = ⟨b, off + j, none⟩ := by
  unfold Addr.add
  split
  · rename_i h0; subst h0; rfl
  · rfl
/-- append of one element to it. -/
theorem run_wide {P : Program} (w : World) (t ty e : TypeId) (i : TypeInfo) (z : Value) (sz bytes : Nat) (ht : P.underlying t = some (.slice e)) (hi : P.info? e = some i) (hz : i.zero = some z)
    (hsize : i.size = sz) (hby : i.bytes = bytes) (hzs : z.cells.size = sz) (hsz : 0 < sz) (v : Value) (n : Nat) (xs : List Value) (hown : Wide w e sz v n xs)
    (g off c : Nat) (news : List Value) (hm : news.length = sz) (hnews : ∀ j u, news[j]? = some u → w.cell? ⟨g, off + j, none⟩ = some u) (h1 : ∀ u ∈ news, u.oneCell' = true)
    (h63 : n + 1 ≤ maxLen) (hbytes : (n + 1) * bytes ≤ 140737488355328) :
    ∃ v' w', (Builtin.append_ #[t, t] ty #[v, .slice (some ⟨g, off, none⟩) 1 c]).run P w = .ok v' w' ∧ Wide w' e sz v' (n + 1) (xs ++ news) ∧ Touch (fun k => v.ownBlock = some k) w w' ∧ Moved w v v' := by
  have hn' : ∀ j u, news[j]? = some u → w.cell? ((⟨g, off, none⟩ : Addr).add j) = some u := fun j u hj => by rw [addr_add]; exact hnews j u hj
  have hl : news.length = 1 * sz := by omega
  obtain ⟨v', w', hrun, o', g', _⟩ := run_append_own (P := P) w 0 t ty e i z sz bytes ht hi hz hsize hby hzs hsz v n xs hown ⟨g, off, none⟩ 1 c news hl hn' h1 h63 hbytes (Nat.zero_le _)
  refine ⟨v', w', hrun, o', ⟨g'.os, g'.tape, g'.output, g'.size, fun k hk hs => g'.block k hk (fun e => hs e.symm)⟩, ?_⟩
  intro k hk
  have hsm : n + 1 ≤ 9223372036854775807 := by simp only [maxLen] at h63; omega
  rcases hown.2 with ⟨rfl, hx0⟩ | ⟨g, cap, cur, rfl, _, hgg, hnc, hcm, hcs, htk⟩
  · have hb : (0 + 1) * bytes ≤ 140737488355328 := by rw [hx0] at hbytes; exact hbytes
    have hr := run_append_nil (P := P) w t ty e i z ht hi hz _ 1 c news (by rw [hsize]; exact hl) hn' (by omega) (by omega) (by simp only [Nat.zero_add] at hb; rw [hby]; omega)
    rw [hr] at hrun
    cases hrun
    right
    have hk' : some w.heap.size = some k := hk
    cases hk'; exact Nat.le_refl _
  · by_cases hroom : n + 1 ≤ cap
    · have hfit : n * i.size + news.length ≤ cur.size := by rw [hsize, hl, hcs, ← Nat.add_mul]; exact Nat.mul_le_mul_right _ hroom
      have hr := run_append_room (P := P) w t ty e i ht hi g n cap cur hgg _ 1 c news (by rw [hsize]; exact hl) hn' h1 hroom hfit
      rw [hr] at hrun
      cases hrun
      exact .inl hk
    · have holds : ∀ j u, xs[j]? = some u → w.cell? ((⟨g, 0, none⟩ : Addr).add j) = some u := World.ownsRow.cells hown (g := g) rfl
      have hr := run_append_grow (P := P) w t ty e i z ht hi hz ⟨g, 0, none⟩ n cap xs (by rw [hsize]; exact hown.1) holds _ 1 c news (by rw [hsize]; exact hl) hn' (by omega) (by omega) (by rw [hby]; exact growslice_fits (by omega) hbytes)
      rw [hr] at hrun
      cases hrun
      right
      have hk' : some w.heap.size = some k := hk
      cases hk'; exact Nat.le_refl _
theorem wpList_wide {P : Program} (w : World) {ops : Array Oper} {rest : List Oper} {o : Oper} {a : Act} {Q : Exit → Act → World → Prop}
    (hg : o.guard = none) (s x : Operand) (t : TypeId) (hop : o.op = Op.call { callee := Callee.builtin Builtin.append, args := #[s, x], argTypes := #[t, t] })
    (e : TypeId) (i : TypeInfo) (z : Value) (sz bytes : Nat) (ht : P.underlying t = some (.slice e)) (hi : P.info? e = some i) (hz : i.zero = some z)
    (hsize : i.size = sz) (hby : i.bytes = bytes) (hzs : z.cells.size = sz) (hsz : 0 < sz) (v : Value) (n : Nat) (xs : List Value) (hs : a.eval s = v) (hown : Wide w e sz v n xs)
    (g off c : Nat) (news : List Value) (hx : a.eval x = .slice (some ⟨g, off, none⟩) 1 c) (hm : news.length = sz) (hnews : ∀ j u, news[j]? = some u → w.cell? ⟨g, off + j, none⟩ = some u) (h1 : ∀ u ∈ news, u.oneCell' = true)
    (h63 : n + 1 ≤ maxLen) (hbytes : (n + 1) * bytes ≤ 140737488355328)
    (hK : ∀ v' w', Wide w' e sz v' (n + 1) (xs ++ news) → Touch (fun k => v.ownBlock = some k) w w' → Moved w v v' → wpList P ops Q rest (a.put o.dst v') w') :
    wpList P ops Q (o :: rest) a w := by
  refine wpList_plain hg fun K hK' => ?_
  obtain ⟨v', w', hrun, r1, r2, r3⟩ := run_wide (P := P) w t o.type e i z sz bytes ht hi hz hsize hby hzs hsz v n xs hown g off c news hm hnews h1 h63 hbytes
  unfold Oper.wp
  simp [execOp, hop, resolve, invoke, builtin, hs, hx, hrun, Result.andThen]
  exact hK' _ _ (hK v' w' r1 r2 r3)
end Go.Proofs.Ytfbnkeflgddcmaa
