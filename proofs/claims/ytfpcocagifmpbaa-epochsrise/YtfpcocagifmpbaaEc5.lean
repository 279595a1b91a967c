/-
  What All hands out, as a function that is ranged over: it gives all epochs in their order, or the first of them. Conditions: what goes round keeps the iterator's own blocks.
-/
import Derived.Test.YtfpcocagifmpbaaEc4
namespace Go.Proofs.Ytfpcocagifmpbaa
open Go.RowKit Go.Shelf
set_option linter.unusedVariables false
attribute [local go_sem] Oper.semAt_some

/-- The blocks from lo up to ahead of hi stay. -/
structure Keep (lo hi : Nat) (W W' : World) : Prop where
  size : W.heap.size ≤ W'.heap.size
  block : ∀ k, lo ≤ k → k < hi → W'.heap[k]? = W.heap[k]?
theorem Keep.refl (lo hi : Nat) (W : World) : Keep lo hi W W := ⟨Nat.le_refl _, fun _ _ _ => rfl⟩
theorem Keep.trans {lo hi : Nat} {A B C : World} (h : Keep lo hi A B) (k : Keep lo hi B C) : Keep lo hi A C := ⟨Nat.le_trans h.size k.size, fun j h1 h2 => (k.block j h1 h2).trans (h.block j h1 h2)⟩
theorem Keep.alloc {lo hi : Nat} {A W : World} (h : Keep lo hi A W) (hs : hi ≤ W.heap.size) (o : Obj) : Keep lo hi A (W.alloc o) := ⟨by have := h.size; simp; omega, fun j h1 h2 => (Below.heap_alloc W o j (by omega)).trans (h.block j h1 h2)⟩
theorem Keep.put {lo hi : Nat} {w : World} (hs : hi ≤ w.heap.size) : ∀ (W : World) (l : Nat) (o o' : Obj), w.heap.size ≤ l → W.heap[l]? = some o → o.isCells = false → o.isWalk = false → Keep lo hi W (W.putObj l o') :=
  fun W l o o' hl _ _ _ => ⟨by simp [World.putObj], fun j h1 h2 => World.putObj_heap_other (by omega)⟩
theorem Keep.touch {lo hi : Nat} {S : Nat → Prop} {W W' : World} (t : Touch S W W') (hs : hi ≤ W.heap.size) (h : ∀ k, S k → k < lo ∨ hi ≤ k) : Keep lo hi W W' := ⟨t.size, fun j h1 h2 => t.block j (by omega) (fun e => by rcases h j e with h | h <;> omega)⟩

theorem upto_take {l : List Pr} {k : Nat} (hk : k < l.length) : l.take (k + 1) = l.take k ++ [l[k]] := List.take_succ_eq_append_getElem hk

set_option maxRecDepth 100000 in
set_option maxHeartbeats 2000000 in
theorem allf_in (F : Fence) (n : Nat) (hf : F.fn 22) (hro : F.round = none) (hn : 1 ≤ n) (L lo hi : Nat) (v : Value) (l : List Pr) (J Jx : List Pr → World → Prop) (W : World)
    (hJ : AbidesFrom W.heap.size J)
    (hY : ∀ pre x W, J pre W → pre.length < l.length → YieldAt F (n - 1) Try.prog L #[.int .i64 x.1, .int .i64 x.2] W fun e W' =>
      (e = .returned (.bool true) ∧ J (pre ++ [x]) W' ∧ Keep lo hi W W') ∨ (e = .returned (.bool false) ∧ Jx (pre ++ [x]) W'))
    (hlo : lo < hi) (hhi : hi ≤ W.heap.size) (hbx : W.heap[lo]? = some (.cells #[v] 48)) (hrow : RowP lo W v l) (hgh : ∀ k, v.ownBlock = some k → k < hi) (hl : l.length ≤ 8000000000000) (h0 : J [] W) :
    CallsIn F n Try.prog 22 #[.func (.yield L) #[] #[], .pointer (some ⟨lo, 0, none⟩)] W fun e W' => (∃ v, e = .returned v) ∧
      ((∃ ys, ys = l ∧ J ys W') ∨ (∃ pre, pre <+: l ∧ Jx pre W')) := by
  have hc0 : W.cell? ⟨lo, 0, none⟩ = some v := by rw [cell_of hbx]; rfl
  obtain ⟨a, cap, hv, hcells⟩ : ∃ a cap, v = .slice a l.length cap ∧ ∀ i (hi' : i < l.length), ∃ g, a = some ⟨g, 0, none⟩ ∧ lo ≤ g ∧ g < hi ∧ W.cell? ⟨g, i * 2, none⟩ = some (.int .i64 l[i].1) ∧ W.cell? ⟨g, i * 2 + 1, none⟩ = some (.int .i64 l[i].2) := by
    rcases hrow.2 with ⟨e1, e2⟩ | ⟨g, cap, cur, e1, e2, e3, e4, e5, e6, e7⟩
    · exact ⟨none, 0, by rw [e1, e2], fun i hi' => by omega⟩
    · have hc : ∀ j, j < l.length * 2 → W.cell? ⟨g, j, none⟩ = (l.flatMap prC)[j]? := fun j hj => by
        rw [cell_of e3, ← e7, List.getElem?_take, if_pos hj]; simp
      refine ⟨_, cap, e1, fun i hi' => ⟨g, rfl, e2, hgh g (by rw [e1]; rfl), ?_, ?_⟩⟩
      · rw [hc (i * 2) (by omega)]
        have := flat_at prC prC_len l i 0 hi' (by omega)
        rw [Nat.add_zero] at this
        rw [this]; rfl
      · rw [hc (i * 2 + 1) (by omega), flat_at prC prC_len l i 1 hi' (by omega)]; rfl
  subst hv
  have HC := hide hcells
  have HJ := hide hJ
  have HY := hide hY
  have hll : (l.length : Int) ≤ 9223372036854775807 := by omega
  clear hcells hJ hY hbx hrow hgh
  refine callsIn_of_wp Try.func22 rfl hf ?_ hro
  simp only [Try.ntmps22, List.size_toArray, List.length_cons, List.length_nil, Nat.reduceAdd, Nat.reduceSub, Array.replicate_succ, Array.replicate_zero, List.push_toArray, List.append_toArray, List.nil_append, List.cons_append]
  gi_wp2
  gi_loopw [7] (fun i wr => ∃ k : Nat, k ≤ l.length ∧ i = .int .i64 k ∧ J (l.take k) wr ∧ Keep lo hi W wr)
    (fun i _ => l.length - (intOf i).toNat)
  case atStart => exact ⟨0, Nat.zero_le _, rfl, h0, Keep.refl _ _ _⟩
  case round =>
    obtain ⟨k, hk, rfl, hJs, hnx⟩ := hrel
    by_cases hlt : k < l.length
    · obtain ⟨g, rfl, hg1, hg2, y0', y1'⟩ := unhide HC k hlt
      have hbl := hnx.block g hg1 hg2
      have y0 : wr.cell? ⟨g, k * 2, none⟩ = some (.int .i64 l[k].1) := (World.cell?_of_block (a := ⟨g, k * 2, none⟩) hbl).trans y0'
      have y1 : wr.cell? ⟨g, k * 2 + 1, none⟩ = some (.int .i64 l[k].2) := (World.cell?_of_block (a := ⟨g, k * 2 + 1, none⟩) hbl).trans y1'
      have hJa : J (l.take k) (wr.alloc (.cells #[.int .i64 l[k].1, .int .i64 l[k].2] 52)) := unhide HJ _ _ _ none hJs (World.grownBy_alloc _ _ none) (fun r e => by cases e)
      obtain ⟨fn, tmps, assign, body, hy, hR⟩ := unhide HY _ l[k] _ hJa (by rw [List.length_take]; omega)
      have hka : Keep lo hi W (wr.alloc (.cells #[.int .i64 l[k].1, .int .i64 l[k].2] 52)) := hnx.alloc (Nat.le_trans hhi hnx.size) _
      have KA := hide hka
      have UT := hide (upto_take hlt)
      clear hka hJa hnx hbl y0' y1' hJs
      have hkc : (k : Int) < (l.length : Int) := by omega
      have hk0 : (0 : Int) ≤ (k : Int) := by omega
      generalize hp : l[k] = p at *
      obtain ⟨p1, p2⟩ := p
      simp only at y0 y1 hy hR KA UT
      gi_wp2
      refine hR.mono ?_
      rintro e W3 (⟨rfl, hJ3, hk3⟩ | ⟨rfl, hJx3⟩)
      · gi_wp2
        go_roundw
        case rel => exact ⟨k + 1, by omega, by simp, by rw [unhide UT]; exact hJ3, (unhide KA).trans hk3⟩
        case measure => simp [intOf]; omega
      · gi_wp2
        refine bodyPost_ret (results_none rfl _ _ _) rfl ?_
        exact ⟨⟨_, rfl⟩, .inr ⟨_, ⟨l.drop (k + 1), by rw [← unhide UT]; exact List.take_append_drop _ _⟩, hJx3⟩⟩
    · obtain rfl : k = l.length := by omega
      gi_wp2
      go_end0
      exact ⟨⟨_, rfl⟩, .inl ⟨_, List.take_length, hJs⟩⟩
theorem alls (F : Fence) (n : Nat) (hf : F.fn 22) (hro : F.round = none) (hn : 1 ≤ n) (lo : Nat) (v : Value) (l : List Pr) (w : World) (hbx : w.heap[lo]? = some (.cells #[v] 48)) (hrow : RowP lo w v l) (hl : l.length ≤ 8000000000000) :
    SeqStopsK F n Try.prog 22 #[.pointer (some ⟨lo, 0, none⟩)] (fun x : Pr => #[Value.int .i64 x.1, Value.int .i64 x.2]) (Keep lo w.heap.size) (fun ys => ys = l) (fun pre => pre <+: l) l.length w := fun L J Jx W hW hJ hJx hY h0 => by
  refine allf_in F n hf hro hn L lo w.heap.size v l J Jx W hJ hY (lt_of_heap hbx) hW.size (below_keep hW hbx) ⟨hrow.1, ?_⟩ (fun k hk => ?_) hl h0
  · rcases hrow.2 with e | ⟨g, cap, cur, e1, e2, e3, e4⟩
    · exact .inl e
    · exact .inr ⟨g, cap, cur, e1, e2, below_keep hW e3, e4⟩
  · rcases hrow.2 with ⟨e, _⟩ | ⟨g, cap, cur, e1, e2, e3, e4⟩
    · rw [e] at hk; simp [Value.ownBlock] at hk
    · rw [e1] at hk
      have : g = k := by simpa [Value.ownBlock] using hk
      subst this; exact lt_of_heap e3
end Go.Proofs.Ytfpcocagifmpbaa
