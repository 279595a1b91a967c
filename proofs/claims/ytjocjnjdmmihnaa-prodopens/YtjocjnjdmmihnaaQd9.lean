/-
  slices.Delete of one of a producer's last batches. Conditions: the row is one.
-/
import Derived.Test.YtjocjnjdmmihnaaPd25
import Derived.Deep.RegionLaw
import Derived.Deep.DeepAppendRoom
import Derived.Laws.IdiomCopy
namespace Go.Proofs.Ytjocjnjdmmihnaa
open Go.RowKit
set_option linter.unusedVariables false

theorem wrap64_i64 (n : Int) : wrap64 n = IntKind.i64.wrap n := by
  have e : IntKind.i64.wrap n = if n % 18446744073709551616 ≥ 9223372036854775808 then n % 18446744073709551616 - 18446744073709551616 else n % 18446744073709551616 := by
    simp [IntKind.wrap, IntKind.bits, IntKind.signed]
  rw [e]; unfold wrap64; split <;> omega
theorem keep_cell {S : Nat → Prop} {W0 X w3 : World} {g j : Nat} {u : Value} (t : Touch S X w3) (hs : ¬ S g) (hb : Below W0.heap.size W0 X) (hg : g < W0.heap.size) (h : W0.cell? ⟨g, j, none⟩ = some u) : w3.cell? ⟨g, j, none⟩ = some u :=
  (World.cell?_of_block (a := ⟨g, j, none⟩) (t.block g (Nat.lt_of_lt_of_le hg hb.size) hs)).trans ((hb.cell (p := ⟨g, j, none⟩) hg).trans h)
theorem keep_heap {S : Nat → Prop} {W0 X w3 : World} {g : Nat} {o : Obj} (t : Touch S X w3) (hs : ¬ S g) (hb : Below W0.heap.size W0 X) (h : W0.heap[g]? = some o) : w3.heap[g]? = some o := by
  have hg : g < W0.heap.size := lt_of_heap h
  rw [t.block g (Nat.lt_of_lt_of_le hg hb.size) hs, hb.block g hg]; exact h
theorem sent_info : ∃ i z, Try.prog.info? 62 = some i ∧ i.zero = some z ∧ i.size = 3 ∧ i.bytes = 24 ∧ z.cells.size = 3 := by
  have h : (Try.prog.info? 62).map (fun i => (i.zero.map (fun z => z.cells.size), i.size, i.bytes)) = some (some 3, 3, 24) := by kernel_rfl
  cases hi : Try.prog.info? 62 with
  | none => rw [hi] at h; cases h
  | some i =>
    rw [hi] at h
    simp only [Option.map_some, Option.some.injEq, Prod.mk.injEq] at h
    obtain ⟨h1, h2, h3⟩ := h
    cases hz : i.zero with
    | none => rw [hz] at h1; cases h1
    | some z => rw [hz] at h1; exact ⟨i, z, rfl, hz, h2, h3, by simpa using h1⟩
theorem step_sent {ops : Array Oper} {o : Oper} {a : Act} {w : World} {K : Act → World → Prop} {Q : Exit → Act → World → Prop} {E : Prop}
    (hg : o.guard = none) (s x : Operand) (hop : o.op = Op.call { callee := Callee.builtin Builtin.append, args := #[s, x], argTypes := #[42, 42] })
    (v : Value) (n : Nat) (xs : List Value) (hs : a.eval s = v) (hr : Wide w 62 3 v n xs) (g : Nat) (cs : Array Value) (news : List Value) (hx : a.eval x = .slice (some ⟨g, 0, none⟩) 1 1) (hu : w.heap[g]? = some (.cells cs 62)) (hcs : cs.toList = news) (hl : news.length = 3) (h1 : ∀ u ∈ news, u.oneCell' = true) (hlen : n ≤ 1099511627776)
    (hK : ∀ v' w', Wide w' 62 3 v' (n + 1) (xs ++ news) → Touch (fun k => v.ownBlock = some k) w w' → Moved w v v' → K (a.put o.dst v') w') :
    if Region.wanted o (yielded ops a.tmps) = true then Oper.wp Try.prog o a w K Q else E := by
  have hw : Region.wanted o (yielded ops a.tmps) = true := by simp [Region.wanted, hg]
  rw [if_pos hw]
  obtain ⟨i, z, hi, hz, hsz, hby, hzs⟩ := sent_info
  obtain ⟨v', w', hrun, r1, r2, r3⟩ := run_wide (P := Try.prog) w 42 o.type 62 i z 3 24 Try.underlying42 hi hz hsz hby hzs (by omega) v n xs hr g 0 1 news hl (fun j u hj => by rw [cell_of hu, Nat.zero_add, ← Array.getElem?_toList, hcs]; exact hj) h1 (by unfold maxLen; omega) (by omega)
  unfold Oper.wp
  simp [execOp, hop, resolve, invoke, builtin, hs, hx, hrun, Result.andThen]
  exact hK v' w' r1 r2 r3

/-- The first k of a row. -/
theorem Wide.pre {w : World} {e : TypeId} {sz g n cap : Nat} {xs : List Value} (h : Wide w e sz (.slice (some ⟨g, 0, none⟩) n cap) n xs) {k : Nat} (hk : k ≤ n) : Wide w e sz (.slice (some ⟨g, 0, none⟩) k cap) k (xs.take (k * sz)) := by
  obtain ⟨h1, h2⟩ := h
  have hle : k * sz ≤ n * sz := Nat.mul_le_mul_right _ hk
  rcases h2 with ⟨e, _⟩ | ⟨g', cap', cur, e, hb, hgg, hn, hm, hs, ht⟩
  · cases e
  · cases e
    refine ⟨by rw [List.length_take, h1]; omega, .inr ⟨g, cap, cur, rfl, hb, hgg, by omega, hm, hs, ?_⟩⟩
    rw [← ht, List.take_take, Nat.min_eq_left hle]
/-- Cells behind its end don't matter. -/
theorem Wide.set_out {w : World} {e : TypeId} {sz g n cap : Nat} {xs : List Value} (h : Wide w e sz (.slice (some ⟨g, 0, none⟩) n cap) n xs) {j : Nat} (hj : n * sz ≤ j) (u : Value) : Wide (w.setCell ⟨g, j, none⟩ u) e sz (.slice (some ⟨g, 0, none⟩) n cap) n xs := by
  have := h.set j u
  rw [List.set_eq_of_length_le (by rw [h.len]; exact hj)] at this
  exact this
/-- append where there is room, within a region that draws. -/
theorem step_sent_room {ops : Array Oper} {o : Oper} {a : Act} {w : World} {K : Act → World → Prop} {Q : Exit → Act → World → Prop} {E : Prop}
    (hg : o.guard = none) (s x : Operand) (hop : o.op = Op.call { callee := Callee.builtin Builtin.append, args := #[s, x], argTypes := #[42, 42] })
    (g n cap : Nat) (xs : List Value) (hs : a.eval s = .slice (some ⟨g, 0, none⟩) n cap) (hr : Wide w 62 3 (.slice (some ⟨g, 0, none⟩) n cap) n xs) (ad : Addr) (m c : Nat) (news : List Value) (hx : a.eval x = .slice (some ad) m c) (hl : news.length = m * 3) (hn : ∀ j u, news[j]? = some u → w.cell? (ad.add j) = some u) (h1 : ∀ u ∈ news, u.oneCell' = true) (hroom : n + m ≤ cap)
    (hK : ∀ w', Wide w' 62 3 (.slice (some ⟨g, 0, none⟩) (n + m) cap) (n + m) (xs ++ news) → Touch (· = g) w w' → K (a.put o.dst (.slice (some ⟨g, 0, none⟩) (n + m) cap)) w') :
    if Region.wanted o (yielded ops a.tmps) = true then Oper.wp Try.prog o a w K Q else E := by
  have hw : Region.wanted o (yielded ops a.tmps) = true := by simp [Region.wanted, hg]
  rw [if_pos hw]
  obtain ⟨i, z, hi, hz, hsz, hby, hzs⟩ := sent_info
  exact wp_append_own_spare w s x 42 hop 0 62 i 3 Try.underlying42 hi hsz g n cap xs hs hr ad m c news hx hl hn h1 hroom (fun w' h2 h3 => hK w' h2 ⟨h3.os, h3.tape, h3.output, h3.size, fun k hk hs => h3.block k hk (fun e => hs (by simpa using e))⟩)
set_option maxRecDepth 100000 in
theorem zero_sent (w : World) : (zeroValue 62).run Try.prog w = .ok (.agg #[.int .i64 0, .int .i64 0, .int .i64 0]) w := by kernel_rfl
/-- clear of one. -/
theorem run_clear_sent {w : World} {g o c : Nat} (h : ∀ j, j < 3 → (w.cell? ⟨g, o + j, none⟩).isSome = true) (hf : ∀ j, w.frozen? ⟨g, j, none⟩ = false) (ty : TypeId) :
    (Builtin.clear_ #[42] ty #[.slice (some ⟨g, o, none⟩) 1 c]).run Try.prog w = .ok (.tuple #[]) (w.setCells g o [.int .i64 0, .int .i64 0, .int .i64 0]) := by
  have hst := run_storeCells_cells (P := Try.prog) g o [.int .i64 0, .int .i64 0, .int .i64 0] 0 w (by simpa using h) (by intro j _; exact hf _) (by intro u hu; simp at hu; rcases hu with rfl | rfl | rfl <;> rfl)
  simp only [Nat.add_zero] at hst
  have hz : (Builtin.zeroCells (Value.agg #[.int .i64 0, .int .i64 0, .int .i64 0]).cells 1).toList = [.int .i64 0, .int .i64 0, .int .i64 0] := by kernel_rfl
  simp [Builtin.clear_, run_underlying (P := Try.prog) Try.underlying42, hz, hst]

def DlSent (w : World) (g n cap k : Nat) (xs : List Value) (e : Ending) (w' : World) : Prop := e = .returned (.slice (some ⟨g, 0, none⟩) (n - 1) cap) ∧ Wide w' 62 3 (.slice (some ⟨g, 0, none⟩) (n - 1) cap) (n - 1) (xs.take (k * 3) ++ xs.drop ((k + 1) * 3)) ∧ Touch (· = g) w w'
set_option maxRecDepth 100000 in
set_option maxHeartbeats 1000000 in
theorem delete_sent {w : World} {g n cap : Nat} {xs : List Value} (h : Wide w 62 3 (.slice (some ⟨g, 0, none⟩) n cap) n xs) {k : Nat} (hk : k < n) (h1 : ∀ u ∈ xs, u.oneCell' = true) :
    Calls Try.prog 22 #[.slice (some ⟨g, 0, none⟩) n cap, .int .i64 (k : Int), .int .i64 ((k : Int) + 1)] w fun e w' => DlSent w g n cap k xs e w' := by
  obtain ⟨a', cap', e', hcap, hmax, _, _, hpa⟩ := h.parts
  cases e'
  obtain ⟨g', e', hg, hcell, hfz⟩ := hpa (by omega)
  cases e'
  unfold maxLen at hmax
  have PRE := hide (h.pre (Nat.le_of_lt hk))
  obtain ⟨ad, had, hsrc⟩ : ∃ ad : Addr, (if cap = k + 1 then some (⟨g, 0, none⟩ : Addr) else some ⟨g, (k + 1) * 3, none⟩) = some ad ∧ Hid (∀ t u, (xs.drop ((k + 1) * 3))[t]? = some u → w.cell? (ad.add t) = some u) := by
    by_cases hc : cap = k + 1
    · refine ⟨⟨g, 0, none⟩, by simp [hc], fun t u hu => ?_⟩
      have : xs.drop ((k + 1) * 3) = [] := List.drop_eq_nil_iff.2 (by rw [h.len]; omega)
      rw [this] at hu; simp at hu
    · refine ⟨⟨g, (k + 1) * 3, none⟩, by simp [hc], fun t u hu => ?_⟩
      rw [addr_add]
      rw [List.getElem?_drop] at hu
      have hl := (List.getElem?_eq_some_iff.1 hu).1
      rw [h.len] at hl
      rw [hcell _ hl]; exact hu
  have s1 : Hid ((xs.drop ((k + 1) * 3)).length = (n - (k + 1)) * 3) := by
    show _ = _
    rw [List.length_drop, h.len]; omega
  have s2 : Hid (∀ u ∈ xs.drop ((k + 1) * 3), u.oneCell' = true) := fun u hu => h1 u (List.mem_of_mem_drop hu)
  have F : Hid (∀ w3, Wide w3 62 3 (.slice (some ⟨g, 0, none⟩) (k + (n - (k + 1))) cap) (k + (n - (k + 1))) (xs.take (k * 3) ++ xs.drop ((k + 1) * 3)) → Touch (· = g) w w3 →
      (∀ ty, (Builtin.clear_ #[42] ty #[.slice (some ⟨g, (n - 1) * 3, none⟩) 1 (cap - (n - 1))]).run Try.prog w3 = .ok (.tuple #[]) (w3.setCells g ((n - 1) * 3) [.int .i64 0, .int .i64 0, .int .i64 0])) ∧ DlSent w g n cap k xs (.returned (.slice (some ⟨g, 0, none⟩) (n - 1) cap)) (w3.setCells g ((n - 1) * 3) [.int .i64 0, .int .i64 0, .int .i64 0])) := fun w3 o3 t3 => by
    have en : k + (n - (k + 1)) = n - 1 := by omega
    rw [en] at o3
    refine ⟨fun ty => run_clear_sent (fun j hj => ?_) (fun j => ?_) ty, rfl, ?_, ?_⟩
    · rcases o3.2 with ⟨e, _⟩ | ⟨g', cap', cur, e, hb, hgg, hn, hm, hs, ht⟩
      · cases e
      · cases e
        rw [cell_of hgg]
        rw [Array.getElem?_eq_getElem (by omega)]; rfl
    · rcases o3.2 with ⟨e, _⟩ | ⟨g', cap', cur, e, hb, hgg, hn, hm, hs, ht⟩
      · cases e
      · cases e; exact frozen_of hgg j
    · exact ((o3.set_out (Nat.le_refl _) _).set_out (by omega) _).set_out (by omega) _
    · exact ((t3.setCell (p := ⟨g, (n - 1) * 3, none⟩) rfl _).setCell (p := ⟨g, (n - 1) * 3 + 1, none⟩) rfl _).setCell (p := ⟨g, (n - 1) * 3 + 1 + 1, none⟩) rfl _
  have hk1 : (k : Int) + 1 ≤ (n : Int) := by omega
  have hk0 : (0 : Int) ≤ (k : Int) := by omega
  have hk01 : (0 : Int) ≤ (k : Int) + 1 := by omega
  have hkc : (k : Int) ≤ (cap : Int) := by omega
  have hk1c : (k : Int) + 1 ≤ (cap : Int) := by omega
  have hne : ¬ (k : Int) = (k : Int) + 1 := by omega
  have hnc : (n : Int) ≤ (cap : Int) := by omega
  clear h hcell hfz hpa
  go_enter Try.func22, Try.ntmps22
  go_wp2_with fail
  go_region_law (refine step_sent_room rfl (.tmp 22) (.tmp 25) rfl g k cap _ (by simp [Act.eval, Act.put]) (unhide PRE) ad (n - (k + 1)) (cap - (k + 1)) _ (by simp [Act.eval, Act.put]) (unhide s1) (unhide hsrc) (unhide s2) (by omega) ?_; intro w3 o3 t3; obtain ⟨q1, q2⟩ := unhide F w3 o3 ⟨t3.os, t3.tape, t3.output, t3.size, t3.block⟩; have Q2 := hide q2; clear o3 t3 q2)
  obtain ⟨N1, hN1⟩ : ∃ N1, N1 = k + (n - (k + 1)) := ⟨_, rfl⟩
  have e1 : n - 1 = N1 := by omega
  have e2 : n - N1 = 1 := by omega
  have e3 : (N1 : Int) ≤ (n : Int) := by omega
  have e4 : ¬ cap = N1 := by omega
  have e5 : (0 : Int) ≤ (N1 : Int) := by omega
  rw [e1] at q1 Q2
  rw [← hN1]
  clear hN1 e1 PRE s1 hsrc s2 F had
  go_wp2
  go_returns
  exact unhide Q2
end Go.Proofs.Ytjocjnjdmmihnaa
