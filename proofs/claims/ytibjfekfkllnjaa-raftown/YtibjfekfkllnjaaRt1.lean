/-
  A raft's entries: their copies, one laid behind the others; the last one's number. Conditions: a log of at most 2^42 - 128 entries.
-/
import Derived.Test.YtibjfekfkllnjaaRt0
namespace Go.Proofs.Ytibjfekfkllnjaa
open Go.RowKit Go.Maps
set_option linter.unusedVariables false

theorem last12_any {w : World} {rb k cap : Nat} {base : Int} {a : Option Addr} (h4 : w.cell? ⟨rb, 4, none⟩ = some (.int .i64 base)) (h7 : w.cell? ⟨rb, 7, none⟩ = some (.slice a k cap)) :
    Calls Try.prog 25 #[.pointer (some ⟨rb, 0, none⟩)] w fun e w' => e = .returned (.int .i64 (wrap64 (base + (k : Int)))) ∧ ∃ n, w' = w.drewN n := by
  go_enter Try.func25, Try.ntmps25
  go_wp2_with fail
  go_quiet (fail)
  go_wp2
  go_returns
  exact ⟨rfl, _, rfl⟩

/-- Two cells laid anew. -/
theorem set2 {w : World} {b : Nat} {x y : Value} {t : TypeId} (h : w.heap[b]? = some (.cells #[x, y] t)) (x' y' : Value) : ((w.setCell ⟨b, 0, none⟩ x').setCell ⟨b, 1, none⟩ y').heap[b]? = some (.cells #[x', y'] t) := by
  have h1 := heap_set h 0 x'
  have h2 := heap_set h1 1 y'
  simpa using h2
/-- An entry of its own. -/
def OePost (w : World) (q : Int × List Nat) (e : Ending) (w' : World) : Prop := ∃ p', e = .returned (enV p') ∧ p'.abs = q ∧ ERow w' p' ∧ New w (enS p') ∧ Below w.heap.size w w'
set_option maxRecDepth 100000 in
set_option maxHeartbeats 1000000 in
theorem ownEntry_any {w : World} {p : En} (h : EIn w p) : Calls Try.prog 57 #[enV p] w fun e w' => OePost w p.abs e w' := by
  obtain ⟨t, a, c, l⟩ := p
  obtain ⟨h1, h2, hl⟩ := h
  simp only at h1 h2 hl
  have hA : Below w.heap.size w (w.alloc (.cells #[.int .i64 t, .slice a l.length c] 64)) := (Below.refl _ _).alloc (Nat.le_refl _) _
  have hB : Below w.heap.size w ((w.alloc (.cells #[.int .i64 t, .slice a l.length c] 64)).alloc (.cells #[.int .i64 0, .slice none 0 0] 64)) := hA.alloc (by simp) _
  have K := hide (clone_any (h1.later hB) h2 hl)
  have HB := hide hB
  have G0 : Hid (((w.alloc (.cells #[.int .i64 t, .slice a l.length c] 64)).alloc (.cells #[.int .i64 0, .slice none 0 0] 64)).heap[w.heap.size]? = some (.cells #[.int .i64 t, .slice a l.length c] 64)) := heap_old _ (heap_new _ _)
  have G1 : Hid (((w.alloc (.cells #[.int .i64 t, .slice a l.length c] 64)).alloc (.cells #[.int .i64 0, .slice none 0 0] 64)).heap[w.heap.size + 1]? = some (.cells #[.int .i64 0, .slice none 0 0] 64)) := by
    have := heap_new (w.alloc (.cells #[.int .i64 t, .slice a l.length c] 64)) (.cells #[.int .i64 0, .slice none 0 0] 64)
    rw [World.size_alloc] at this
    exact this
  have Z : Hid (((w.alloc (.cells #[.int .i64 t, .slice a l.length c] 64)).alloc (.cells #[.int .i64 0, .slice none 0 0] 64)).heap.size = w.heap.size + 2) := by show _ = _; simp
  have k1 : ((w.alloc (.cells #[.int .i64 t, .slice a l.length c] 64)).alloc (.cells #[.int .i64 0, .slice none 0 0] 64)).cell? ⟨w.heap.size, 1, none⟩ = some (.slice a l.length c) := by rw [cell_of (unhide G0)]; rfl
  have HL := hide hl
  clear h1 h2 hA hB hl
  unfold enV enS
  dsimp only
  generalize hm : l.length = m at *
  have HM := hide hm
  clear hm
  go_enter Try.func57, Try.ntmps57
  go_wp2_with fail
  generalize (w.alloc (.cells #[.int .i64 t, .slice a m c] 64)).alloc (.cells #[.int .i64 0, .slice none 0 0] 64) = W at *
  refine (unhide K).mono ?_
  rintro e w1 ⟨a', c', rfl, r1, n1, b1⟩
  rw [unhide HM] at r1 n1 ⊢
  have g0 := below_keep b1 (unhide G0)
  have g1 := below_keep b1 (unhide G1)
  have x0 : w1.cell? ⟨w.heap.size, 0, none⟩ = some (.int .i64 t) := by rw [cell_of g0]; rfl
  have x1 : w1.cell? ⟨w.heap.size, 1, none⟩ = some (.slice a m c) := by rw [cell_of g0]; rfl
  have f1 : w1.frozen? ⟨w.heap.size, 1, none⟩ = false := frozen_of g0 1
  have y0 : w1.cell? ⟨w.heap.size + 1, 0, none⟩ = some (.int .i64 0) := by rw [cell_of g1]; rfl
  have y1 : w1.cell? ⟨w.heap.size + 1, 1, none⟩ = some (.slice none 0 0) := by rw [cell_of g1]; rfl
  have e0 : w1.frozen? ⟨w.heap.size + 1, 0, none⟩ = false := frozen_of g1 0
  have e1 : w1.frozen? ⟨w.heap.size + 1, 1, none⟩ = false := frozen_of g1 1
  have hle : w.heap.size + 2 ≤ w1.heap.size := by have := b1.size; rw [unhide Z] at this; exact this
  have F : Hid (∀ V, V = (((w1.setCell ⟨w.heap.size, 1, none⟩ (.slice a' m c')).setCell ⟨w.heap.size + 1, 0, none⟩ (.int .i64 t)).setCell ⟨w.heap.size + 1, 1, none⟩ (.slice a' m c')) →
      V.heap[w.heap.size + 1]? = some (.cells #[.int .i64 t, .slice a' m c'] 64) ∧ OePost w (t, l) (.returned (.agg #[.int .i64 t, .slice a' m c'])) V) := fun V hV => by
    subst hV
    have t1 := touch_set w1 w.heap.size 1 (.slice a' m c')
    have gg := t1.keep g1 (show ¬ w.heap.size + 1 = w.heap.size by omega)
    refine ⟨set2 gg _ _, ⟨t, a', c', l⟩, ?_, rfl, ?_, ?_, ?_⟩
    · show _ = Ending.returned (.agg #[.int .i64 t, .slice a' l.length c'])
      rw [unhide HM]
    · refine ⟨?_, by show l.length ≤ _; rw [unhide HM]; exact unhide HL⟩
      show Row _ (.slice a' l.length c') l
      rw [unhide HM]
      have T : Touch (fun k => k = w.heap.size ∨ k = w.heap.size + 1) w1 (((w1.setCell ⟨w.heap.size, 1, none⟩ (.slice a' m c')).setCell ⟨w.heap.size + 1, 0, none⟩ (.int .i64 t)).setCell ⟨w.heap.size + 1, 1, none⟩ (.slice a' m c')) :=
        (((Touch.refl _ w1).setCell (p := ⟨w.heap.size, 1, none⟩) (.inl rfl) _).setCell (p := ⟨w.heap.size + 1, 0, none⟩) (.inr rfl) _).setCell (p := ⟨w.heap.size + 1, 1, none⟩) (.inr rfl) _
      refine r1.keep T (fun k hk e => ?_)
      have := n1 k hk
      rw [unhide Z] at this
      omega
    · show New w (.slice a' l.length c')
      rw [unhide HM]
      intro k hk
      have := n1 k hk
      rw [unhide Z] at this
      omega
    · have bb : Below w.heap.size w w1 := (unhide HB).trans (b1.mono (unhide HB).size)
      exact ((bb.setCell (p := ⟨w.heap.size, 1, none⟩) (Nat.le_refl _) _).setCell (p := ⟨w.heap.size + 1, 0, none⟩) (by show w.heap.size ≤ w.heap.size + 1; omega) _).setCell (p := ⟨w.heap.size + 1, 1, none⟩) (by show w.heap.size ≤ w.heap.size + 1; omega) _
  clear K HB G0 G1 k1 r1 n1 b1 g0 g1 HL HM Z
  go_wp2
  obtain ⟨vg, vf⟩ := unhide F _ rfl
  generalize ((w1.setCell ⟨w.heap.size, 1, none⟩ (.slice a' m c')).setCell ⟨w.heap.size + 1, 0, none⟩ (.int .i64 t)).setCell ⟨w.heap.size + 1, 1, none⟩ (.slice a' m c') = V at *
  have v0 := cell_of vg 0
  have v1 := cell_of vg 1
  simp only [List.getElem?_toArray, List.getElem?_cons_zero, List.getElem?_cons_succ] at v0 v1
  refine bodyPost_ret (by simp [results, Try.results57, go_sem, v0, v1]; try rfl) rfl ?_
  exact vf

theorem two_info {T : TypeId} (h : (Try.prog.info? T).map (fun i => (i.zero.map (fun z => z.cells.size), i.size, i.bytes)) = some (some 2, 2, 32)) : ∃ i z, Try.prog.info? T = some i ∧ i.zero = some z ∧ i.size = 2 ∧ i.bytes = 32 ∧ z.cells.size = 2 := by
  cases hi : Try.prog.info? T with
  | none => rw [hi] at h; cases h
  | some i =>
    rw [hi] at h
    simp only [Option.map_some, Option.some.injEq, Prod.mk.injEq] at h
    obtain ⟨h1, h2, h3⟩ := h
    cases hz : i.zero with
    | none => rw [hz] at h1; cases h1
    | some z => rw [hz] at h1; exact ⟨i, z, rfl, hz, h2, h3, by simpa using h1⟩
theorem entry_info : ∃ i z, Try.prog.info? 64 = some i ∧ i.zero = some z ∧ i.size = 2 ∧ i.bytes = 32 ∧ z.cells.size = 2 := two_info (by kernel_rfl)
theorem commit_info : ∃ i z, Try.prog.info? 48 = some i ∧ i.zero = some z ∧ i.size = 2 ∧ i.bytes = 32 ∧ z.cells.size = 2 := two_info (by kernel_rfl)
/-- append(list, one pair) within a region that draws. -/
theorem step_two {ops : Array Oper} {o : Oper} {a : Act} {w : World} {K : Act → World → Prop} {Q : Exit → Act → World → Prop} {E : Prop} {T L : TypeId} (hT : ∃ i z, Try.prog.info? T = some i ∧ i.zero = some z ∧ i.size = 2 ∧ i.bytes = 32 ∧ z.cells.size = 2) (hL : Try.prog.underlying L = some (.slice T))
    (hg : o.guard = none) (s x : Operand) (hop : o.op = Op.call { callee := Callee.builtin Builtin.append, args := #[s, x], argTypes := #[L, L] })
    (v : Value) (n : Nat) (xs : List Value) (hs : a.eval s = v) (hr : Wide w T 2 v n xs) (g : Nat) (cs : Array Value) (news : List Value) (hx : a.eval x = .slice (some ⟨g, 0, none⟩) 1 1) (hu : w.heap[g]? = some (.cells cs T)) (hcs : cs.toList = news) (hl : news.length = 2) (h1 : ∀ u ∈ news, u.oneCell' = true) (hlen : n ≤ 4398046510976)
    (hK : ∀ v' w', Wide w' T 2 v' (n + 1) (xs ++ news) → Touch (fun k => v.ownBlock = some k) w w' → Moved w v v' → K (a.put o.dst v') w') :
    if Region.wanted o (yielded ops a.tmps) = true then Oper.wp Try.prog o a w K Q else E := by
  have hw : Region.wanted o (yielded ops a.tmps) = true := by simp [Region.wanted, hg]
  rw [if_pos hw]
  obtain ⟨i, z, hi, hz, hsz, hby, hzs⟩ := hT
  obtain ⟨v', w', hrun, r1, r2, r3⟩ := run_wide (P := Try.prog) w L o.type T i z 2 32 hL hi hz hsz hby hzs (by omega) v n xs hr g 0 1 news hl (fun j u hj => by rw [cell_of hu, Nat.zero_add, ← Array.getElem?_toList, hcs]; exact hj) h1 (by unfold maxLen; omega) (by omega)
  unfold Oper.wp
  simp [execOp, hop, resolve, invoke, builtin, hs, hx, hrun, Result.andThen]
  exact hK v' w' r1 r2 r3
theorem keep_heap {S : Nat → Prop} {W0 X w3 : World} {g : Nat} {o : Obj} (t : Touch S X w3) (hs : ¬ S g) (hb : Below W0.heap.size W0 X) (h : W0.heap[g]? = some o) : w3.heap[g]? = some o := by
  have hg : g < W0.heap.size := lt_of_heap h
  rw [t.block g (Nat.lt_of_lt_of_le hg hb.size) hs, hb.block g hg]; exact h
end Go.Proofs.Ytibjfekfkllnjaa
