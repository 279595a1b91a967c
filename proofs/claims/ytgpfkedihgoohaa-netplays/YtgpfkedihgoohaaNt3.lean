/-
  net's own, add and Send. Conditions: the net is one, and so is the packet.
-/
import Derived.Test.YtgpfkedihgoohaaNt2
namespace Go.Proofs.Ytgpfkedihgoohaa
open Go.RowKit
set_option linter.unusedVariables false

/-- A packet of its own. -/
def OwnPost (w : World) (q : Pa) (e : Ending) (w' : World) : Prop := ∃ p', e = .returned (pkV p') ∧ p'.abs = q ∧ PRow w' p' ∧ New w (pkS p') ∧ Below w.heap.size w w'
/-- Three cells laid anew. -/
theorem set3 {w : World} {b : Nat} {x y z : Value} {t : TypeId} (h : w.heap[b]? = some (.cells #[x, y, z] t)) (x' y' z' : Value) : (((w.setCell ⟨b, 0, none⟩ x').setCell ⟨b, 1, none⟩ y').setCell ⟨b, 2, none⟩ z').heap[b]? = some (.cells #[x', y', z'] t) := by
  have h1 := heap_set h 0 x'
  have h2 := heap_set h1 1 y'
  have h3 := heap_set h2 2 z'
  simpa using h3
set_option maxRecDepth 100000 in
set_option maxHeartbeats 1000000 in
theorem own11_any {w : World} {p : Pk} (h : PIn w p) : Calls Try.prog 28 #[pkV p] w fun e w' => OwnPost w p.abs e w' := by
  obtain ⟨fr, to, a, c, l⟩ := p
  obtain ⟨h1, h2, h3⟩ := h
  simp only at h1 h2
  have hl := h3.l
  simp only at hl
  have hA : Below w.heap.size w (w.alloc (.cells #[.int .i64 fr, .int .i64 to, .slice a l.length c] 33)) := (Below.refl _ _).alloc (Nat.le_refl _) _
  have hB : Below w.heap.size w ((w.alloc (.cells #[.int .i64 fr, .int .i64 to, .slice a l.length c] 33)).alloc (.cells #[.int .i64 0, .int .i64 0, .slice none 0 0] 33)) := hA.alloc (by simp) _
  have K := hide (clone_any (h1.later hB) h2 hl)
  have HB := hide hB
  have G0 : Hid (((w.alloc (.cells #[.int .i64 fr, .int .i64 to, .slice a l.length c] 33)).alloc (.cells #[.int .i64 0, .int .i64 0, .slice none 0 0] 33)).heap[w.heap.size]? = some (.cells #[.int .i64 fr, .int .i64 to, .slice a l.length c] 33)) := heap_old _ (heap_new _ _)
  have G1 : Hid (((w.alloc (.cells #[.int .i64 fr, .int .i64 to, .slice a l.length c] 33)).alloc (.cells #[.int .i64 0, .int .i64 0, .slice none 0 0] 33)).heap[w.heap.size + 1]? = some (.cells #[.int .i64 0, .int .i64 0, .slice none 0 0] 33)) := by
    have := heap_new (w.alloc (.cells #[.int .i64 fr, .int .i64 to, .slice a l.length c] 33)) (.cells #[.int .i64 0, .int .i64 0, .slice none 0 0] 33)
    rw [World.size_alloc] at this
    exact this
  have Z : Hid (((w.alloc (.cells #[.int .i64 fr, .int .i64 to, .slice a l.length c] 33)).alloc (.cells #[.int .i64 0, .int .i64 0, .slice none 0 0] 33)).heap.size = w.heap.size + 2) := by show _ = _; simp
  have k2 : ((w.alloc (.cells #[.int .i64 fr, .int .i64 to, .slice a l.length c] 33)).alloc (.cells #[.int .i64 0, .int .i64 0, .slice none 0 0] 33)).cell? ⟨w.heap.size, 2, none⟩ = some (.slice a l.length c) := by rw [cell_of (unhide G0)]; rfl
  have H3 := hide h3
  clear h1 h2 h3 hA hB hl
  unfold pkV pkS
  dsimp only
  generalize hm : l.length = m at *
  have HM := hide hm
  clear hm
  go_enter Try.func28, Try.ntmps28
  go_wp2_with fail
  generalize (w.alloc (.cells #[.int .i64 fr, .int .i64 to, .slice a m c] 33)).alloc (.cells #[.int .i64 0, .int .i64 0, .slice none 0 0] 33) = W at *
  refine (unhide K).mono ?_
  rintro e w1 ⟨a', c', rfl, r1, n1, b1⟩
  rw [unhide HM] at r1 n1 ⊢
  have g0 := below_keep b1 (unhide G0)
  have g1 := below_keep b1 (unhide G1)
  have x0 : w1.cell? ⟨w.heap.size, 0, none⟩ = some (.int .i64 fr) := by rw [cell_of g0]; rfl
  have x1 : w1.cell? ⟨w.heap.size, 1, none⟩ = some (.int .i64 to) := by rw [cell_of g0]; rfl
  have x2 : w1.cell? ⟨w.heap.size, 2, none⟩ = some (.slice a m c) := by rw [cell_of g0]; rfl
  have f2 : w1.frozen? ⟨w.heap.size, 2, none⟩ = false := frozen_of g0 2
  have y0 : w1.cell? ⟨w.heap.size + 1, 0, none⟩ = some (.int .i64 0) := by rw [cell_of g1]; rfl
  have y1 : w1.cell? ⟨w.heap.size + 1, 1, none⟩ = some (.int .i64 0) := by rw [cell_of g1]; rfl
  have y2 : w1.cell? ⟨w.heap.size + 1, 2, none⟩ = some (.slice none 0 0) := by rw [cell_of g1]; rfl
  have e0 : w1.frozen? ⟨w.heap.size + 1, 0, none⟩ = false := frozen_of g1 0
  have e1 : w1.frozen? ⟨w.heap.size + 1, 1, none⟩ = false := frozen_of g1 1
  have e2 : w1.frozen? ⟨w.heap.size + 1, 2, none⟩ = false := frozen_of g1 2
  have hle : w.heap.size + 2 ≤ w1.heap.size := by have := b1.size; rw [unhide Z] at this; exact this
  have F : Hid (∀ V, V = ((((w1.setCell ⟨w.heap.size, 2, none⟩ (.slice a' m c')).setCell ⟨w.heap.size + 1, 0, none⟩ (.int .i64 fr)).setCell ⟨w.heap.size + 1, 1, none⟩ (.int .i64 to)).setCell ⟨w.heap.size + 1, 2, none⟩ (.slice a' m c')) →
      V.heap[w.heap.size + 1]? = some (.cells #[.int .i64 fr, .int .i64 to, .slice a' m c'] 33) ∧ OwnPost w ⟨fr, to, l⟩ (.returned (.agg #[.int .i64 fr, .int .i64 to, .slice a' m c'])) V) := fun V hV => by
    subst hV
    have t1 := touch_set w1 w.heap.size 2 (.slice a' m c')
    have gg := t1.keep g1 (show ¬ w.heap.size + 1 = w.heap.size by omega)
    refine ⟨set3 gg _ _ _, ⟨fr, to, a', c', l⟩, ?_, rfl, ?_, ?_, ?_⟩
    · show _ = Ending.returned (.agg #[.int .i64 fr, .int .i64 to, .slice a' l.length c'])
      rw [unhide HM]
    · refine ⟨?_, unhide H3⟩
      show Row _ (.slice a' l.length c') l
      rw [unhide HM]
      have T : Touch (fun k => k = w.heap.size ∨ k = w.heap.size + 1) w1 ((((w1.setCell ⟨w.heap.size, 2, none⟩ (.slice a' m c')).setCell ⟨w.heap.size + 1, 0, none⟩ (.int .i64 fr)).setCell ⟨w.heap.size + 1, 1, none⟩ (.int .i64 to)).setCell ⟨w.heap.size + 1, 2, none⟩ (.slice a' m c')) :=
        ((((Touch.refl _ w1).setCell (p := ⟨w.heap.size, 2, none⟩) (.inl rfl) _).setCell (p := ⟨w.heap.size + 1, 0, none⟩) (.inr rfl) _).setCell (p := ⟨w.heap.size + 1, 1, none⟩) (.inr rfl) _).setCell (p := ⟨w.heap.size + 1, 2, none⟩) (.inr rfl) _
      refine r1.keep T (fun k hk e => ?_)
      have := n1 k hk
      rw [unhide Z] at this
      omega
    · show New w (.slice a' l.length c')
      rw [unhide HM]
      intro k hk
      have := n1 k hk
      rw [unhide Z] at this
      omega
    · have bb : Below w.heap.size w w1 := (unhide HB).trans (b1.mono (unhide HB).size)
      exact (((bb.setCell (p := ⟨w.heap.size, 2, none⟩) (Nat.le_refl _) _).setCell (p := ⟨w.heap.size + 1, 0, none⟩) (by show w.heap.size ≤ w.heap.size + 1; omega) _).setCell (p := ⟨w.heap.size + 1, 1, none⟩) (by show w.heap.size ≤ w.heap.size + 1; omega) _).setCell (p := ⟨w.heap.size + 1, 2, none⟩) (by show w.heap.size ≤ w.heap.size + 1; omega) _
  clear K HB G0 G1 k2 r1 n1 b1 g0 g1 H3 HM Z
  go_wp2
  obtain ⟨vg, vf⟩ := unhide F _ rfl
  generalize (((w1.setCell ⟨w.heap.size, 2, none⟩ (.slice a' m c')).setCell ⟨w.heap.size + 1, 0, none⟩ (.int .i64 fr)).setCell ⟨w.heap.size + 1, 1, none⟩ (.int .i64 to)).setCell ⟨w.heap.size + 1, 2, none⟩ (.slice a' m c') = V at *
  have v0 := cell_of vg 0
  have v1 := cell_of vg 1
  have v2 := cell_of vg 2
  simp only [List.getElem?_toArray, List.getElem?_cons_zero, List.getElem?_cons_succ] at v0 v1 v2
  refine bodyPost_ret (by simp [results, Try.results28, go_sem, v0, v1, v2]; try rfl) rfl ?_
  exact vf

theorem pk_info : ∃ i z, Try.prog.info? 33 = some i ∧ i.zero = some z ∧ i.size = 3 ∧ i.bytes = 40 ∧ z.cells.size = 3 := by
  have h : (Try.prog.info? 33).map (fun i => (i.zero.map (fun z => z.cells.size), i.size, i.bytes)) = some (some 3, 3, 40) := by kernel_rfl
  cases hi : Try.prog.info? 33 with
  | none => rw [hi] at h; cases h
  | some i =>
    rw [hi] at h
    simp only [Option.map_some, Option.some.injEq, Prod.mk.injEq] at h
    obtain ⟨h1, h2, h3⟩ := h
    cases hz : i.zero with
    | none => rw [hz] at h1; cases h1
    | some z => rw [hz] at h1; exact ⟨i, z, rfl, hz, h2, h3, by simpa using h1⟩
/-- append(list, one packet) within a region that draws. -/
theorem step_pk {ops : Array Oper} {o : Oper} {a : Act} {w : World} {K : Act → World → Prop} {Q : Exit → Act → World → Prop} {E : Prop}
    (hg : o.guard = none) (s x : Operand) (hop : o.op = Op.call { callee := Callee.builtin Builtin.append, args := #[s, x], argTypes := #[26, 26] })
    (v : Value) (n : Nat) (xs : List Value) (hs : a.eval s = v) (hr : Wide w 33 3 v n xs) (g : Nat) (cs : Array Value) (news : List Value) (hx : a.eval x = .slice (some ⟨g, 0, none⟩) 1 1) (hu : w.heap[g]? = some (.cells cs 33)) (hcs : cs.toList = news) (hl : news.length = 3) (h1 : ∀ u ∈ news, u.oneCell' = true) (hlen : n ≤ 1099511627776)
    (hK : ∀ v' w', Wide w' 33 3 v' (n + 1) (xs ++ news) → Touch (fun k => v.ownBlock = some k) w w' → Moved w v v' → K (a.put o.dst v') w') :
    if Region.wanted o (yielded ops a.tmps) = true then Oper.wp Try.prog o a w K Q else E := by
  have hw : Region.wanted o (yielded ops a.tmps) = true := by simp [Region.wanted, hg]
  rw [if_pos hw]
  obtain ⟨i, z, hi, hz, hsz, hby, hzs⟩ := pk_info
  obtain ⟨v', w', hrun, r1, r2, r3⟩ := run_wide (P := Try.prog) w 26 o.type 33 i z 3 40 Try.underlying26 hi hz hsz hby hzs (by omega) v n xs hr g 0 1 news hl (fun j u hj => by rw [cell_of hu, Nat.zero_add, ← Array.getElem?_toList, hcs]; exact hj) h1 (by unfold maxLen; omega) (by omega)
  unfold Oper.wp
  simp [execOp, hop, resolve, invoke, builtin, hs, hx, hrun, Result.andThen]
  exact hK v' w' r1 r2 r3
theorem below_drewN3 {B : Nat} {w0 w : World} (h : Below B w0 w) (n : Nat) : Below B w0 (w.drewN n) := h.trans ⟨rfl, rfl, rfl, Nat.le_refl _, fun _ _ => rfl⟩
theorem keep_heap {S : Nat → Prop} {W0 X w3 : World} {g : Nat} {o : Obj} (t : Touch S X w3) (hs : ¬ S g) (hb : Below W0.heap.size W0 X) (h : W0.heap[g]? = some o) : w3.heap[g]? = some o := by
  have hg : g < W0.heap.size := lt_of_heap h
  rw [t.block g (Nat.lt_of_lt_of_le hg hb.size) hs, hb.block g hg]; exact h
/-- What add leaves: the box (its first cell the list, u what else it holds) and the list. -/
def AdPost (w : World) (nb : Nat) (v : Value) (xs : List Value) (n : Nat) (p : Pk) (us : List Value) (T : TypeId) (e : Ending) (w' : World) : Prop :=
  e = .returned (.tuple #[]) ∧ ∃ v', w'.heap[nb]? = some (.cells (v' :: us).toArray T) ∧ Wide w' 33 3 v' (n + 1) (xs ++ pkC p) ∧ Touch (fun k => k = nb ∨ v.ownBlock = some k) w w' ∧ Moved w v v'
set_option maxRecDepth 100000 in
set_option maxHeartbeats 1000000 in
theorem add_any {w : World} {nb : Nat} {v : Value} {us : List Value} {T : TypeId} {n : Nat} {xs : List Value} (h : w.heap[nb]? = some (.cells (v :: us).toArray T)) (hr : Wide w 33 3 v n xs) (hT : T ≠ 33) (hn : n < 256) (p : Pk) :
    Calls Try.prog 27 #[.pointer (some ⟨nb, 0, none⟩), pkV p] w fun e w' => AdPost w nb v xs n p us T e w' := by
  have hne : v.ownBlock ≠ some nb := fun e => by
    obtain ⟨cs, hc⟩ := hr.heap e
    rw [h] at hc
    exact hT (Obj.cells.inj (Option.some.inj hc)).2.1
  have hnb := lt_of_heap h
  obtain ⟨fr, to, a, c, l⟩ := p
  have hA : Below w.heap.size w (w.alloc (.cells #[.int .i64 fr, .int .i64 to, .slice a l.length c] 33)) := (Below.refl _ _).alloc (Nat.le_refl _) _
  have HA := hide hA
  have GB := hide (below_keep hA h)
  have ROW := hide (hr.later hA)
  have G : (w.alloc (.cells #[.int .i64 fr, .int .i64 to, .slice a l.length c] 33)).heap[w.heap.size]? = some (.cells #[.int .i64 fr, .int .i64 to, .slice a l.length c] 33) := heap_new _ _
  have k0 : (w.alloc (.cells #[.int .i64 fr, .int .i64 to, .slice a l.length c] 33)).cell? ⟨w.heap.size, 0, none⟩ = some (.int .i64 fr) := by rw [cell_of G]; rfl
  have k1 : (w.alloc (.cells #[.int .i64 fr, .int .i64 to, .slice a l.length c] 33)).cell? ⟨w.heap.size, 1, none⟩ = some (.int .i64 to) := by rw [cell_of G]; rfl
  have k2 : (w.alloc (.cells #[.int .i64 fr, .int .i64 to, .slice a l.length c] 33)).cell? ⟨w.heap.size, 2, none⟩ = some (.slice a l.length c) := by rw [cell_of G]; rfl
  obtain ⟨av, cv, rfl⟩ := hr.shape
  have c0 : (w.alloc (.cells #[.int .i64 fr, .int .i64 to, .slice a l.length c] 33)).cell? ⟨nb, 0, none⟩ = some (.slice av n cv) := by rw [cell_of (unhide GB)]; simp
  have hsz : (w.alloc (.cells #[.int .i64 fr, .int .i64 to, .slice a l.length c] 33)).heap.size = w.heap.size + 1 := by simp
  have HSZ := hide hsz
  clear G hA hr h hsz
  have FX : Hid (∀ W X v3 w3, Below w.heap.size w W → W.heap[nb]? = some (.cells (Value.slice av n cv :: us).toArray T) → Below W.heap.size W X → Wide w3 33 3 v3 (n + 1) (xs ++ [.int .i64 fr, .int .i64 to, .slice a l.length c]) → Touch (fun k => (Value.slice av n cv).ownBlock = some k) X w3 → Moved X (.slice av n cv) v3 →
      w3.cell? ⟨nb, 0, none⟩ = some (.slice av n cv) ∧ w3.frozen? ⟨nb, 0, none⟩ = false ∧ AdPost w nb (.slice av n cv) xs n ⟨fr, to, a, c, l⟩ us T (.returned (.tuple #[])) (w3.setCell ⟨nb, 0, none⟩ v3)) := fun W X v3 w3 hW hb hX o3 t3 m3 => by
    have hWX : Below w.heap.size w X := hW.trans (hX.mono hW.size)
    have h3 := keep_heap t3 hne hX hb
    have ts := touch_set w3 nb 0 v3
    refine ⟨by rw [cell_of h3]; simp, frozen_of h3 0, rfl, v3, ?_, o3.keep ts (fun k hk e => ?_), ?_, fun k hk => ?_⟩
    · have := heap_set h3 0 v3
      simpa using this
    · rcases m3 k hk with e2 | e2
      · exact hne (by rw [← e]; exact e2)
      · have h2 := hWX.size
        omega
    · exact ((Touch.of_below (S := fun k => k = nb ∨ (Value.slice av n cv).ownBlock = some k) hWX).trans (t3.mono (fun k hk => .inr hk))).trans (ts.mono (fun k hk => .inl hk))
    · rcases m3 k hk with e | e
      · exact .inl e
      · have h2 := hWX.size
        exact .inr (by omega)
  unfold pkV pkS
  dsimp only
  generalize hm : l.length = m at *
  clear hm
  go_enter Try.func27, Try.ntmps27
  go_wp2_with fail
  generalize w.alloc (.cells #[.int .i64 fr, .int .i64 to, .slice a m c] 33) = W at *
  have yA : ∀ X, (W.alloc X).cell? ⟨nb, 0, none⟩ = some (.slice av n cv) := fun X => (((Below.refl W.heap.size W).alloc (Nat.le_refl _) X).cell (p := ⟨nb, 0, none⟩) (lt_of_heap (unhide GB))).trans c0
  go_region_law (refine step_pk rfl (.tmp 8) (.tmp 10) rfl (.slice av n cv) n xs (by rfl) ((unhide ROW).later (by first | exact (Below.refl _ _).alloc (Nat.le_refl _) _ | exact (below_drewN3 (Below.refl _ _) _).alloc (Nat.le_refl _) _)) _ _ _ (by rfl) (heap_new _ _) rfl rfl (by intro u hu; simp at hu; rcases hu with rfl | rfl | rfl <;> rfl) (by omega) ?_; intro v3 w3 o3 t3 m3; obtain ⟨q1, q2, q3⟩ := unhide FX W _ v3 w3 (unhide HA) (unhide GB) (by first | exact (Below.refl _ _).alloc (Nat.le_refl _) _ | exact (below_drewN3 (Below.refl _ _) _).alloc (Nat.le_refl _) _) o3 t3 m3; have Q3 := hide q3; obtain ⟨a3, c3, rfl⟩ := o3.shape; clear o3 t3 m3 q3)
  all_goals
    clear FX ROW GB HA k0 k1 k2 c0 q1 q2 yA
    go_wp2
    go_returns
    exact unhide Q3
end Go.Proofs.Ytgpfkedihgoohaa
