/-
  The document's cache of layer 10: Cut, Assign. Conditions: the cache is one; at most 8 * 10^12 epochs.
-/
import Derived.Test.YtfpcocagifmpbaaEr0
namespace Go.Proofs.Ytfpcocagifmpbaa
open Go.RowKit
set_option linter.unusedVariables false

theorem i64_info : ∃ i, Try.prog.info? 3 = some i ∧ i.zero = some (.int .i64 0) ∧ i.size = 1 ∧ i.bytes = 8 := by
  have h : (Try.prog.info? 3).map (fun i => (i.zero, i.size, i.bytes)) = some (some (.int .i64 0), 1, 8) := by kernel_rfl
  exact info_parts h
/-- append(row, number). -/
theorem wpList_i1 (w : World) {ops : Array Oper} {rest : List Oper} {o : Oper} {a : Act} {Q : Exit → Act → World → Prop}
    (hg : o.guard = none) (s x : Operand) (hop : o.op = Op.call { callee := Callee.builtin Builtin.append, args := #[s, x], argTypes := #[26, 26] })
    (v : Value) (xs : List Value) (hs : a.eval s = v) (hr : Own w 3 v xs) (g : Nat) (z : Int) (hx : a.eval x = .slice (some ⟨g, 0, none⟩) 1 1) (hc : w.cell? ⟨g, 0, none⟩ = some (.int .i64 z)) (hlen : xs.length ≤ 8000000000000)
    (hK : ∀ v' w', Own w' 3 v' (xs ++ [.int .i64 z]) → Touch (fun k => v.ownBlock = some k) w w' → Moved w v v' → wpList Try.prog ops Q rest (a.put o.dst v') w') :
    wpList Try.prog ops Q (o :: rest) a w := by
  obtain ⟨i, hi, hz, hsz, hby⟩ := i64_info
  refine wpList_app w hg s x 26 hop 3 i (.int .i64 0) 8 Try.underlying26 hi hz hsz hby rfl v xs hs hr (some ⟨g, 0, none⟩) 1 1 [.int .i64 z] hx rfl (fun j u hj => ⟨g, 0, rfl, ?_⟩) (by simp [Value.oneCell']) (fun h => by cases h) (by unfold maxLen; omega) (by omega) hK
  cases j with
  | zero => simp at hj; rw [← hj]; exact hc
  | succ j => simp at hj
theorem own_shape {w : World} {e : TypeId} {v : Value} {xs : List Value} (h : Own w e v xs) : ∃ a c, v = .slice a xs.length c := by
  obtain ⟨a, c, e1, _⟩ := h.parts
  exact ⟨a, c, e1⟩

/-- What a call that changes the document's cache leaves. -/
def RcPost (B : Nat) (w : World) (rb : Nat) (r : Value) (l' : List Pr) (e : Ending) (w' : World) : Prop :=
  e = .returned r ∧ ∃ v1 v2, RcAt B w' rb v1 v2 l' ∧ Touch (· = rb) w w'
def RnPost (B : Nat) (w : World) (rb : Nat) (r : Value) (l' : List Pr) (e : Ending) (w' : World) : Prop :=
  e = .returned r ∧ ∃ v1 v2, RcAt B w' rb v1 v2 l' ∧ Touch (· = rb) w w' ∧ New w v1 ∧ New w v2
theorem cutE_snoc_in {a : Int} {l : List Pr} {k : Nat} (hk : k < l.length) (h : (l[k]'hk).2 < a) : cutE a (l.take (k + 1)) = cutE a (l.take k) ++ [l[k]] := by
  rw [List.take_succ_eq_append_getElem hk]; unfold cutE; rw [List.filter_append]; simp [h]
theorem cutE_snoc_out {a : Int} {l : List Pr} {k : Nat} (hk : k < l.length) (h : ¬ (l[k]'hk).2 < a) : cutE a (l.take (k + 1)) = cutE a (l.take k) := by
  rw [List.take_succ_eq_append_getElem hk]; unfold cutE; rw [List.filter_append]; simp [h]
/-- Where the document's Cut has come to. -/
structure RcI (w wr : World) (u1 u2 : Value) (m : List Pr) : Prop where
  r1 : Own wr 3 u1 (fsC m)
  r2 : Own wr 3 u2 (snC m)
  n1 : New w u1
  n2 : New w u2
  ap : ∀ k, u1.ownBlock = some k → u2.ownBlock ≠ some k
  bl : Below w.heap.size w wr
section
variable {B : Nat} {w : World} {rb : Nat} {v1 v2 : Value} {l : List Pr}
theorem RcI.add1 {w wr X w3 : World} {u1 u2 u3 : Value} {m : List Pr} {p : Pr} (h : RcI w wr u1 u2 m) (hX : Below wr.heap.size wr X) (o : Own w3 3 u3 (fsC m ++ [.int .i64 p.1])) (t : Touch (fun k => u1.ownBlock = some k) X w3) (mv : Moved X u1 u3) :
    Own w3 3 u3 (fsC (m ++ [p])) ∧ Own w3 3 u2 (snC m) ∧ New w u3 ∧ (∀ k, u3.ownBlock = some k → u2.ownBlock ≠ some k) ∧ Below w.heap.size w w3 := by
  have hb := h.bl.size
  refine ⟨by simpa using o, (h.r2.later hX).keep t (fun k hk e => h.ap k e hk), fun k hk => ?_, fun k hk e => ?_, below_touch (h.bl.trans (hX.mono hb)) t (Nat.le_trans hb hX.size) (fun k hk => h.n1 k hk)⟩
  · rcases mv k hk with e | e
    · exact h.n1 k e
    · exact Nat.le_trans hb (Nat.le_trans hX.size e)
  · rcases mv k hk with e2 | e2
    · exact h.ap k e2 e
    · have := h.r2.lt k e; have := hX.size; omega
theorem RcI.add2 {w wr X w3 : World} {u1 u2 u3 : Value} {m : List Pr} {p : Pr} (o1 : Own wr 3 u1 (fsC (m ++ [p]))) (n1 : New w u1) (n2 : New w u2) (o2 : Own wr 3 u2 (snC m)) (ap : ∀ k, u1.ownBlock = some k → u2.ownBlock ≠ some k) (bl : Below w.heap.size w wr) (hX : Below wr.heap.size wr X) (o : Own w3 3 u3 (snC m ++ [.int .i64 p.2])) (t : Touch (fun k => u2.ownBlock = some k) X w3) (mv : Moved X u2 u3) :
    RcI w w3 u1 u3 (m ++ [p]) := by
  have hb := bl.size
  refine ⟨(o1.later hX).keep t (fun k hk e => ap k hk e), by simpa using o, n1, fun k hk => ?_, fun k hk e => ?_, below_touch (bl.trans (hX.mono hb)) t (Nat.le_trans hb hX.size) (fun k hk => n2 k hk)⟩
  · rcases mv k hk with e | e
    · exact n2 k e
    · exact Nat.le_trans hb (Nat.le_trans hX.size e)
  · rcases mv k e with e2 | e2
    · exact ap k hk e2
    · have := o1.lt k hk; have := hX.size; omega
/-- The two stores at a call's end. -/
theorem RcI.put {w wr : World} {u1 u2 : Value} {m : List Pr} (h : RcI w wr u1 u2 m) (hr : RcAt B w rb v1 v2 l) (hB : B ≤ w.heap.size) :
    RcAt B ((wr.setCell ⟨rb, 0, none⟩ u1).setCell ⟨rb, 1, none⟩ u2) rb u1 u2 m ∧ Touch (· = rb) w ((wr.setCell ⟨rb, 0, none⟩ u1).setCell ⟨rb, 1, none⟩ u2) := by
  have hlt := hr.lt
  have t0 := touch_set wr rb 0 u1
  have t1 := touch_set (wr.setCell ⟨rb, 0, none⟩ u1) rb 1 u2
  have t2 := t0.trans t1
  have hb := below_keep h.bl hr.box
  refine ⟨⟨?_, h.r1.keep t2 (fun k hk e => ?_), h.r2.keep t2 (fun k hk e => ?_), h.ap, hr.lo, fun k hk => Nat.le_trans hB (h.n1 k hk), fun k hk => Nat.le_trans hB (h.n2 k hk)⟩, (Touch.of_below h.bl).trans t2⟩
  · have := heap_set (heap_set hb 0 u1) 1 u2
    exact this
  · have := h.n1 k hk; omega
  · have := h.n2 k hk; omega
set_option maxRecDepth 100000 in
set_option maxHeartbeats 2000000 in
theorem rcut_any (h : RcAt B w rb v1 v2 l) (hn : l.length ≤ 8000000000000) (hB : B ≤ w.heap.size) (at_ : Int) :
    Calls Try.prog 14 #[.pointer (some ⟨rb, 0, none⟩), .int .i64 at_] w fun e w' => RnPost B w rb (.tuple #[]) (cutE at_ l) e w' := by
  have k1 := h.cell1
  have k2 := h.cell2
  have hlt := h.lt
  have HH := hide h
  obtain ⟨a1, c1, a2, c2, rfl, rfl, hmax, hc⟩ := h.cells
  have HC := hide hc
  clear h hc hmax
  go_enter Try.func14, Try.ntmps14
  go_wp2_with fail
  go_loopw [4, 5, 6] (fun q1 q2 pl wr => ∃ (k n : Nat) (b1 b2 : Option Addr) (d1 d2 : Nat), q1 = .slice b1 n d1 ∧ q2 = .slice b2 n d2 ∧ k ≤ l.length ∧ pl = .int .i64 (k : Int) ∧ n = (cutE at_ (l.take k)).length ∧ RcI w wr (.slice b1 n d1) (.slice b2 n d2) (cutE at_ (l.take k))) (fun _ _ pl _ => l.length - (intOf pl).toNat)
  case atStart => exact ⟨0, 0, none, none, 0, 0, rfl, rfl, Nat.zero_le _, rfl, rfl, Own.nil _ _, Own.nil _ _, New.nil _, New.nil _, fun k hk => by simp [Value.ownBlock] at hk, Below.refl _ _⟩
  case round =>
    obtain ⟨k, n, b1, b2, d1, d2, rfl, rfl, hk, rfl, hnm, hI⟩ := hrel
    have HI := hide hI
    have k1r : wr.cell? ⟨rb, 0, none⟩ = some (.slice a1 l.length c1) := (hI.bl.cell (p := ⟨rb, 0, none⟩) hlt).trans k1
    have k2r : wr.cell? ⟨rb, 1, none⟩ = some (.slice a2 l.length c2) := (hI.bl.cell (p := ⟨rb, 1, none⟩) hlt).trans k2
    have hlr : rb < wr.heap.size := Nat.lt_of_lt_of_le hlt hI.bl.size
    clear hI k1 k2
    by_cases hkl : k < l.length
    · have hkl' : (k : Int) < (l.length : Int) := by omega
      have hz : (0 : Int) ≤ (k : Int) := by omega
      obtain ⟨g1, g2, rfl, rfl, hg1, hg2, y1', y2'⟩ := unhide HC k hkl
      have y1 := ((unhide HI).bl.cell (p := ⟨g1, k, none⟩) hg1).trans y1'
      have y2 := ((unhide HI).bl.cell (p := ⟨g2, k, none⟩) hg2).trans y2'
      have hg1r : g1 < wr.heap.size := Nat.lt_of_lt_of_le hg1 (unhide HI).bl.size
      have hg2r : g2 < wr.heap.size := Nat.lt_of_lt_of_le hg2 (unhide HI).bl.size
      clear y1' y2'
      have hw1 : IntKind.i64.wrap ((k : Int) + 1) = (k : Int) + 1 := wrap_low (by omega) (by omega)
      by_cases hE : (l[k]'hkl).2 < at_
      · have CE := hide (cutE_snoc_in hkl hE)
        have ML : Hid ((cutE at_ (l.take k)).length ≤ 8000000000000) := by
          refine Nat.le_trans (List.length_filter_le _ _) ?_
          rw [List.length_take]; omega
        clear HC HH
        generalize cutE at_ (l.take k) = m at *
        generalize hp : l[k]'hkl = p at *
        obtain ⟨p1, p2⟩ := p
        simp only at y1 y2 hE CE
        subst hnm
        have O1 := hide ((unhide HI).r1.later ((Below.refl wr.heap.size wr).alloc (Nat.le_refl _) (.cells #[.int .i64 p1] 3)))
        have hml := unhide ML
        go_wp2_with (at_builtin; refine wpList_i1 _ rfl (.tmp 25) (.tmp 33) rfl (.slice b1 m.length d1) (fsC m) rfl (unhide O1) wr.heap.size p1 rfl (by rw [cell_of (heap_new _ _)]; rfl) (by rw [List.length_map]; exact hml) ?_)
        intro u3 w3 o3 t3 m3
        have AL : Below wr.heap.size wr (wr.alloc (.cells #[.int .i64 p1] 3)) := (Below.refl _ _).alloc (Nat.le_refl _) _
        obtain ⟨q1, q2, q3, q4, q5⟩ := (unhide HI).add1 (p := (p1, p2)) AL o3 t3 m3
        have Q1 := hide q1
        have Q2 := hide q2
        have Q3 := hide q3
        have Q4 := hide q4
        have Q5 := hide q5
        have N2 := hide (unhide HI).n2
        have N1 := (unhide HI).n1
        have k23 : w3.cell? ⟨rb, 1, none⟩ = some (.slice (some ⟨g2, 0, none⟩) l.length c2) := by
          rw [World.cell?_of_block (a := ⟨rb, 1, none⟩) (t3.block rb (by simp; omega) (fun e => by have := N1 rb e; omega))]
          exact (AL.cell (p := ⟨rb, 1, none⟩) hlr).trans k2r
        have y23 : w3.cell? ⟨g2, k, none⟩ = some (.int .i64 p2) := by
          rw [World.cell?_of_block (a := ⟨g2, k, none⟩) (t3.block g2 (by simp; omega) (fun e => by have := N1 g2 e; omega))]
          exact (AL.cell (p := ⟨g2, k, none⟩) hg2r).trans y2
        have hl3 : wr.heap.size ≤ w3.heap.size := Nat.le_trans AL.size t3.size
        have hr3 : rb < w3.heap.size := by omega
        have hg3 : g2 < w3.heap.size := by omega
        obtain ⟨b3, d3, hu3⟩ := own_shape o3
        rw [List.length_append, List.length_map, List.length_singleton] at hu3
        have O2 := hide (q2.later ((Below.refl w3.heap.size w3).alloc (Nat.le_refl _) (.cells #[.int .i64 p2] 3)))
        clear o3 t3 m3 q1 q2 q3 q4 q5 N1 AL O1 HI k1r k2r y1 y2
        subst hu3
        go_wp2_with (at_builtin; refine wpList_i1 _ rfl (.tmp 35) (.tmp 43) rfl (.slice b2 m.length d2) (snC m) rfl (unhide O2) w3.heap.size p2 rfl (by rw [cell_of (heap_new _ _)]; rfl) (by rw [List.length_map]; exact hml) ?_)
        intro u4 w4 o4 t4 m4
        have NX : Hid (RcI w w4 (.slice b3 (m.length + 1) d3) u4 (m ++ [(p1, p2)])) := RcI.add2 (unhide Q1) (unhide Q3) (unhide N2) (unhide Q2) (unhide Q4) (unhide Q5) ((Below.refl _ _).alloc (Nat.le_refl _) _) o4 t4 m4
        obtain ⟨b4, d4, hu4⟩ := own_shape o4
        rw [List.length_append, List.length_map, List.length_singleton] at hu4
        clear o4 t4 m4 Q1 Q2 Q3 Q4 Q5 N2 O2 k23 y23
        subst hu4
        go_wp2
        go_roundw
        case rel => exact ⟨k + 1, m.length + 1, _, _, _, _, rfl, rfl, by omega, by go_num, by rw [unhide CE, List.length_append, List.length_singleton], by rw [unhide CE]; exact unhide NX⟩
        case measure => simp [intOf]; omega
      · have CE := hide (cutE_snoc_out hkl hE)
        have NX : Hid (n = (cutE at_ (l.take (k + 1))).length ∧ RcI w wr (.slice b1 n d1) (.slice b2 n d2) (cutE at_ (l.take (k + 1)))) := by show _ ∧ _; rw [unhide CE]; exact ⟨hnm, unhide HI⟩
        clear HC HH HI CE hnm
        generalize hp : l[k]'hkl = p at *
        obtain ⟨p1, p2⟩ := p
        simp only at y1 y2 hE
        go_wp2
        go_roundw
        case rel => exact ⟨k + 1, n, _, _, _, _, rfl, rfl, by omega, by go_num, unhide NX⟩
        case measure => simp [intOf]; omega
    · have hkl' : ¬ (k : Int) < (l.length : Int) := by omega
      obtain rfl : k = l.length := by omega
      rw [List.take_length] at HI
      have F : Hid (RnPost B w rb (.tuple #[]) (cutE at_ l) (.returned (.tuple #[])) ((wr.setCell ⟨rb, 0, none⟩ (.slice b1 n d1)).setCell ⟨rb, 1, none⟩ (.slice b2 n d2))) := ⟨rfl, _, _, ((unhide HI).put (unhide HH) hB).1, ((unhide HI).put (unhide HH) hB).2, (unhide HI).n1, (unhide HI).n2⟩
      have hb := below_keep (unhide HI).bl (unhide HH).box
      have z0 := frozen_of hb 0
      have z1 := frozen_of (heap_set hb 0 (.slice b1 n d1)) 1
      have k3 : (wr.setCell ⟨rb, 0, none⟩ (.slice b1 n d1)).cell? ⟨rb, 1, none⟩ = some (.slice a2 l.length c2) := by rw [cell_of (heap_set hb 0 (.slice b1 n d1))]; rfl
      clear HC HH HI hb
      clear hnm
      go_wp2
      go_returns
      exact unhide F
end
end Go.Proofs.Ytfpcocagifmpbaa
