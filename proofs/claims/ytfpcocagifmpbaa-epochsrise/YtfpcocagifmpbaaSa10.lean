/-
  same of layer 10: a cache and the document's cache that hold the same epochs. Conditions: both are caches; at most 8 * 10^12 epochs.
-/
import Derived.Test.YtfpcocagifmpbaaAw10
import Derived.Test.YtfpcocagifmpbaaEr2
import Derived.Test.YtfpcocagifmpbaaRq
import Derived.Sort.QuietIn
import Derived.BigRegionIn
namespace Go.Proofs.Ytfpcocagifmpbaa
open Go.RowKit Go.Shelf
set_option linter.unusedVariables false
attribute [local go_sem] Oper.semAt_some

theorem Touch.own {α : Type} {S : Nat → Prop} {w0 : World} {B : Nat} (hB : w0.heap.size ≤ B) : OwnFrom B (fun (_ : List α) W => Touch S w0 W) := fun s W W' row hs hg hr =>
  ⟨hg.os.trans hs.os, hg.tape.trans hs.tape, hg.output.trans hs.output, Nat.le_trans hs.size hg.size, fun k hk hS => (hg.block k (Nat.lt_of_lt_of_le hk hs.size) (fun e => by have := (hr k e.symm).1; omega)).trans (hs.block k hk hS)⟩
theorem keepsDrewN (W : World) (n : Nat) : KeepsOthers W (W.drewN n) := ⟨Nat.le_refl _, fun _ _ h _ => h⟩
theorem Touch.drewN {S : Nat → Prop} {a w : World} (h : Touch S a w) (n : Nat) : Touch S a (w.drewN n) := ⟨h.os, h.tape, h.output, h.size, h.block⟩
theorem pre_snoc {pre l : List Pr} {x : Pr} (h : pre ++ [x] <+: l) : ∃ hk : pre.length < l.length, l[pre.length] = x := by
  obtain ⟨s, rfl⟩ := h
  exact ⟨by simp, by simp⟩
set_option maxRecDepth 100000 in
set_option maxHeartbeats 4000000 in
theorem same10_any {B : Nat} {w : World} {cb rb : Nat} {v v1 v2 : Value} {l : List Pr} (hc : CaAt B w cb v l) (hr : RcAt B w rb v1 v2 l) (hn : l.length ≤ 8000000000000) :
    Calls Try.prog 17 #[.pointer (some ⟨cb, 0, none⟩), .pointer (some ⟨rb, 0, none⟩)] w fun e w' => e = .returned (.bool true) ∧ Below w.heap.size w w' := by
  have hcl := hc.lt
  have hrl := hr.lt
  have A0 : Hid (Below w.heap.size w (((w.alloc (.cells #[.pointer (some ⟨rb, 0, none⟩)] 25)).alloc (.cells #[.bool false] 4)).alloc (.cells #[.int .i64 0] 3))) := (((Below.refl _ _).alloc (Nat.le_refl _) _).alloc (by simp) _).alloc (by simp; omega) _
  have X0 : Hid ((((w.alloc (.cells #[.pointer (some ⟨rb, 0, none⟩)] 25)).alloc (.cells #[.bool false] 4)).alloc (.cells #[.int .i64 0] 3)).heap[w.heap.size]? = some (.cells #[.pointer (some ⟨rb, 0, none⟩)] 25)) := heap_old _ (heap_old _ (heap_new _ _))
  have X1 : Hid ((((w.alloc (.cells #[.pointer (some ⟨rb, 0, none⟩)] 25)).alloc (.cells #[.bool false] 4)).alloc (.cells #[.int .i64 0] 3)).heap[w.heap.size + 1]? = some (.cells #[.bool false] 4)) := by
    have := heap_new (w.alloc (.cells #[.pointer (some ⟨rb, 0, none⟩)] 25)) (.cells #[.bool false] 4)
    rw [World.size_alloc] at this
    exact heap_old _ this
  have X2 : Hid ((((w.alloc (.cells #[.pointer (some ⟨rb, 0, none⟩)] 25)).alloc (.cells #[.bool false] 4)).alloc (.cells #[.int .i64 0] 3)).heap[w.heap.size + 2]? = some (.cells #[.int .i64 0] 3)) := by
    have := heap_new ((w.alloc (.cells #[.pointer (some ⟨rb, 0, none⟩)] 25)).alloc (.cells #[.bool false] 4)) (.cells #[.int .i64 0] 3)
    simp only [World.size_alloc] at this
    exact this
  have Z0 : Hid ((((w.alloc (.cells #[.pointer (some ⟨rb, 0, none⟩)] 25)).alloc (.cells #[.bool false] 4)).alloc (.cells #[.int .i64 0] 3)).heap.size = w.heap.size + 3) := by show _ = _; simp
  have CA := hide hc
  have RA := hide hr
  have LT1 : Hid (∀ k, v1.ownBlock = some k → k < w.heap.size) := hr.r1.lt
  have LT2 : Hid (∀ k, v2.ownBlock = some k → k < w.heap.size) := hr.r2.lt
  have LTC : Hid (∀ k, v.ownBlock = some k → k < w.heap.size) := hc.row.lt
  clear hc hr
  refine (callsIn_wide (n := 3)).1 ?_
  refine callsIn_of_wp_marks Try.func17 rfl trivial ?_ rfl
  simp only [Try.ntmps17, List.size_toArray, List.length_cons, List.length_nil, Nat.reduceAdd, Nat.reduceSub, Array.replicate_succ, Array.replicate_zero, List.push_toArray, List.append_toArray, List.nil_append, List.cons_append]
  gi_wp2_with fail
  generalize ((w.alloc (.cells #[.pointer (some ⟨rb, 0, none⟩)] 25)).alloc (.cells #[.bool false] 4)).alloc (.cells #[.int .i64 0] 3) = W0 at *
  have AL := hide (all_any ((unhide CA).later (unhide A0)) hn)
  refine ⟨trivial, (callsIn_wide.2 (unhide AL)).mono ?_⟩
  rintro e w5 ⟨v5, rfl, x5, r5, b5⟩
  clear AL
  rw [unhide Z0] at x5 r5
  rw [unhide Z0]
  have C5 := hide (((unhide CA).later (unhide A0)).later b5)
  have R5 := hide (((unhide RA).later (unhide A0)).later b5)
  have P5 := hide (below_keep b5 (unhide X0))
  have Q5 := hide (below_keep b5 (unhide X1))
  have I5 := hide (below_keep b5 (unhide X2))
  have B5 : Hid (Below w.heap.size w w5) := (unhide A0).trans (b5.mono (unhide A0).size)
  have h35 : w.heap.size + 3 < w5.heap.size := lt_of_heap x5
  clear CA RA A0 X0 X1 X2 b5 Z0
  have I6 : Hid (w5.heap[w.heap.size + 1 + 1]? = some (.cells #[.int .i64 0] 3)) := unhide I5
  have QB : Hid (w5.heap[w.heap.size + 1]? = some (.cells #[.bool false] 4)) := unhide Q5
  clear I5 Q5
  gi_wp2_with fail
  obtain ⟨ib, hib⟩ : ∃ ib, ib = w.heap.size + 1 + 1 := ⟨_, rfl⟩
  obtain ⟨lo, hlo⟩ : ∃ lo, lo = w.heap.size + 3 := ⟨_, rfl⟩
  obtain ⟨qb, hqb⟩ : ∃ qb, qb = w.heap.size + 1 := ⟨_, rfl⟩
  rw [← hib] at I6 ⊢
  rw [← hlo] at x5 r5 ⊢
  rw [← hqb] at QB ⊢
  have hib5 : ib < w5.heap.size := by omega
  have hib1 : w.heap.size < qb := by omega
  have hib2 : qb < ib := by omega
  have hib3 : ib < lo := by omega
  clear hib hlo hqb
  refine wpIn_rangeFunc_ownG rfl (by omega) (gf := 22) (lb := #[.pointer (some ⟨lo, 0, none⟩)]) rfl trivial (enters_of Try.func22 (by kernel_rfl) rfl)
    (alls Fence.wide _ trivial rfl (by omega) lo v5 l w5 x5 r5 hn) Keep.trans (Keep.put (Nat.le_refl _)) (Below.refl _ _) (fun _ => rfl)
    (fun pre W => (W.cell? ⟨ib, 0, none⟩ = some (.int .i64 (pre.length : Int)) ∧ W.frozen? ⟨ib, 0, none⟩ = false ∧ pre <+: l) ∧ Touch (· = ib) w5 W)
    (fun c pre W => (c = .ret ∧ ¬ pre <+: l))
    (OwnFrom.and (Own.from (fun s A B row hs hg hr => ⟨cell_kept hs.1 hg hr, (frozen_kept hs.1 hg hr).trans hs.2.1, hs.2.2⟩) _) (Touch.own (Nat.le_refl _)))
    (fun c s A B row hs hg hr => hs)
    ⟨⟨by rw [cell_of (unhide I6)]; rfl, frozen_of (unhide I6) 0, List.nil_prefix⟩, Touch.refl _ _⟩
    ?a1 ?assign ?body ?done ?stop
  case assign =>
    intro l x W K hK
    gi_wp2
    exact hK
  case body =>
    rintro L pre x W ⟨⟨hc, hf, hp⟩, tW⟩ hlt
    have R6 := (unhide R5).keep tW (by omega) (fun k hk e => by have := unhide LT1 k hk; omega) (fun k hk e => by have := unhide LT2 k hk; omega)
    have k1 := R6.cell1
    have k2 := R6.cell2
    obtain ⟨a1, c1, a2, c2, rfl, rfl, hmax, hcs⟩ := R6.cells
    unfold maxLen at hmax
    have p1 : W.cell? ⟨w.heap.size, 0, none⟩ = some (.pointer (some ⟨rb, 0, none⟩)) := by
      rw [cell_of (tW.keep (unhide P5) (by omega))]; rfl
    obtain ⟨g1, g2, rfl, rfl, hg1, hg2, y1, y2⟩ := hcs pre.length hlt
    have TW := hide tW
    have HP := hide hp
    have hlt' : ¬ (l.length : Int) ≤ (pre.length : Int) := by omega
    have hd1 : decide (l.length ≤ pre.length) = false := decide_eq_false (by omega)
    have hlt2 : (pre.length : Int) < (l.length : Int) := by omega
    have hlt3 : (0 : Int) ≤ (pre.length : Int) := by omega
    have tW' := tW.keep (unhide QB) (by omega)
    clear R6 hcs tW hp LT1 LT2 LTC
    have HK : Hid (∀ n, Keep lo w5.heap.size W (W.drewN n)) := fun n => ⟨Nat.le_refl _, fun _ _ _ => rfl⟩
    obtain ⟨q, hq⟩ : ∃ q, l[pre.length]'hlt = q := ⟨_, rfl⟩
    rw [hq] at y1 y2
    have HQ := hide hq
    clear hq
    obtain ⟨x1, x2⟩ := x
    obtain ⟨E, A⟩ := q
    simp only at y1 y2
    have hb1 : ∀ a b : Int, ¬ a = b → (a != b) = true := fun a b h => by simpa using h
    have qbx := tW'
    clear tW'
    have qc : W.cell? ⟨qb, 0, none⟩ = some (.bool false) := by rw [cell_of qbx]; rfl
    have qf := frozen_of qbx 0
    clear qbx
    by_cases h1 : x1 = E
    · by_cases h2 : x2 = A
      · subst h1 h2
        have hw1 : IntKind.i64.wrap ((pre.length : Int) + 1) = (pre.length : Int) + 1 := wrap_low (by omega) (by omega)
        gi_wp2_with fail
        refine region_quiet (by kernel_rfl) (by kernel_rfl) (by kernel_rfl) ?_
        repeat (gi_big_quiet_step (fail))
        refine wpQuietIn_nil ?_
        intro _ hw'
        obtain ⟨nq, hw''⟩ := hw'
        subst hw''
        gi_wp2
        have ts : Touch (· = ib) W ((W.drewN nq).setCell ⟨ib, 0, none⟩ (.int .i64 ((pre.length : Int) + 1))) := ((Touch.refl (· = ib) W).drewN nq).setCell (p := ⟨ib, 0, none⟩) rfl _
        refine ⟨((keepsDrewN W nq).trans (KeepsOthers.setCell _ _ _)).from _, Keep.touch ts (unhide TW).size (fun k hk => by omega), ⟨?_, ?_, ?_⟩, (unhide TW).trans ts⟩
        · rw [World.cell?_setCell_same' _ _ _ (by rw [show (W.drewN nq).cell? ⟨ib, 0, none⟩ = W.cell? ⟨ib, 0, none⟩ from rfl, hc]; rfl)]
          simp
        · rw [World.frozen?_setCell]; exact hf
        · obtain ⟨s, hs⟩ := unhide HP
          refine ⟨s.drop 1, ?_⟩
          have hq := unhide HQ
          cases s with
          | nil => rw [List.append_nil] at hs; rw [hs] at hlt; omega
          | cons y s =>
            have : l[pre.length]'hlt = y := by simp [← hs]
            rw [this] at hq
            rw [← hs, ← hq]; simp
      · subst h1
        have hb2 := hb1 _ _ h2
        gi_wp2_with fail
        refine region_quiet (by kernel_rfl) (by kernel_rfl) (by kernel_rfl) ?_
        repeat (gi_big_quiet_step (fail))
        refine wpQuietIn_nil ?_
        intro _ hw'
        obtain ⟨nq, hw''⟩ := hw'
        subst hw''
        gi_wp2
        refine ⟨((keepsDrewN W nq).trans (KeepsOthers.setCell _ _ _)).from _, rfl, fun hpp => ?_⟩
        obtain ⟨hk, e⟩ := pre_snoc hpp
        rw [unhide HQ] at e
        injection e with e1 e2
        exact h2 e2.symm
    · have hb2 := hb1 _ _ h1
      gi_wp2_with fail
      refine region_quiet (by kernel_rfl) (by kernel_rfl) (by kernel_rfl) ?_
      repeat (gi_big_quiet_step (fail))
      refine wpQuietIn_nil ?_
      intro _ hw'
      obtain ⟨nq, hw''⟩ := hw'
      subst hw''
      gi_wp2
      refine ⟨((keepsDrewN W nq).trans (KeepsOthers.setCell _ _ _)).from _, rfl, fun hpp => ?_⟩
      obtain ⟨hk, e⟩ := pre_snoc hpp
      rw [unhide HQ] at e
      injection e with e1 e2
      exact h1 e1.symm
  case done =>
    rintro D ys W hD rfl ⟨⟨hc, hf, _⟩, tW⟩ hK
    have hib0 : w.heap.size < ib := by omega
    have C6 := hide ((unhide C5).keep tW (by omega) (fun k hk e => by have := unhide LTC k hk; omega))
    have R6 := hide ((unhide R5).keep tW (by omega) (fun k hk e => by have := unhide LT1 k hk; omega) (fun k hk e => by have := unhide LT2 k hk; omega))
    have P6 := hide (tW.keep (unhide P5) (by omega))
    have Q6 := hide (tW.keep (unhide QB) (by omega))
    have B6 : Hid (Below w.heap.size w W) := below_touch (unhide B5) tW (by omega) (fun k hk => by omega)
    have HK := hide hK
    have hsz := tW.size
    have hlc : ib < W.heap.size := by omega
    have fz : Hid (W.frozen? ⟨ib, 0, none⟩ = false) := hf
    clear tW hK C5 R5 P5 QB B5 LT1 LT2 LTC hf
    have LC := hide (last_any (unhide C6))
    gi_wp2_with fail
    refine ⟨trivial, (callsIn_wide.2 (unhide LC)).mono ?_⟩
    rintro e W6 ⟨rfl, b6⟩
    have hc6 := (b6.cell (p := ⟨ib, 0, none⟩) hlc).trans hc
    have R7 := hide ((unhide R6).later b6)
    have P7 := hide (below_keep b6 (unhide P6))
    have Q7 := hide (below_keep b6 (unhide Q6))
    have B7 := hide ((unhide B6).trans (b6.mono (unhide B6).size))
    have HK7 := hide (below_keep b6 (unhide HK))
    have hlc7 : ib < W6.heap.size := Nat.lt_of_lt_of_le hlc b6.size
    clear b6 hc C6 R6 P6 Q6 B6 HK LC fz
    have LR := hide (rlast_any (unhide R7))
    have p7 : W6.cell? ⟨w.heap.size, 0, none⟩ = some (.pointer (some ⟨rb, 0, none⟩)) := by rw [cell_of (unhide P7)]; rfl
    gi_wp2_with fail
    refine ⟨trivial, (callsIn_wide.2 (unhide LR)).mono ?_⟩
    rintro e W8 ⟨rfl, b8⟩
    have hc8 := (b8.cell (p := ⟨ib, 0, none⟩) hlc7).trans hc6
    have P8 := below_keep b8 (unhide P7)
    have Q8 := below_keep b8 (unhide Q7)
    have R8 := (unhide R7).later b8
    have B8 := hide ((unhide B7).trans (b8.mono (unhide B7).size))
    have HK8 := hide (below_keep b8 (unhide HK7))
    have p8 : W8.cell? ⟨w.heap.size, 0, none⟩ = some (.pointer (some ⟨rb, 0, none⟩)) := by rw [cell_of P8]; rfl
    have q8 : W8.cell? ⟨qb, 0, none⟩ = some (.bool false) := by rw [cell_of Q8]; rfl
    have f8 : W8.frozen? ⟨qb, 0, none⟩ = false := frozen_of Q8 0
    have QX := hide Q8
    have k8 := R8.cell1
    obtain ⟨a1, c1, a2, c2, hv1, hv2, hmax, _⟩ := R8.cells
    rw [hv1] at k8
    have hwq : w.heap.size ≤ qb := by omega
    clear b8 P8 Q8 R8 R7 P7 Q7 B7 HK7 LR hc6 p7 hv1 hv2
    generalize lastE ys = LE at *
    obtain ⟨L1, L2, L3⟩ := LE
    gi_wp2_with fail
    gi_region
    gi_wp2
    have hK9 : (W8.setCell ⟨qb, 0, none⟩ (.bool true)).drew.heap[D]? = some (.deferred (some [])) := (KeepsOthers.setCell W8 ⟨qb, 0, none⟩ (.bool true)).same D _ (unhide HK8) rfl
    refine ⟨by simp, .inl ⟨_, _, rfl, run_takeDeferred hK9, ?_⟩⟩
    have hc9 : (W8.setCell ⟨qb, 0, none⟩ (.bool true)).drew.cell? ⟨qb, 0, none⟩ = some (.bool true) := World.cell?_setCell_same' W8 ⟨qb, 0, none⟩ (.bool true) (by rw [q8]; rfl)
    have hcA := cell_kept hc9 (grownBy_putObj' _ D (.deferred none)) (fun r e => by cases e; exact ⟨_, hK9, rfl⟩)
    have hB9 : Below w.heap.size w (W8.setCell ⟨qb, 0, none⟩ (.bool true)).drew := ((unhide B8).setCell (p := ⟨qb, 0, none⟩) hwq _).drew
    refine ⟨.bool true, ?_, rfl, hB9.trans (belowK_b (w := w) (Nat.le_refl _) _ D _ _ (by omega) hK9 rfl rfl)⟩
    simp [results, Try.f17, go_sem, hcA]
  case stop =>
    rintro D c pre W _ hs ⟨_, h⟩ _
    exact absurd hs h
end Go.Proofs.Ytfpcocagifmpbaa
