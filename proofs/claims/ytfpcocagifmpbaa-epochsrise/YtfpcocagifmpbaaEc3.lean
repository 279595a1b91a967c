/-
  epochs' Cache: Assign. Conditions: the cache is one; its epochs rise; at most 8 * 10^12 epochs.
-/
import Derived.Test.YtfpcocagifmpbaaEc2
namespace Go.Proofs.Ytfpcocagifmpbaa
open Go.RowKit
set_option linter.unusedVariables false

theorem CaAt.grow {B : Nat} {w w' : World} {cb : Nat} {v v' : Value} {l : List Pr} {p : Pr} {S : Nat → Prop} (h : CaAt B w cb v l) (o : Wide w' 52 2 v' (l.length + 1) (l.flatMap prC ++ prC p)) (t : Touch (fun k => v.ownBlock = some k) w w') (m : Moved w v v') (hB : B ≤ w.heap.size) :
    CaAt B (w'.setCell ⟨cb, 0, none⟩ v') cb v' (l ++ [p]) ∧ Touch (CaOw cb v) w (w'.setCell ⟨cb, 0, none⟩ v') := by
  have ts := touch_set w' cb 0 v'
  have hne := h.ne
  have hlt := h.lt
  refine ⟨⟨?_, ?_, h.lo, fun k hk => ?_⟩, (t.mono (fun k hk => .inr hk)).trans (ts.mono (fun k hk => .inl hk))⟩
  · have := heap_set (t.keep h.box hne) 0 v'
    exact this
  · rw [List.length_append, List.length_singleton, List.flatMap_append, List.flatMap_cons, List.flatMap_nil, List.append_nil]
    refine Wide.keep o ts (fun k hk e => ?_)
    rcases m k hk with e2 | e2
    · exact hne (e ▸ e2)
    · omega
  · rcases m k hk with e2 | e2
    · exact h.new k e2
    · omega
theorem chPost_same {B : Nat} {w w' : World} {cb : Nat} {v : Value} {r : Value} {l : List Pr} (h : CaAt B w cb v l) (hb : Below w.heap.size w w') : ChPost B w cb v r l (.returned r) w' := ⟨rfl, v, h.later hb, Touch.of_below hb, Moved.refl _ _⟩

theorem asg_neg {ep a : Int} {l : List Pr} (h : ep < 0 ∨ a < 0) : asgE ep a l = (1, l) := by unfold asgE; rw [if_pos h]
theorem asg_low {ep a : Int} {l : List Pr} (h1 : ¬ ep < 0) (h2 : ¬ a < 0) {L1 L2 : Int} (hL : lastE l = (L1, L2, true)) (h : ep < L1) : asgE ep a l = (5, l) := by
  unfold asgE; rw [if_neg (by omega), hL]; simp only [if_pos h]
theorem asg_same {a : Int} {l : List Pr} {L1 L2 : Int} (h1 : ¬ L1 < 0) (h2 : ¬ a < 0) (hL : lastE l = (L1, L2, true)) : asgE L1 a l = (0, l) := by
  unfold asgE; rw [if_neg (by omega), hL]; simp
theorem asg_go {ep a : Int} {l : List Pr} (h1 : ¬ ep < 0) (h2 : ¬ a < 0) {L1 L2 : Int} {L3 : Bool} (hL : lastE l = (L1, L2, L3)) (h : L3 = true → L1 < ep) : asgE ep a l = (0, cutE a l ++ [(ep, a)]) := by
  unfold asgE; rw [if_neg (by omega), hL]
  cases L3 with
  | false =>
    have : l = [] := by
      cases hl : l.getLast? with
      | none => exact List.getLast?_eq_none_iff.1 hl
      | some p => unfold lastE at hL; rw [hl] at hL; simp at hL
    subst this; rfl
  | true =>
    have := h rfl
    simp only [if_neg (show ¬ ep < L1 by omega), if_neg (show ¬ ep = L1 by omega)]

section
variable {B : Nat} {w : World} {cb : Nat} {v : Value} {l : List Pr}
set_option maxRecDepth 100000 in
set_option maxHeartbeats 1000000 in
theorem assign_go (h : CaAt B w cb v l) (hr : Ris l) (hn : l.length ≤ 8000000000000) (hB : B ≤ w.heap.size) (ep a : Int) (h1 : ¬ ep < 0) (h2 : ¬ a < 0) (L1 L2 : Int) (L3 : Bool) (hL : lastE l = (L1, L2, L3)) (hgo : L3 = true → L1 < ep) :
    Calls Try.prog 11 #[.pointer (some ⟨cb, 0, none⟩), .int .i64 ep, .int .i64 a] w fun e w' => ChPost B w cb v (.int .i64 0) (cutE a l ++ [(ep, a)]) e w' := by
  have HH := hide h
  have HR := hide hr
  have LA := hide (last_any h)
  rw [hL] at LA
  clear h hr hL
  have CL : Hid ((cutE a l).length ≤ 8000000000000) := Nat.le_trans (List.length_filter_le _ _) hn
  have CU : Hid (∀ w1, Below w.heap.size w w1 → Calls Try.prog 13 #[.pointer (some ⟨cb, 0, none⟩), .int .i64 a] w1 fun e w' => ChPost B w1 cb v (.tuple #[]) (cutE a l) e w') := fun w1 b1 => cut_any ((unhide HH).later b1) (unhide HR) a
  have WB : Hid (v.ownBlock ≠ some cb ∧ cb < w.heap.size) := ⟨(unhide HH).ne, (unhide HH).lt⟩
  clear HH HR hn
  generalize cutE a l = l2 at *
  have FIN : Hid (∀ w1 w2 w3 v2 v3, Below w.heap.size w w1 → CaAt B w2 cb v2 l2 → Touch (CaOw cb v) w1 w2 → Moved w1 v v2 → Wide w3 52 2 v3 (l2.length + 1) (l2.flatMap prC ++ prC (ep, a)) → Touch (fun k => v2.ownBlock = some k) (w2.alloc (.cells #[.int .i64 ep, .int .i64 a] 52)) w3 → Moved (w2.alloc (.cells #[.int .i64 ep, .int .i64 a] 52)) v2 v3 → ChPost B w cb v (.int .i64 0) (l2 ++ [(ep, a)]) (.returned (.int .i64 0)) (w3.setCell ⟨cb, 0, none⟩ v3) ∧ w3.frozen? ⟨cb, 0, none⟩ = false ∧ w3.cell? ⟨cb, 0, none⟩ = some v2) := by
    intro w1 w2 w3 v2 v3 b1 c2 t2 m2 o3 t3 m3
    have hA : Below w2.heap.size w2 (w2.alloc (.cells #[.int .i64 ep, .int .i64 a] 52)) := (Below.refl _ _).alloc (Nat.le_refl _) _
    have c2' := c2.later hA
    have g := c2'.grow (S := fun _ => False) o3 t3 m3 (Nat.le_trans (Nat.le_trans hB b1.size) (Nat.le_trans t2.size hA.size))
    have c3 := t3.keep c2'.box c2'.ne
    refine ⟨⟨rfl, v3, g.1, ?_, fun k hk => ?_⟩, frozen_of c3 0, by rw [cell_of c3]; rfl⟩
    · refine touch_new ((Touch.of_below (S := CaOw cb v) b1).trans t2) ((Touch.of_below (S := CaOw cb v2) hA).trans g.2) (fun k hk => ?_)
      rcases hk with e | e
      · exact .inl (.inl e)
      · rcases m2 k e with e2 | e2
        · exact .inl (.inr e2)
        · exact .inr (Nat.le_trans b1.size e2)
    · rcases m3 k hk with e | e
      · rcases m2 k e with e2 | e2
        · exact .inl e2
        · exact .inr (Nat.le_trans b1.size e2)
      · have := b1.size; have := t2.size; simp at e; exact .inr (by omega)
  go_enter Try.func11, Try.ntmps11
  go_wp2_with fail
  refine (unhide LA).mono ?_
  rintro e w1 ⟨rfl, b1⟩
  have CU1 := hide (unhide CU w1 b1)
  have B1 := hide b1
  clear b1 LA CU
  have hg1 : L3 = true → ¬ ep < L1 := fun e => by have := hgo e; omega
  have hg2 : L3 = true → ¬ ep = L1 := fun e => by have := hgo e; omega
  clear hgo
  have hl2 := unhide CL
  clear CL
  obtain ⟨i, z, hi, hz, hsz, hby, hzs⟩ := begin_info
  have HI := hide hi
  have HZ := hide hz
  clear hi hz
  cases L3
  all_goals
    try have hg3 := hg1 rfl
    try have hg4 := hg2 rfl
    clear hg1 hg2
    go_wp2_with fail
    refine (unhide CU1).mono ?_
    rintro e w2 ⟨rfl, v2, h2', t2, m2⟩
    have T2 := hide t2
    have M2 := hide m2
    have H2 := hide h2'
    have c2 := h2'.cell
    have O2 : Hid (Wide (w2.alloc (.cells #[.int .i64 ep, .int .i64 a] 52)) 52 2 v2 l2.length (l2.flatMap prC)) := h2'.row.later ((Below.refl _ _).alloc (Nat.le_refl _) _)
    obtain ⟨a2, cp2, hv2⟩ := h2'.row.shape
    clear h2' t2 m2 CU1
    subst hv2
    go_wp2_with (at_builtin; refine wpList_wide _ rfl (.tmp 43) (.tmp 47) 48 rfl 52 i z 2 16 Try.underlying48 (unhide HI) (unhide HZ) hsz hby hzs (by omega) (.slice a2 l2.length cp2) l2.length (l2.flatMap prC) rfl (unhide O2) w2.heap.size 0 1 (prC (ep, a)) rfl rfl (fun j u hj => by rw [cell_of (heap_new _ _), Nat.zero_add, ← Array.getElem?_toList]; exact hj) (by intro u hu; simp at hu; rcases hu with rfl | rfl <;> rfl) (by unfold maxLen; omega) (by omega) ?_)
    intro v3 w3 o3 t3 m3
    obtain ⟨a3, cp3, rfl⟩ := o3.shape
    obtain ⟨F0, z3, c3⟩ := unhide FIN w1 w2 w3 _ _ (unhide B1) (unhide H2) (unhide T2) (unhide M2) o3 t3 m3
    have F := hide F0
    clear F0 o3 t3 m3 FIN H2 T2 M2 O2
    go_wp2
    go_returns
    exact unhide F
set_option maxRecDepth 100000 in
set_option maxHeartbeats 1000000 in
theorem assign_any (h : CaAt B w cb v l) (hr : Ris l) (hn : l.length ≤ 8000000000000) (hB : B ≤ w.heap.size) (ep a : Int) :
    Calls Try.prog 11 #[.pointer (some ⟨cb, 0, none⟩), .int .i64 ep, .int .i64 a] w fun e w' => ChPost B w cb v (.int .i64 (asgE ep a l).1) (asgE ep a l).2 e w' := by
  by_cases hneg : ep < 0 ∨ a < 0
  · rw [asg_neg hneg]
    have F : Hid (ChPost B w cb v (.int .i64 1) l (.returned (.int .i64 1)) w) := chPost_same h (Below.refl _ _)
    clear h hr
    by_cases h1 : ep < 0
    · clear hneg
      go_enter Try.func11, Try.ntmps11
      go_wp2
      go_returns
      exact unhide F
    · have h2 : a < 0 := by omega
      clear hneg
      go_enter Try.func11, Try.ntmps11
      go_wp2
      go_returns
      exact unhide F
  · have h1 : ¬ ep < 0 := by omega
    have h2 : ¬ a < 0 := by omega
    obtain ⟨L1, L2, L3, hL⟩ : ∃ L1 L2 L3, lastE l = (L1, L2, L3) := ⟨_, _, _, rfl⟩
    by_cases hs : L3 = true ∧ ep ≤ L1
    · obtain ⟨rfl, hle⟩ := hs
      have LA := hide (last_any h)
      rw [hL] at LA
      have HH := hide h
      have HHA : ∀ w1, Below w.heap.size w w1 → ∀ r, ChPost B w cb v r l (.returned r) w1 := fun w1 b1 r => chPost_same (unhide HH) b1
      have HA := hide HHA
      clear HHA HH
      by_cases hlt : ep < L1
      · rw [asg_low h1 h2 hL hlt]
        clear h hr hneg hL
        go_enter Try.func11, Try.ntmps11
        go_wp2_with fail
        refine (unhide LA).mono ?_
        rintro e w1 ⟨rfl, b1⟩
        have F := hide (unhide HA w1 b1 (.int .i64 5))
        clear b1 LA HA
        go_wp2
        go_returns
        exact unhide F
      · obtain rfl : ep = L1 := by omega
        rw [asg_same h1 h2 hL]
        clear h hr hneg hL hle
        go_enter Try.func11, Try.ntmps11
        go_wp2_with fail
        refine (unhide LA).mono ?_
        rintro e w1 ⟨rfl, b1⟩
        have F := hide (unhide HA w1 b1 (.int .i64 0))
        clear b1 LA HA
        go_wp2
        go_returns
        exact unhide F
    · have hgo : L3 = true → L1 < ep := fun e => by
        by_cases h' : ep ≤ L1
        · exact absurd ⟨e, h'⟩ hs
        · omega
      rw [asg_go h1 h2 hL hgo]
      exact assign_go h hr hn hB ep a h1 h2 L1 L2 L3 hL hgo
end
end Go.Proofs.Ytfpcocagifmpbaa
