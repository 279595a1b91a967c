/-
  net's Cut and Heal. Conditions: the net is one; numbers within 64 bits; fewer cuts than 2^63.
-/
import Derived.Test.YtgpfkedihgoohaaNt9
import Derived.WalkSpells
import Derived.Carry
namespace Go.Proofs.Ytgpfkedihgoohaa
open Go.RowKit
set_option linter.unusedVariables false

def cutE (D : Cts) (a b : Int) : Cts := if a = b then D else D ++ [(a, b)]
def CutPost (w : World) (nb : Nat) (R : Nat → Prop) (qs : List Pa) (D : Cts) (e : Ending) (w' : World) : Prop := e = .returned (.tuple #[]) ∧ NPost w nb R qs D w'
theorem cut_nil (a b : Int) (w : World) : Calls Try.prog 21 #[.pointer none, .int .i64 a, .int .i64 b] w fun e w' => e = .returned (.tuple #[]) ∧ w' = w := by
  go_enter Try.func21, Try.ntmps21
  go_wp2
  go_returns
  exact ⟨rfl, rfl⟩
theorem heal_nil (w : World) : Calls Try.prog 23 #[.pointer none] w fun e w' => e = .returned (.tuple #[]) ∧ w' = w := by
  go_enter Try.func23, Try.ntmps23
  go_wp2
  go_returns
  exact ⟨rfl, rfl⟩
/-- Where the cuts alone turn. -/
theorem cut_post {w w' : World} {nb m : Nat} {v : Value} {cm : Option Nat} {ps : List Pk} {D D' : Cts} {R : Nat → Prop} (h : NetAt w nb v cm ps D) (hR : ∀ k, NB nb v cm ps k → R k) (hb : w'.heap[nb]? = some (.cells #[v, .map (some m)] 56)) (hc : CM w' m D') (t : Touch (fun k => k = nb ∨ cm = some k) w w') (hm : cm = some m ∨ w.heap.size ≤ m) : NPost w nb R (ps.map Pk.abs) D' w' := by
  obtain ⟨a1, a2, a3⟩ := h.apart
  refine NPost.of (ps' := ps) hR ⟨hb, h.list.keep t (fun k hk hS => ?_), hc⟩ rfl (t.mono (fun k hk => hk.elim (fun e => .inl e) (fun e => .inr (.inl e)))) (fun k hk => ?_)
  · rcases hS with rfl | hS
    · rcases hk with hk | ⟨p, hp, hk⟩
      · exact a2 hk
      · exact a1 p hp hk
    · obtain ⟨b1, b2, b3⟩ := a3 k hS
      rcases hk with hk | ⟨p, hp, hk⟩
      · exact b2 hk
      · exact b3 p hp hk
  · rcases hk with rfl | hk | hk
    · exact .inl (.inl rfl)
    · cases hk
      rcases hm with hm | hm
      · exact .inl (.inr (.inl hm))
      · exact .inr hm
    · exact .inl (.inr (.inr hk))
set_option maxRecDepth 100000 in
set_option maxHeartbeats 1000000 in
theorem heal_any {w : World} {nb : Nat} {R : Nat → Prop} {qs : List Pa} {D : Cts} (h : NS w nb R qs D) : Calls Try.prog 23 #[.pointer (some ⟨nb, 0, none⟩)] w fun e w' => CutPost w nb R qs [] e w' := by
  have HN := hide h
  obtain ⟨v, cm, ps, h1, rfl, h3⟩ := h.ex
  have c1 : w.cell? ⟨nb, 1, none⟩ = some (.map cm) := by rw [cell_of h1.box]; rfl
  cases cm with
  | none =>
    have hD : D = [] := h1.cuts
    have F : Hid (CutPost w nb R (ps.map Pk.abs) [] (.returned (.tuple #[])) w) := ⟨rfl, by rw [← hD]; exact (unhide HN).post (Below.refl _ _)⟩
    clear HN h h1 h3 hD
    have hcl : ∀ ty, (Builtin.clear_ #[54] ty #[.map none]).run Try.prog w = .ok (.tuple #[]) w := fun ty => by simp [Builtin.clear_, run_underlying (P := Try.prog) Try.underlying54]
    go_enter Try.func23, Try.ntmps23
    go_wp2
    go_returns
    exact unhide F
  | some m =>
    obtain ⟨w', hrun, hc, t⟩ := CM.clear h1.cuts
    obtain ⟨_, _, a3⟩ := h1.apart
    have F : Hid (CutPost w nb R (ps.map Pk.abs) [] (.returned (.tuple #[])) w') := ⟨rfl, cut_post h1 h3 (t.keep h1.box (Ne.symm (a3 m rfl).1)) hc (t.mono (fun k hk => .inr (by rw [hk]))) (.inl rfl)⟩
    clear HN h h1 h3 hc t a3
    go_enter Try.func23, Try.ntmps23
    go_wp2
    go_returns
    exact unhide F
set_option maxRecDepth 100000 in
set_option maxHeartbeats 1000000 in
theorem cut_any {w : World} {nb : Nat} {R : Nat → Prop} {qs : List Pa} {D : Cts} (h : NS w nb R qs D) {a b : Int} (ha : InR a) (hb : InR b) (hD : D.length < maxLen) : Calls Try.prog 21 #[.pointer (some ⟨nb, 0, none⟩), .int .i64 a, .int .i64 b] w fun e w' => CutPost w nb R qs (cutE D a b) e w' := by
  by_cases hab : a = b
  · subst hab
    have F : Hid (CutPost w nb R qs (cutE D a a) (.returned (.tuple #[])) w) := ⟨rfl, by unfold cutE; rw [if_pos rfl]; exact h.post (Below.refl _ _)⟩
    clear h
    go_enter Try.func21, Try.ntmps21
    go_wp2
    go_returns
    exact unhide F
  · have hE : cutE D a b = D ++ [(a, b)] := if_neg hab
    rw [hE]
    clear hE
    obtain ⟨x, hx⟩ : ∃ x, x = min a b := ⟨_, rfl⟩
    obtain ⟨y, hy⟩ : ∃ y, y = max a b := ⟨_, rfl⟩
    have K : Hid (∀ X, Calls Try.prog 37 #[.int .i64 a, .int .i64 b] X fun e w' => e = .returned (pairV x y) ∧ w' = X.alloc (.cells #[.int .i64 x, .int .i64 y] 65)) := fun X => pairOf_any hx hy X
    obtain ⟨v, cm, ps, h1, rfl, h3⟩ := h.ex
    have hnb := lt_of_heap h1.box
    have c1 : w.cell? ⟨nb, 1, none⟩ = some (.map cm) := by rw [cell_of h1.box]; rfl
    have f1 : w.frozen? ⟨nb, 1, none⟩ = false := frozen_of h1.box 1
    cases cm with
    | none =>
      have hD0 : D = [] := h1.cuts
      subst hD0
      have gb : ((w.setCell ⟨nb, 1, none⟩ (.map (some w.heap.size))).alloc (.map #[] 0)).heap[nb]? = some (.cells #[v, .map (some w.heap.size)] 56) := by
        have := heap_old (.map #[] 0) (heap_set h1.box 1 (.map (some w.heap.size)))
        simpa using this
      have hcm : CM ((w.setCell ⟨nb, 1, none⟩ (.map (some w.heap.size))).alloc (.map #[] 0)) w.heap.size [] := by
        have := CM.made (w.setCell ⟨nb, 1, none⟩ (.map (some w.heap.size)))
        have e : (w.setCell ⟨nb, 1, none⟩ (.map (some w.heap.size))).heap.size = w.heap.size := by simp [World.setCell]
        rw [e] at this
        exact this
      have hA : Below ((w.setCell ⟨nb, 1, none⟩ (.map (some w.heap.size))).alloc (.map #[] 0)).heap.size ((w.setCell ⟨nb, 1, none⟩ (.map (some w.heap.size))).alloc (.map #[] 0)) (((w.setCell ⟨nb, 1, none⟩ (.map (some w.heap.size))).alloc (.map #[] 0)).alloc (.cells #[.int .i64 x, .int .i64 y] 65)).drew := ((Below.refl _ _).alloc (Nat.le_refl _) _).drew
      have hcm2 := hcm.keep (Touch.of_below (S := fun _ => False) hA) (fun h => h)
      obtain ⟨w3, hst, hc3, t3⟩ := hcm2.store hD ha hb
      rw [← hx, ← hy] at hst
      have F : Hid (CutPost w nb R (ps.map Pk.abs) ([] ++ [(a, b)]) (.returned (.tuple #[])) w3) := by
        refine ⟨rfl, cut_post h1 h3 (t3.keep (below_keep hA gb) (show ¬ nb = w.heap.size by omega)) hc3 ?_ (.inr (Nat.le_refl _))⟩
        have T1 : Touch (fun k => k = nb ∨ (none : Option Nat) = some k) w (((w.setCell ⟨nb, 1, none⟩ (.map (some w.heap.size))).alloc (.map #[] 0)).alloc (.cells #[.int .i64 x, .int .i64 y] 65)).drew := (((((Touch.refl _ w).setCell (p := ⟨nb, 1, none⟩) (.inl rfl) _).alloc _).alloc _)).drew
        refine ⟨t3.os.trans T1.os, t3.tape.trans T1.tape, t3.output.trans T1.output, Nat.le_trans T1.size t3.size, fun j hj hs => (t3.block j (Nat.lt_of_lt_of_le hj T1.size) (show ¬ j = w.heap.size by omega)).trans (T1.block j hj hs)⟩
      have k1 : ((w.setCell ⟨nb, 1, none⟩ (.map (some w.heap.size))).alloc (.map #[] 0)).cell? ⟨nb, 1, none⟩ = some (.map (some w.heap.size)) := by rw [cell_of gb]; rfl
      have k2 := (hA.cell (p := ⟨nb, 1, none⟩) (lt_of_heap gb)).trans k1
      clear h h1 h3 hx hy hD gb hcm hcm2 hA hc3 t3
      have heq := fun (w : World) => run_eql_map_nil (P := Try.prog) w 54 65 64 none Try.underlying54
      have hmm := @run_makeMap Try.prog
      go_enter Try.func21, Try.ntmps21
      go_wp2_with fail
      generalize (w.setCell ⟨nb, 1, none⟩ (.map (some w.heap.size))).alloc (.map #[] 0) = W at *
      go_region_with (go_at_call 37; refine (unhide K _).mono ?_; rintro e w2 ⟨rfl, rfl⟩)
      all_goals
        clear K
        go_wp2
        go_returns
        exact unhide F
    | some m =>
      have hA : Below w.heap.size w (w.alloc (.cells #[.int .i64 x, .int .i64 y] 65)).drew := ((Below.refl _ _).alloc (Nat.le_refl _) _).drew
      obtain ⟨_, _, a3⟩ := h1.apart
      have hcm2 := CM.keep h1.cuts (Touch.of_below (S := fun _ => False) hA) (fun h => h)
      obtain ⟨w3, hst, hc3, t3⟩ := hcm2.store hD ha hb
      rw [← hx, ← hy] at hst
      have F : Hid (CutPost w nb R (ps.map Pk.abs) (D ++ [(a, b)]) (.returned (.tuple #[])) w3) := by
        refine ⟨rfl, cut_post h1 h3 (t3.keep (below_keep hA h1.box) (Ne.symm (a3 m rfl).1)) hc3 ((Touch.of_below hA).trans (t3.mono (fun k hk => .inr (by rw [hk])))) (.inl rfl)⟩
      have k2 := (hA.cell (p := ⟨nb, 1, none⟩) hnb).trans c1
      clear h h1 h3 hx hy hD hcm2 hA hc3 t3 a3
      have heq := fun (w : World) => run_eql_map_nil (P := Try.prog) w 54 65 64 (some m) Try.underlying54
      go_enter Try.func21, Try.ntmps21
      go_wp2_with fail
      go_region_with (go_at_call 37; refine (unhide K _).mono ?_; rintro e w2 ⟨rfl, rfl⟩)
      all_goals
        clear K
        go_wp2
        go_returns
        exact unhide F
end Go.Proofs.Ytgpfkedihgoohaa
