/-
  The document's net: Cut, and all healed; both nets side by side. Conditions: both are nets; fewer cuts than 2^40.
-/
import Derived.Test.YtgpfkedihgoohaaRc11
namespace Go.Proofs.Ytgpfkedihgoohaa
open Go.RowKit
set_option linter.unusedVariables false

theorem two_info : ∃ i z, Try.prog.info? 46 = some i ∧ i.zero = some z ∧ i.size = 2 ∧ i.bytes = 16 ∧ z.cells.size = 2 := by
  have h : (Try.prog.info? 46).map (fun i => (i.zero.map (fun z => z.cells.size), i.size, i.bytes)) = some (some 2, 2, 16) := by kernel_rfl
  cases hi : Try.prog.info? 46 with
  | none => rw [hi] at h; cases h
  | some i =>
    rw [hi] at h
    simp only [Option.map_some, Option.some.injEq, Prod.mk.injEq] at h
    obtain ⟨h1, h2, h3⟩ := h
    cases hz : i.zero with
    | none => rw [hz] at h1; cases h1
    | some z => rw [hz] at h1; exact ⟨i, z, rfl, hz, h2, h3, by simpa using h1⟩
/-- Where the cuts alone turn. -/
theorem rcuts_post {w w' : World} {rb : Nat} {v cv cv' : Value} {ps : List Pk} {D D' : Cts} {R : Nat → Prop} (h : RefAt w rb v cv ps D) (hR : ∀ k, RB rb v cv ps k → R k) (hb : w'.heap[rb]? = some (.cells #[v, cv'] 29)) (hc : Wide w' 46 2 cv' D'.length (D'.flatMap prC)) (hi : ∀ x ∈ D', InR x.1 ∧ InR x.2) (t : Touch (fun k => k = rb ∨ cv.ownBlock = some k) w w') (hm : Moved w cv cv') : RPost w rb R NoX (ps.map Pk.abs) D' w' := by
  obtain ⟨a1, a2, a3, a4⟩ := h.apart
  refine RPost.of (ps' := ps) hR ⟨hb, h.list.keep t (fun k hk hS => ?_), hc, hi⟩ rfl (t.mono (fun k hk => hk.elim (fun e => .inl e) (fun e => .inr (.inl e)))) (fun k hk => ?_)
  · rcases hS with rfl | hS
    · rcases hk with hk | ⟨p, hp, hk⟩
      · exact a2 hk
      · exact a1 p hp hk
    · obtain ⟨b2, b3⟩ := a4 k hS
      rcases hk with hk | ⟨p, hp, hk⟩
      · exact b2 hk
      · exact b3 p hp hk
  · rcases hk with rfl | hk | hk
    · exact .inl (.inl rfl)
    · rcases hm k hk with e | e
      · exact .inl (.inr (.inl e))
      · exact .inr (.inr e)
    · exact .inl (.inr (.inr hk))
theorem rheal_post {w : World} {rb : Nat} {R : Nat → Prop} {qs : List Pa} {D : Cts} (h : RS w rb R qs D) : w.cell? ⟨rb, 1, none⟩ ≠ none ∧ w.frozen? ⟨rb, 1, none⟩ = false ∧ RPost w rb R NoX qs [] (w.setCell ⟨rb, 1, none⟩ (.slice none 0 0)) := by
  obtain ⟨v, cv, ps, h1, rfl, h3⟩ := h.ex
  have ts := touch_set w rb 1 (.slice none 0 0)
  refine ⟨by rw [cell_of h1.box]; simp, frozen_of h1.box 1, rcuts_post h1 h3 ?_ (Wide.nil _ _ _) (fun x hx => by cases hx) (ts.mono (fun k hk => .inl hk)) (fun k hk => by simp [Value.ownBlock] at hk)⟩
  have := heap_set h1.box 1 (.slice none 0 0)
  simpa using this
def RCutPost (w : World) (rb : Nat) (R : Nat → Prop) (qs : List Pa) (D : Cts) (e : Ending) (w' : World) : Prop := e = .returned (.tuple #[]) ∧ RPost w rb R NoX qs D w'
set_option maxRecDepth 100000 in
set_option maxHeartbeats 1000000 in
theorem rCut_any {w : World} {rb : Nat} {R : Nat → Prop} {qs : List Pa} {D : Cts} (h : RS w rb R qs D) {a b : Int} (ha : InR a) (hb : InR b) (hD : D.length ≤ 8000000000000) : Calls Try.prog 22 #[.pointer (some ⟨rb, 0, none⟩), .int .i64 a, .int .i64 b] w fun e w' => RCutPost w rb R qs (cutE D a b) e w' := by
  by_cases hab : a = b
  · subst hab
    have F : Hid (RCutPost w rb R qs (cutE D a a) (.returned (.tuple #[])) w) := ⟨rfl, by unfold cutE; rw [if_pos rfl]; exact h.post (Below.refl _ _)⟩
    clear h
    go_enter Try.func22, Try.ntmps22
    go_wp2
    go_returns
    exact unhide F
  · have hE : cutE D a b = D ++ [(a, b)] := if_neg hab
    rw [hE]
    clear hE
    have hab2 : (a != b) = true := by simpa using hab
    obtain ⟨v, cv, ps, h1, rfl, h3⟩ := h.ex
    obtain ⟨ac, cc, hcv, _⟩ := h1.cuts.parts
    have hrb := lt_of_heap h1.box
    have c1 : w.cell? ⟨rb, 1, none⟩ = some (.slice ac D.length cc) := by rw [cell_of h1.box, ← hcv]; rfl
    have hA : Below w.heap.size w (w.alloc (.cells #[.int .i64 a, .int .i64 b] 46)) := (Below.refl _ _).alloc (Nat.le_refl _) _
    have ROW := hide (h1.cuts.later hA)
    obtain ⟨i, z, hi, hz, hsz, hby, hzs⟩ := two_info
    have SRC : Hid (∀ j u, ([.int .i64 a, .int .i64 b] : List Value)[j]? = some u → (w.alloc (.cells #[.int .i64 a, .int .i64 b] 46)).cell? ⟨w.heap.size, 0 + j, none⟩ = some u) := fun j u hj => by
      rw [cell_of (heap_new _ _), Nat.zero_add, ← Array.getElem?_toList]; exact hj
    have FX : Hid (∀ v1 w1, Wide w1 46 2 v1 (D.length + 1) (D.flatMap prC ++ [.int .i64 a, .int .i64 b]) → Touch (fun k => cv.ownBlock = some k) (w.alloc (.cells #[.int .i64 a, .int .i64 b] 46)) w1 → Moved (w.alloc (.cells #[.int .i64 a, .int .i64 b] 46)) cv v1 →
        w1.cell? ⟨rb, 1, none⟩ = some (.slice ac D.length cc) ∧ w1.frozen? ⟨rb, 1, none⟩ = false ∧ Hid (RCutPost w rb R (ps.map Pk.abs) (D ++ [(a, b)]) (.returned (.tuple #[])) (w1.setCell ⟨rb, 1, none⟩ v1))) := fun v1 w1 r1 t1 m1 => by
      have hne : cv.ownBlock ≠ some rb := h1.apart.2.2.1
      have gb := t1.keep (below_keep hA h1.box) hne
      have ts := touch_set w1 rb 1 v1
      refine ⟨by rw [cell_of gb, ← hcv]; rfl, frozen_of gb 1, rfl, rcuts_post (cv' := v1) h1 h3 ?_ ?_ ?_ ?_ (fun k hk => ?_)⟩
      · have := heap_set gb 1 v1
        simpa using this
      · rw [List.length_append, List.length_singleton, List.flatMap_append]
        refine Wide.keep r1 ts (fun k hk e => ?_)
        rcases m1 k hk with e2 | e2
        · exact hne (by rw [← e]; exact e2)
        · have := hA.size; omega
      · intro x hx
        rcases List.mem_append.1 hx with e | e
        · exact h1.cin x e
        · obtain rfl := List.mem_singleton.1 e
          exact ⟨ha, hb⟩
      · exact ((Touch.of_below (S := fun k => k = rb ∨ cv.ownBlock = some k) hA).trans (t1.mono (fun k hk => .inr hk))).trans (ts.mono (fun k hk => .inl hk))
      · rcases m1 k hk with e | e
        · exact .inl e
        · have := hA.size; exact .inr (by omega)
    subst hcv
    have k1 := (hA.cell (p := ⟨rb, 1, none⟩) hrb).trans c1
    have hmx : D.length + 1 ≤ maxLen := by unfold maxLen; omega
    have hbt : (D.length + 1) * 16 ≤ 140737488355328 := by omega
    have hone : ∀ u ∈ ([.int .i64 a, .int .i64 b] : List Value), u.oneCell' = true := by intro u hu; simp at hu; rcases hu with rfl | rfl <;> rfl
    clear h h1 h3 hA
    go_enter Try.func22, Try.ntmps22
    go_wp2_with (at_builtin; refine wpList_wide _ rfl (.tmp 13) (.tmp 17) 27 rfl 46 i z 2 16 Try.underlying27 hi hz hsz hby hzs (by omega) (.slice ac D.length cc) D.length _ rfl (unhide ROW) _ 0 1 [.int .i64 a, .int .i64 b] rfl rfl (unhide SRC) hone hmx hbt ?_; intro v1 w1 r1 t1 m1; obtain ⟨x1, x2, FF⟩ := unhide FX v1 w1 r1 t1 m1; obtain ⟨a2, c2, rfl⟩ := r1.shape; clear r1 t1 m1)
    go_returns
    exact unhide FF

/-- Both nets, with the same packets and cuts; nothing old has turned. -/
structure TwN (w W : World) (nb rb : Nat) (R Q : Nat → Prop) (qs qs2 : List Pa) (D D2 : Cts) : Prop where
  net : NS W nb R qs D
  ref : RS W rb Q qs2 D2
  nbase : ∀ k, R k → w.heap.size ≤ k
  rbase : ∀ k, Q k → w.heap.size ≤ k
  apart : ∀ k, R k → Q k → False
  below : Below w.heap.size w W
section
variable {w W W' : World} {nb rb : Nat} {R Q S : Nat → Prop} {qs qs2 qs' : List Pa} {D D2 D' : Cts}
theorem TwN.later (h : TwN w W nb rb R Q qs qs2 D D2) (hb : Below W.heap.size W W') : TwN w W' nb rb R Q qs qs2 D D2 := ⟨h.net.later hb, h.ref.later hb, h.nbase, h.rbase, h.apart, h.below.trans (hb.mono h.below.size)⟩
theorem TwN.keep (h : TwN w W nb rb R Q qs qs2 D D2) (t : Touch S W W') (h1 : ∀ k, R k → ¬ S k) (h2 : ∀ k, Q k → ¬ S k) (h3 : ∀ k, S k → w.heap.size ≤ k) : TwN w W' nb rb R Q qs qs2 D D2 := ⟨h.net.keep t h1, h.ref.keep t h2, h.nbase, h.rbase, h.apart, below_touch h.below t h.below.size h3⟩
theorem TwN.lt (h : TwN w W nb rb R Q qs qs2 D D2) : ∀ k, R k ∨ Q k → k < W.heap.size := fun k hk => hk.elim (h.net.lt k) (h.ref.lt k)
/-- A call of the net's. -/
theorem TwN.npost (h : TwN w W nb rb R Q qs qs2 D D2) (g : NPost W nb R qs' D' W') : ∃ R', TwN w W' nb rb R' Q qs' qs2 D' D2 ∧ Touch R W W' ∧ (∀ k, R' k → R k ∨ W.heap.size ≤ k) := by
  obtain ⟨R', g1, g2, g3⟩ := g
  refine ⟨R', ⟨g1, h.ref.keep g2 (fun k hk hr => h.apart k hr hk), fun k hk => ?_, h.rbase, fun k hk hq => ?_, below_touch h.below g2 h.below.size h.nbase⟩, g2, g3⟩
  · rcases g3 k hk with e | e
    · exact h.nbase k e
    · exact Nat.le_trans h.below.size e
  · rcases g3 k hk with e | e
    · exact h.apart k e hq
    · have := h.ref.lt k hq; omega
/-- A call of the document's. -/
theorem TwN.rpost {X : Nat → Prop} (h : TwN w W nb rb R Q qs qs2 D D2) (g : RPost W rb Q X qs' D' W') (hX : ∀ k, X k → w.heap.size ≤ k ∧ ¬ R k) : ∃ Q', TwN w W' nb rb R Q' qs qs' D D' ∧ Touch Q W W' ∧ (∀ k, Q' k → Q k ∨ X k ∨ W.heap.size ≤ k) := by
  obtain ⟨Q', g1, g2, g3⟩ := g
  refine ⟨Q', ⟨h.net.keep g2 (fun k hk hr => h.apart k hk hr), g1, h.nbase, fun k hk => ?_, fun k hk hq => ?_, below_touch h.below g2 h.below.size h.rbase⟩, g2, g3⟩
  · rcases g3 k hk with e | e | e
    · exact h.rbase k e
    · exact (hX k e).1
    · exact Nat.le_trans h.below.size e
  · rcases g3 k hq with e | e | e
    · exact h.apart k hk e
    · exact (hX k e).2 hk
    · have := h.net.lt k hk; omega
end
end Go.Proofs.Ytgpfkedihgoohaa
