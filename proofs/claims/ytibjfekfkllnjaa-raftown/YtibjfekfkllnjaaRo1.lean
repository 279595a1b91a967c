/-
  Two lists that were told, while what they hold is written over, one behind the other. Plain lemmas. No conditions.
-/
import Derived.Test.YtibjfekfkllnjaaRo0
namespace Go.Proofs.Ytibjfekfkllnjaa
open Go.RowKit Go.Maps
set_option linter.unusedVariables false

/-- What is fixed of the two lists. -/
structure XI (w0 : World) (lo : Nat) (R : Nat → Prop) (v u : Value) (ks gs : List En) : Prop where
  sepC : ks.Pairwise (fun p q => ∀ k, (enS p).ownBlock = some k → (enS q).ownBlock ≠ some k)
  sepL : gs.Pairwise (fun p q => ∀ k, (enS p).ownBlock = some k → (enS q).ownBlock ≠ some k)
  apart : ∀ k, ELB v ks k → ¬ ELB u gs k
  newC : ∀ k, ELB v ks k → lo ≤ k
  newL : ∀ k, ELB u gs k → lo ≤ k
  lowR : ∀ k, R k → k < lo
  base : w0.heap.size ≤ lo
/-- What is left of them: from number i + 1 on they hold what was told. -/
structure XS (w0 w : World) (rb xb : Nat) (R : Nat → Prop) (ps : List En) (v u : Value) (ks gs : List En) (xc : Array Value) (i : Nat) : Prop where
  rowC : Wide w 48 2 v ks.length (ks.flatMap enC)
  rowL : Wide w 64 2 u gs.length (gs.flatMap enC)
  datC : ∀ j (h : j < ks.length), i < j → ERow w ks[j]
  datL : ∀ j (h : j < gs.length), i < j → ERow w gs[j]
  raft : A2 w0 w rb R ps ps.length false
  box : w.heap[xb]? = some (.cells xc 57)
theorem XS.next {w0 w : World} {rb xb : Nat} {R : Nat → Prop} {ps : List En} {v u : Value} {ks gs : List En} {xc : Array Value} {i : Nat} (h : XS w0 w rb xb R ps v u ks gs xc i) : XS w0 w rb xb R ps v u ks gs xc (i + 1) :=
  ⟨h.rowC, h.rowL, fun j hj hi => h.datC j hj (by omega), fun j hj hi => h.datL j hj (by omega), h.raft, h.box⟩
theorem pair_at {ks : List En} (h : ks.Pairwise (fun p q => ∀ k, (enS p).ownBlock = some k → (enS q).ownBlock ≠ some k)) {i j : Nat} (hi : i < j) (hj : j < ks.length) {k : Nat} (h1 : (enS (ks[i]'(by omega))).ownBlock = some k) : (enS ks[j]).ownBlock ≠ some k :=
  List.pairwise_iff_getElem.1 h i j (by omega) hj hi k h1
/-- A write into what number i holds. -/
theorem XS.write {w0 w : World} {rb xb lo : Nat} {R : Nat → Prop} {ps : List En} {v u : Value} {ks gs : List En} {xc : Array Value} {i g : Nat} (h : XS w0 w rb xb R ps v u ks gs xc i) (x : XI w0 lo R v u ks gs) {cs : Array Value} (hg : w.heap[g]? = some (.cells cs 5)) (hw : (∃ h : i < ks.length, (enS ks[i]).ownBlock = some g) ∨ ∃ h : i < gs.length, (enS gs[i]).ownBlock = some g) (m : Nat) (y : Value) : XS w0 (w.setCell ⟨g, m, none⟩ y) rb xb R ps v u ks gs xc i := by
  have t := touch_set w g m y
  have hT : ∀ {T : TypeId} {b : Nat} {c : Array Value}, w.heap[b]? = some (.cells c T) → T ≠ 5 → ¬ b = g := fun hb hn e => by
    rw [e, hg] at hb
    exact hn (Obj.cells.inj (Option.some.inj hb)).2.1.symm
  have hlo : lo ≤ g := by
    rcases hw with ⟨hi, e⟩ | ⟨hi, e⟩
    · exact x.newC g (.inr ⟨_, List.getElem_mem hi, e⟩)
    · exact x.newL g (.inr ⟨_, List.getElem_mem hi, e⟩)
  refine ⟨h.rowC.keep t (fun k hk e => ?_), h.rowL.keep t (fun k hk e => ?_), fun j hj hij => (h.datC j hj hij).keep t (fun k hk e => ?_), fun j hj hij => (h.datL j hj hij).keep t (fun k hk e => ?_), h.raft.keep t (fun k hk e => ?_) (fun k hk => ?_), t.keep h.box (hT h.box (by decide))⟩
  · obtain ⟨c, hc⟩ := h.rowC.heap hk
    exact hT hc (by decide) e
  · obtain ⟨c, hc⟩ := h.rowL.heap hk
    exact hT hc (by decide) e
  · subst e
    rcases hw with ⟨hi, e⟩ | ⟨hi, e⟩
    · exact pair_at x.sepC hij hj e hk
    · exact x.apart _ (.inr ⟨_, List.getElem_mem hj, hk⟩) (.inr ⟨_, List.getElem_mem hi, e⟩)
  · subst e
    rcases hw with ⟨hi, e⟩ | ⟨hi, e⟩
    · exact x.apart _ (.inr ⟨_, List.getElem_mem hi, e⟩) (.inr ⟨_, List.getElem_mem hj, hk⟩)
    · exact pair_at x.sepL hij hj e hk
  · have := x.lowR k hk
    omega
  · rw [hk]
    exact Nat.le_trans x.base hlo
/-- What they hold at number j, in cells. -/
theorem XS.atC {w0 w : World} {rb xb : Nat} {R : Nat → Prop} {ps : List En} {v u : Value} {ks gs : List En} {xc : Array Value} {i : Nat} (h : XS w0 w rb xb R ps v u ks gs xc i) {j : Nat} (hj : j < ks.length) : ∃ g cap, v = .slice (some ⟨g, 0, none⟩) ks.length cap ∧ w.cell? ⟨g, j * 2 + 1, none⟩ = some (enS ks[j]) := by
  obtain ⟨a, cap, hv, hcap, hmax, _, _, hcells⟩ := h.rowC.parts
  obtain ⟨g, rfl, e2, e3, _⟩ := hcells (by omega)
  exact ⟨g, cap, hv, by rw [e3 (j * 2 + 1) (by omega), flat_at enC enC_len ks j 1 hj (by omega)]; rfl⟩
theorem XS.atL {w0 w : World} {rb xb : Nat} {R : Nat → Prop} {ps : List En} {v u : Value} {ks gs : List En} {xc : Array Value} {i : Nat} (h : XS w0 w rb xb R ps v u ks gs xc i) {j : Nat} (hj : j < gs.length) : ∃ g cap, u = .slice (some ⟨g, 0, none⟩) gs.length cap ∧ w.cell? ⟨g, j * 2 + 1, none⟩ = some (enS gs[j]) := by
  obtain ⟨a, cap, hv, hcap, hmax, _, _, hcells⟩ := h.rowL.parts
  obtain ⟨g, rfl, e2, e3, _⟩ := hcells (by omega)
  exact ⟨g, cap, hv, by rw [e3 (j * 2 + 1) (by omega), flat_at enC enC_len gs j 1 hj (by omega)]; rfl⟩
theorem XS.later {w0 w w' : World} {rb xb : Nat} {R : Nat → Prop} {ps : List En} {v u : Value} {ks gs : List En} {xc : Array Value} {i : Nat} (h : XS w0 w rb xb R ps v u ks gs xc i) (hb : Below w.heap.size w w') : XS w0 w' rb xb R ps v u ks gs xc i :=
  ⟨h.rowC.later hb, h.rowL.later hb, fun j hj hi => (h.datC j hj hi).later hb, fun j hj hi => (h.datL j hj hi).later hb, h.raft.later hb, below_keep hb h.box⟩
/-- What Take told. -/
theorem T2.lists {w0 w w' : World} {rb : Nat} {R : Nat → Prop} {ps : List En} {tn : Nat} {g : Hd} {v : Value} {ks : List En} (s : T2 w0 w w' rb R ps tn g v ks) (hR : ∀ k, R k → k < w.heap.size) (hw : w0.heap.size ≤ w.heap.size) : XI w0 w.heap.size R v (hdL g) ks g.ps :=
  ⟨s.list.sep, s.own.log.sep, s.apart, s.new, s.own.newL, hR, hw⟩
theorem T2.xs {w0 w w' w2 : World} {rb xb : Nat} {R : Nat → Prop} {ps : List En} {tn : Nat} {g : Hd} {v : Value} {ks : List En} {xc : Array Value} (s : T2 w0 w w' rb R ps tn g v ks) (hb : Below w'.heap.size w' w2) (hx : w2.heap[xb]? = some (.cells xc 57)) : XS w0 w2 rb xb R ps v (hdL g) ks g.ps xc 0 :=
  ⟨s.list.row.later hb, s.own.log.row.later hb, fun j hj _ => (s.list.each _ (List.getElem_mem hj)).later hb, fun j hj _ => (s.own.log.each _ (List.getElem_mem hj)).later hb, s.raft.later hb, hx⟩
/-- Number j + 1 of what was told is number j of what was laid. -/
theorem told_l {ls ks ps : List En} (hps : ps.map En.abs = lgL ls ls.length) (hk : ks.map En.abs = cmE 0 ps) {j : Nat} (hj : j < ls.length) : ∃ h : j + 1 < ks.length, (ks[j + 1]'h).l = ls[j].l := by
  have hpl : ps.length = ls.length + 1 := by
    have := congrArg List.length hps
    rw [lgL_len (Nat.le_refl _)] at this
    simpa using this
  have hkl : ks.length = ps.length := by
    have := congrArg List.length hk
    rw [cmE_len] at this
    simpa using this
  have h1 : (ps.map En.abs)[j + 1]? = some (1, ls[j].l) := by rw [hps]; exact lgL_at hj
  have h2 : (ps[j + 1]'(by omega)).l = ls[j].l := by
    have : (ps.map En.abs)[j + 1]? = some (ps[j + 1]'(by omega)).abs := by simp [show j + 1 < ps.length by omega]
    rw [this] at h1
    exact congrArg Prod.snd (Option.some.inj h1)
  refine ⟨by omega, ?_⟩
  have h3 : (ks.map En.abs)[j + 1]? = some (ks[j + 1]'(by omega)).abs := by simp [show j + 1 < ks.length by omega]
  have h4 : (cmE 0 ps)[j + 1]? = some (0 + 1 + ((j + 1 : Nat) : Int), (ps[j + 1]'(by omega)).l) := by
    unfold cmE
    simp [show j + 1 < ps.length by omega]
  rw [hk, h4] at h3
  have := congrArg Prod.snd (Option.some.inj h3)
  simp only at this
  rw [← this]
  exact h2
theorem laid_l {ls gs ps : List En} (hps : ∃ t, ps.map En.abs = lgL ls ls.length ++ t) (hk : gs.map En.abs = ps.map En.abs) {j : Nat} (hj : j < ls.length) : ∃ h : j + 1 < gs.length, (gs[j + 1]'h).l = ls[j].l := by
  obtain ⟨t, hps⟩ := hps
  have hgl : ls.length + 1 ≤ gs.length := by
    have := congrArg List.length (hk.trans hps)
    rw [List.length_append, lgL_len (Nat.le_refl _)] at this
    simp only [List.length_map] at this
    omega
  refine ⟨by omega, ?_⟩
  have h1 : (gs.map En.abs)[j + 1]? = some (1, ls[j].l) := by
    rw [hk, hps, List.getElem?_append_left (by rw [lgL_len (Nat.le_refl _)]; omega)]
    exact lgL_at hj
  have h3 : (gs.map En.abs)[j + 1]? = some (gs[j + 1]'(by omega)).abs := by simp [show j + 1 < gs.length by omega]
  rw [h3] at h1
  exact congrArg Prod.snd (Option.some.inj h1)
end Go.Proofs.Ytibjfekfkllnjaa
