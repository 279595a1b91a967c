/-
  Maps from numbers to anything that reads as a datum of its own, as lists of pairs: looked up, stored into, deleted from, gone through. Plain lemmas over the library's laws on maps. Conditions: keys are numbers of their kind.
-/
import Derived.Test.YtfbnkeflgddcmaaWd8
import Derived.Maps.RangeWalk
import Derived.Maps.OwnSet
namespace Go.Proofs.Ytfbnkeflgddcmaa
open Go.RowKit Go.Maps
open Go.WideAt (atKey_none atKey_mem one_of_apart)
set_option linter.unusedVariables false
set_option linter.unusedSectionVars false

/-- A kind of map: its types, its keys' kind, how its values lie and read. -/
structure MK (α : Type) where
  kt : TypeId
  mt : TypeId
  vt : TypeId
  ik : IntKind
  V : α → Value
  D : α → DataW Unit
  E : Value → Option (DataW Unit × List MemPlace)
  z : α
  hE : ∀ p, E (V p) = some (D p, [])
  hI : ∀ v y, E v = some y → ∃ p, v = V p ∧ y = (D p, [])
  hD : ∀ p q, D p = D q → p = q
  hk : Try.prog.underlying kt = some (.int ik)
  hm : Try.prog.underlying mt = some (.map kt vt)
  hz : ∀ w, (zeroValue vt).run Try.prog w = .ok (V z) w
def mkE {α : Type} (M : MK α) (p : Int × α) : Lit × DataW Unit := (.int M.ik p.1, M.D p.2)
def matx {α : Type} (m : List (Int × α)) (s : Int) : Option α := (m.find? (fun p => decide (p.1 = s))).map (·.2)
def mdel {α : Type} (m : List (Int × α)) (s : Int) : List (Int × α) := m.filter (fun p => decide (p.1 ≠ s))
section
variable {α : Type} {m : List (Int × α)} {s : Int}
theorem mat_some {g : α} (h : matx m s = some g) : (s, g) ∈ m := by
  unfold matx at h
  obtain ⟨p, hp, rfl⟩ := Option.map_eq_some_iff.1 h
  have h1 := List.mem_of_find?_eq_some hp
  have h2 := List.find?_some hp
  simp at h2
  rw [← h2]
  exact h1
theorem mat_none (h : matx m s = none) : ∀ p ∈ m, p.1 ≠ s := by
  unfold matx at h
  rw [Option.map_eq_none_iff, List.find?_eq_none] at h
  intro p hp e
  exact h p hp (by simpa using e)
theorem mdel_not {p : Int × α} (h : p ∈ mdel m s) : p ∈ m ∧ p.1 ≠ s := by simpa [mdel] using h
theorem mdel_in {p : Int × α} (h : p ∈ m) (hs : p.1 ≠ s) : p ∈ mdel m s := by simpa [mdel] using And.intro h hs
theorem mdel_apart (h : m.Pairwise (fun p q => p.1 ≠ q.1)) (s : Int) : (mdel m s).Pairwise (fun p q => p.1 ≠ q.1) := h.filter _
theorem mat_mem (ha : m.Pairwise (fun p q => p.1 ≠ q.1)) {g : α} (h : (s, g) ∈ m) : matx m s = some g := by
  induction m with
  | nil => cases h
  | cons x r ih =>
    obtain ⟨h1, h2⟩ := List.pairwise_cons.1 ha
    by_cases e : x.1 = s
    · rcases List.mem_cons.1 h with h' | h'
      · subst h'; simp [matx]
      · exact absurd e (h1 _ h')
    · rcases List.mem_cons.1 h with h' | h'
      · subst h'; exact absurd rfl e
      · have := ih h2 h'
        unfold matx at this ⊢
        rw [List.find?_cons_of_neg (by simpa using e)]
        exact this
theorem mat_cons (g : α) (t : Int) : matx ((s, g) :: mdel m s) t = if t = s then some g else matx m t := by
  by_cases e : t = s
  · subst e; simp [matx]
  · rw [if_neg e]
    unfold matx
    rw [List.find?_cons_of_neg (by simpa using Ne.symm e)]
    congr 1
    unfold mdel
    induction m with
    | nil => rfl
    | cons x r ih =>
      by_cases hx : x.1 = s
      · rw [List.filter_cons_of_neg (by simpa using hx), ih, List.find?_cons_of_neg (by simp; rw [hx]; exact Ne.symm e)]
      · rw [List.filter_cons_of_pos (by simpa using hx)]
        by_cases ht : x.1 = t
        · rw [List.find?_cons_of_pos (by simpa using ht), List.find?_cons_of_pos (by simpa using ht)]
        · rw [List.find?_cons_of_neg (by simpa using ht), List.find?_cons_of_neg (by simpa using ht), ih]
theorem mat_del (t : Int) : matx (mdel m s) t = if t = s then none else matx m t := by
  by_cases e : t = s
  · subst e
    rw [if_pos rfl]
    cases h : matx (mdel m t) t with
    | none => rfl
    | some g => exact absurd rfl (mdel_not (mat_some h)).2
  · rw [if_neg e]
    unfold matx
    congr 1
    unfold mdel
    induction m with
    | nil => rfl
    | cons x r ih =>
      by_cases hx : x.1 = s
      · rw [List.filter_cons_of_neg (by simpa using hx), ih, List.find?_cons_of_neg (by simp; rw [hx]; exact Ne.symm e)]
      · rw [List.filter_cons_of_pos (by simpa using hx)]
        by_cases ht : x.1 = t
        · rw [List.find?_cons_of_pos (by simpa using ht), List.find?_cons_of_pos (by simpa using ht)]
        · rw [List.find?_cons_of_neg (by simpa using ht), List.find?_cons_of_neg (by simpa using ht), ih]
theorem perm_mdel (ha : m.Pairwise (fun p q => p.1 ≠ q.1)) {g : α} (h : (s, g) ∈ m) : m.Perm ((s, g) :: mdel m s) := by
  induction m with
  | nil => cases h
  | cons x r ih =>
    obtain ⟨h1, h2⟩ := List.pairwise_cons.1 ha
    rcases List.mem_cons.1 h with h' | h'
    · subst h'
      have : mdel ((s, g) :: r) s = r := by
        unfold mdel
        rw [List.filter_cons_of_neg (by simp), List.filter_eq_self]
        intro p hp
        simpa using (fun e => h1 p hp e.symm)
      rw [this]
    · have e : x.1 ≠ s := h1 _ h'
      have : mdel (x :: r) s = x :: mdel r s := by
        unfold mdel
        rw [List.filter_cons_of_pos (by simpa using e)]
      rw [this]
      exact (List.Perm.cons x (ih h2 h')).trans (List.Perm.swap _ _ _)
end
/-- Block b is a map that reads as the pairs. -/
structure MM {α : Type} (M : MK α) (w : World) (b : Nat) (m : List (Int × α)) : Prop where
  ex : ∃ es, w.ownsMap Try.prog M.kt M.E b m.length (.map es) ∧ es.Perm (m.map (mkE M))
  apart : m.Pairwise (fun p q => p.1 ≠ q.1)
section
variable {α : Type} {M : MK α} {es : List (Lit × DataW Unit)} {m : List (Int × α)}
theorem mkeyed (M : MK α) : Keyed Try.prog M.kt := int_keyed M.hk
theorem mkE_apart (ha : m.Pairwise (fun p q => p.1 ≠ q.1)) : (m.map (mkE M)).Pairwise (fun p q => p.1 ≠ q.1) := by
  rw [List.pairwise_map]
  exact ha.imp (fun h e => h (by simpa [mkE] using e))
theorem mperm_apart (ha : m.Pairwise (fun p q => p.1 ≠ q.1)) (hp : es.Perm (m.map (mkE M))) : es.Pairwise (fun p q => p.1 ≠ q.1) :=
  (hp.pairwise_iff (fun {_ _} h => Ne.symm h)).2 (mkE_apart ha)
variable (ha : m.Pairwise (fun p q => p.1 ≠ q.1)) (hp : es.Perm (m.map (mkE M))) (s : Int)
include ha hp
theorem mes_at (zd : DataW Unit) : (DataW.map es).atKey (.int M.ik s) zd = match matx m s with | some g => M.D g | none => zd := by
  cases e : matx m s with
  | some g => exact atKey_mem zd trivial (mperm_apart ha hp) (hp.mem_iff.2 (List.mem_map.2 ⟨_, mat_some e, rfl⟩))
  | none =>
    refine atKey_none zd (fun p hq e2 => ?_)
    obtain ⟨q, hq', rfl⟩ := List.mem_map.1 (hp.mem_iff.1 hq)
    exact mat_none e q hq' (by simpa [mkE] using e2)
theorem mes_has : Maps.has (DataW.map es) (.int M.ik s) = (matx m s).isSome := by
  cases e : matx m s with
  | some g =>
    have : mkE M (s, g) ∈ es := hp.mem_iff.2 (List.mem_map.2 ⟨_, mat_some e, rfl⟩)
    show es.any _ = true
    exact List.any_eq_true.2 ⟨_, this, by simp [mkE, Lit.sameKey]⟩
  | none =>
    show es.any _ = false
    rw [List.any_eq_false]
    intro p hq e2
    obtain ⟨q, hq', rfl⟩ := List.mem_map.1 (hp.mem_iff.1 hq)
    exact mat_none e q hq' (by simpa [mkE, Lit.sameKey] using e2)
theorem mes_filter : (es.filter (ChangeMaps.notKey (.int M.ik s))).Perm ((mdel m s).map (mkE M)) := by
  refine (hp.filter _).trans ?_
  rw [List.filter_map]
  unfold mdel
  have : (ChangeMaps.notKey (Lit.int M.ik s) ∘ mkE M) = (fun p : Int × α => decide (p.1 ≠ s)) := by
    funext p
    show (!(Lit.int M.ik p.1).sameKey (.int M.ik s)) = _
    by_cases e : p.1 = s
    · rw [e]; simp [Lit.sameKey]
    · simp [Lit.sameKey, e]
  rw [this]
end
section
variable {α : Type} {M : MK α} {w w' : World} {b r : Nat} {m todo : List (Int × α)} {s : Int} {S : Nat → Prop}
theorem MM.lt (h : MM M w b m) : b < w.heap.size := by obtain ⟨es, h1, _⟩ := h.ex; exact h1.lt
theorem MM.keep (h : MM M w b m) (t : Touch S w w') (hs : ¬ S b) : MM M w' b m := by
  obtain ⟨es, ⟨es0, clock, hb, F, h2, hD⟩, h3⟩ := h.ex
  exact ⟨⟨es, ⟨es0, clock, t.keep hb hs, F, h2, hD⟩, h3⟩, h.apart⟩
theorem MM.block (h : MM M w b m) : ∃ es clock, w.heap[b]? = some (.map es clock) := by
  obtain ⟨es, ⟨es0, clock, hb, _⟩, _⟩ := h.ex; exact ⟨es0, clock, hb⟩
theorem MM.made (M : MK α) (w : World) : MM M (w.alloc (.map #[] 0)) w.heap.size [] := ⟨⟨[], World.ownsMap_made w Try.prog M.kt M.E, List.Perm.refl _⟩, List.Pairwise.nil⟩
def mgot (M : MK α) (o : Option α) : α := o.getD M.z
theorem MM.look (h : MM M w b m) (hs : (Lit.int M.ik s).wf = true) : (Instr.lookup M.mt (.map (some b)) (.int M.ik s) true).run Try.prog w = .ok (.tuple #[M.V (mgot M (matx m s)), .bool (matx m s).isSome]) w := by
  obtain ⟨es, h1, h2⟩ := h.ex
  obtain ⟨v, ps, hrun, hv⟩ := h1.look_ok (mkeyed M) M.hm (M.hz w) (M.hE M.z) (keyOf_int_mk M.hk hs)
  rw [hrun, mes_has h.apart h2]
  rw [mes_at h.apart h2] at hv
  obtain ⟨p, rfl, e2⟩ := M.hI _ _ hv
  have e3 : p = mgot M (matx m s) := by
    cases e : matx m s with
    | some g => rw [e] at e2; exact (M.hD _ _ (congrArg Prod.fst e2)).symm
    | none => rw [e] at e2; exact (M.hD _ _ (congrArg Prod.fst e2)).symm
  rw [e3]
theorem MM.look1 (h : MM M w b m) (hs : (Lit.int M.ik s).wf = true) : (Instr.lookup M.mt (.map (some b)) (.int M.ik s) false).run Try.prog w = .ok (M.V (mgot M (matx m s))) w := by
  obtain ⟨es, h1, h2⟩ := h.ex
  have hv : ∃ v ps, (Instr.lookup M.mt (.map (some b)) (.int M.ik s) false).run Try.prog w = .ok v w ∧ M.E v = some ((DataW.map es).atKey (.int M.ik s) (M.D M.z), ps) := by
    obtain ⟨es0, clock, hb, F, _, hD⟩ := h1
    rw [hD]
    rcases Maps.fit_look false (mkeyed M) M.hm (M.hz w) hb F (keyOf_int_mk M.hk hs) with ⟨hrun, _, hat⟩ | ⟨e0, y, _, _, hrun, hRv, hat, _⟩
    · exact ⟨_, [], hrun, by rw [hat]; exact M.hE M.z⟩
    · exact ⟨e0.val, y.2, hrun, by rw [hat]; exact hRv⟩
  obtain ⟨v, ps, hrun, hv⟩ := hv
  rw [hrun]
  rw [mes_at h.apart h2] at hv
  obtain ⟨p, rfl, e2⟩ := M.hI _ _ hv
  have e3 : p = mgot M (matx m s) := by
    cases e : matx m s with
    | some g => rw [e] at e2; exact (M.hD _ _ (congrArg Prod.fst e2)).symm
    | none => rw [e] at e2; exact (M.hD _ _ (congrArg Prod.fst e2)).symm
  rw [e3]
theorem mlook_nil (M : MK α) (hs : (Lit.int M.ik s).wf = true) (w : World) : (Instr.lookup M.mt (.map none) (.int M.ik s) true).run Try.prog w = .ok (.tuple #[M.V M.z, .bool false]) w :=
  Maps.look_nil true (mkeyed M) M.hm (M.hz w) (keyOf_int_mk M.hk hs)
theorem mlook1_nil (M : MK α) (hs : (Lit.int M.ik s).wf = true) (w : World) : (Instr.lookup M.mt (.map none) (.int M.ik s) false).run Try.prog w = .ok (M.V M.z) w :=
  Maps.look_nil false (mkeyed M) M.hm (M.hz w) (keyOf_int_mk M.hk hs)
theorem mturned {w w' : World} {b : Nat} (h : w.mapTurned w' b) : Touch (· = b) w w' := by
  obtain ⟨es, clock, es', clock', hb, rfl⟩ := h
  exact ⟨rfl, rfl, rfl, by simp [ChangeMaps.setBlock], fun i _ hi => ChangeMaps.heap_setBlock_other hb _ hi⟩
theorem mrebound {es : List (Lit × DataW Unit)} {n : Nat} (h : w.ownsMap Try.prog M.kt M.E b n (.map es)) : w.ownsMap Try.prog M.kt M.E b es.length (.map es) := by
  obtain ⟨es0, clock, hb, F, h2, hD⟩ := h
  refine ⟨es0, clock, hb, F, ?_, hD⟩
  have : es = (es0.toList.map (WideElems.rg Try.prog M.kt M.E)).foldr DataW.insert [] := by simpa using hD
  rw [this, length_sorted]
  simp
theorem MM.store (h : MM M w b m) (hn : m.length < maxLen) (hs : (Lit.int M.ik s).wf = true) (g : α) : ∃ w', (Instr.mapUpdate M.mt (.map (some b)) (.int M.ik s) (M.V g)).run Try.prog w = .ok () w' ∧ MM M w' b ((s, g) :: mdel m s) ∧ Touch (· = b) w w' := by
  obtain ⟨es, h1, h2⟩ := h.ex
  obtain ⟨w', hrun, o, t⟩ := h1.store (mkeyed M) M.hm hn (keyOf_int_mk M.hk hs) (M.hE g)
  refine ⟨w', hrun, ⟨⟨ChangeMaps.putKey (.int M.ik s) (M.D g) es, ?_, ?_⟩, ?_⟩, mturned t⟩
  · rw [DataW.put_eq] at o
    have := mrebound o
    have e : (ChangeMaps.putKey (.int M.ik s) (M.D g) es).length = ((s, g) :: mdel m s).length := by
      unfold ChangeMaps.putKey
      rw [length_insert, (mes_filter h.apart h2 s).length_eq, List.length_map, List.length_cons]
    rw [e] at this
    exact this
  · unfold ChangeMaps.putKey
    refine (WideShapes.insert_perm _ _).trans ?_
    rw [List.map_cons]
    exact (mes_filter h.apart h2 s).cons _
  · exact List.pairwise_cons.2 ⟨fun q hq => Ne.symm (mdel_not hq).2, h.apart.filter _⟩
theorem MM.drop (h : MM M w b m) (hs : (Lit.int M.ik s).wf = true) (ty : TypeId) : ∃ w', (Builtin.delete_ #[M.mt, M.kt] ty #[.map (some b), .int M.ik s]).run Try.prog w = .ok (.tuple #[]) w' ∧ MM M w' b (mdel m s) ∧ Touch (· = b) w w' := by
  obtain ⟨es, h1, h2⟩ := h.ex
  obtain ⟨w', hrun, o, t⟩ := h1.drop (mkeyed M) M.hm (keyOf_int_mk M.hk hs) ty
  refine ⟨w', hrun, ⟨⟨ChangeMaps.delKey (.int M.ik s) es, ?_, ?_⟩, mdel_apart h.apart _⟩, mturned t⟩
  · rw [DataW.del_eq] at o
    have := mrebound o
    have e : (ChangeMaps.delKey (.int M.ik s) es).length = (mdel m s).length := by
      unfold ChangeMaps.delKey
      rw [(mes_filter h.apart h2 s).length_eq, List.length_map]
    rw [e] at this
    exact this
  · unfold ChangeMaps.delKey
    exact mes_filter h.apart h2 s
theorem mdrop_nil (M : MK α) (hs : (Lit.int M.ik s).wf = true) (ty : TypeId) (w : World) : (Builtin.delete_ #[M.mt, M.kt] ty #[.map none, .int M.ik s]).run Try.prog w = .ok (.tuple #[]) w :=
  Maps.drop_nil (mkeyed M) M.hm (keyOf_int_mk M.hk hs) ty
/-- A range under way: todo is what is to come. -/
structure MRG (M : MK α) (w : World) (b r : Nat) (m todo : List (Int × α)) : Prop where
  ex : ∃ es left cnt, w.ranges Try.prog M.kt M.E b r m.length (.map es) left cnt ∧ es.Perm (m.map (mkE M)) ∧ (∀ p ∈ m, left (mkE M p).1 = true → p ∈ todo) ∧ (∀ p ∈ todo, left (mkE M p).1 = true) ∧ (∀ kl, left kl = true → ∃ p ∈ m, (mkE M p).1 = kl)
  apart : m.Pairwise (fun p q => p.1 ≠ q.1)
  sub : ∀ p ∈ todo, p ∈ m
  tapart : todo.Pairwise (fun p q => p.1 ≠ q.1)
theorem MRG.mm (h : MRG M w b r m todo) : MM M w b m := by
  obtain ⟨es, left, cnt, h1, h2, _⟩ := h.ex
  exact ⟨⟨es, h1.owns, h2⟩, h.apart⟩
theorem MRG.keep (h : MRG M w b r m todo) (t : Touch S w w') (hb : ¬ S b) (hr : ¬ S r) : MRG M w' b r m todo := by
  obtain ⟨es, left, cnt, ⟨es0, clock, since, seen, c0, h1, h2, h3, h4, h5, h6⟩, g2⟩ := h.ex
  exact ⟨⟨es, left, cnt, ⟨es0, clock, since, seen, c0, t.keep h1 hb, h2, h3, h4, t.keep h5 hr, h6⟩, g2⟩, h.apart, h.sub, h.tapart⟩
theorem MRG.lt (h : MRG M w b r m todo) : r < w.heap.size := by obtain ⟨es, left, cnt, h1, _⟩ := h.ex; exact h1.lt
theorem mgrown {w w' : World} {r : Nat} (h : w.grownBy w' (some r)) : Touch (· = r) w w' := ⟨h.os, h.tape, h.output, h.size, fun k hk hs => h.block k hk (fun e => hs (by simpa using e))⟩
theorem MM.range (h : MM M w b m) : ∃ w', (Instr.range M.mt (.map (some b))).run Try.prog w = .ok (.pointer (some ⟨w.heap.size, 0, none⟩)) w' ∧ MRG M w' b w.heap.size m m ∧ Touch (fun _ => False) w w' := by
  obtain ⟨es, h1, h2⟩ := h.ex
  obtain ⟨w', hrun, hrg, hg, hsz⟩ := h1.range (mkeyed M) M.hm
  refine ⟨w', hrun, ⟨⟨es, _, _, hrg, h2, fun p hp _ => hp, fun p hp => ?_, fun kl hkl => ?_⟩, h.apart, fun p hp => hp, h.apart⟩, ⟨hg.os, hg.tape, hg.output, hg.size, fun k hk _ => hg.block k hk (by simp)⟩⟩
  · show Maps.has _ (Lit.int M.ik p.1) = true
    rw [mes_has h.apart h2, mat_mem h.apart (g := p.2) hp]; rfl
  · obtain ⟨p, hp, hpk⟩ := List.any_eq_true.1 hkl
    obtain ⟨q, hq, rfl⟩ := List.mem_map.1 (h2.mem_iff.1 hp)
    exact ⟨q, hq, WideAt.sameKey_eq hpk⟩
theorem key_int {kt : TypeId} {ik : IntKind} (hk : Try.prog.underlying kt = some (.int ik)) {key : Value} {kl : Lit} (h : keyOf Try.prog kt key = some kl) : ∃ x : Int, key = .int ik x ∧ kl = .int ik x := by
  rw [keyOf_int hk] at h
  cases key <;> simp [mapKey, hk] at h
  obtain ⟨⟨e, _⟩, rfl⟩ := h
  exact ⟨_, by rw [e], rfl⟩
theorem MRG.next (h : MRG M w b r m todo) (ty : TypeId) :
    (todo = [] ∧ (Instr.next (.pointer (some ⟨r, 0, none⟩)) false ty).run Try.prog w = .ok (.tuple #[.bool false]) w) ∨
    ∃ p w', p ∈ todo ∧ (Instr.next (.pointer (some ⟨r, 0, none⟩)) false ty).run Try.prog w = .ok (.tuple #[.bool true, .int M.ik p.1, M.V p.2]) w' ∧ MRG M w' b r m (mdel todo p.1) ∧ w'.rangeLeft b r < w.rangeLeft b r ∧ Touch (· = r) w w' ∧
      (Instr.entry (.pointer (some ⟨r, 0, none⟩))).run Try.prog w' = .ok (.tuple #[.int M.ik p.1, M.V p.2]) w' := by
  obtain ⟨es, left, cnt, h1, h2, h3, h4, h5⟩ := h.ex
  rcases h1.next (mkeyed M) ty with ⟨hc, hl, hrun⟩ | ⟨key, v, kl, y, w', cnt', hkey, hlk, hv, hat, hrun, hrg, hlt, hgr, hsz, hen⟩
  · refine .inl ⟨?_, hrun⟩
    cases todo with
    | nil => rfl
    | cons x r => have := h4 x (List.mem_cons_self ..); rw [hl] at this; cases this
  · obtain ⟨p, hp, hpk⟩ := h5 kl hlk
    have hpt := h3 p hp (by rw [hpk]; exact hlk)
    have hks : key = .int M.ik p.1 := by
      obtain ⟨x, rfl, e⟩ := key_int M.hk hkey
      rw [← hpk] at e
      have e2 : p.1 = x := by simpa [mkE] using e
      rw [e2]
    subst hks
    have hvv : v = M.V p.2 := by
      have e1 := hat .nil
      rw [← hpk] at e1
      have e2 := mes_at h.apart h2 p.1 .nil
      rw [mat_mem h.apart (g := p.2) hp] at e2
      have e3 : (DataW.map es).atKey (mkE M p).1 .nil = M.D p.2 := e2
      rw [e3] at e1
      obtain ⟨q, rfl, e4⟩ := M.hI _ _ hv
      rw [e4] at e1
      rw [M.hD _ _ e1]
    subst hvv
    refine .inr ⟨p, w', hpt, hrun, ⟨⟨es, _, _, hrg, h2, ?_, ?_, ?_⟩, h.apart, fun q hq => h.sub q (mdel_not hq).1, mdel_apart h.tapart _⟩, by rw [hrg.left_eq, h1.left_eq]; exact hlt, mgrown hgr, hen⟩
    · intro q hq hl
      simp only [Bool.and_eq_true, Bool.not_eq_true'] at hl
      have := h3 q hq hl.1
      refine mdel_in this (fun e => ?_)
      have e2 : (mkE M q).1 = kl := by rw [← hpk]; simp [mkE, e]
      rw [e2, WideAt.sameKey_self ((mkeyed M).key hkey)] at hl
      exact absurd hl.2 (by simp)
    · intro q hq
      obtain ⟨h7, h8⟩ := mdel_not hq
      simp only [Bool.and_eq_true, Bool.not_eq_true']
      refine ⟨h4 q h7, ?_⟩
      cases hs : (mkE M q).1.sameKey kl
      · rfl
      · have := WideAt.sameKey_eq hs
        rw [← hpk] at this
        exact absurd (by simpa [mkE] using this) h8
    · intro k2 hk2
      simp only [Bool.and_eq_true] at hk2
      exact h5 k2 hk2.1
theorem mleft_keep (t : Touch S w w') (h1 : b < w.heap.size) (h2 : r < w.heap.size) (hb : ¬ S b) (hr : ¬ S r) : w'.rangeLeft b r = w.rangeLeft b r := by
  unfold World.rangeLeft
  rw [t.block b h1 hb, t.block r h2 hr]
/-- A range under way over a map that may be none. -/
def MIT (M : MK α) (w : World) (mv : Value) (r : Nat) (m todo : List (Int × α)) : Prop := (mv = .map none ∧ m = [] ∧ todo = [] ∧ w.heap[r]? = some (.mapIter none 0 #[] 0)) ∨ ∃ b, mv = .map (some b) ∧ MRG M w b r m todo
def mleftM (mv : Value) (r : Nat) (w : World) : Nat :=
  match mv with
  | .map (some b) => w.rangeLeft b r
  | _ => 0
theorem MIT.lt {mv : Value} (h : MIT M w mv r m todo) : r < w.heap.size := by
  rcases h with ⟨_, _, _, h⟩ | ⟨b, _, h⟩
  · exact lt_of_heap h
  · exact h.lt
theorem MIT.tapart {mv : Value} (h : MIT M w mv r m todo) : todo.Pairwise (fun p q => p.1 ≠ q.1) := by
  rcases h with ⟨_, _, e, _⟩ | ⟨b, _, h⟩
  · rw [e]; exact List.Pairwise.nil
  · exact h.tapart
theorem MIT.iter {mv : Value} (h : MIT M w mv r m todo) : ∃ x y z u, w.heap[r]? = some (.mapIter x y z u) := by
  rcases h with ⟨_, _, e, h⟩ | ⟨b, _, h⟩
  · exact ⟨_, _, _, _, h⟩
  · obtain ⟨es, left, cnt, ⟨es0, clock, since, seen, c0, h1, h2, h3, h4, h5, h6⟩, g2⟩ := h.ex
    exact ⟨_, _, _, _, h5⟩
theorem MIT.mapb {b : Nat} (h : MIT M w (.map (some b)) r m todo) : ∃ es clock, w.heap[b]? = some (.map es clock) := by
  rcases h with ⟨e, _⟩ | ⟨b', e, h⟩
  · cases e
  · cases e; exact h.mm.block
theorem MIT.keep {mv : Value} (h : MIT M w mv r m todo) (t : Touch S w w') (hb : ∀ b, mv = .map (some b) → ¬ S b) (hr : ¬ S r) : MIT M w' mv r m todo ∧ mleftM mv r w' = mleftM mv r w := by
  rcases h with ⟨e1, e2, e3, h⟩ | ⟨b, rfl, h⟩
  · exact ⟨.inl ⟨e1, e2, e3, t.keep h hr⟩, by rw [e1]; rfl⟩
  · exact ⟨.inr ⟨b, rfl, h.keep t (hb b rfl) hr⟩, mleft_keep t h.mm.lt h.lt (hb b rfl) hr⟩
theorem MIT.later {mv : Value} (h : MIT M w mv r m todo) (hb : Below w.heap.size w w') : MIT M w' mv r m todo ∧ mleftM mv r w' = mleftM mv r w :=
  h.keep (Touch.of_below (S := fun _ => False) hb) (fun _ _ h => h) (fun h => h)
end
section
variable {α : Type} (M : MK α) (w : World) {ops : Array Oper} {rest : List Oper} {o : Oper} {a : Act} {Q : Exit → Act → World → Prop}
theorem wpList_mitrange (hg : o.guard = none) (x : Operand) (hop : o.op = Op.range M.mt x) (mv : Value) (ps : List (Int × α)) (hm : a.eval x = mv) (h : (mv = .map none ∧ ps = []) ∨ ∃ mb, mv = .map (some mb) ∧ MM M w mb ps)
    (hK : ∀ w', MIT M w' mv w.heap.size ps ps → Touch (fun _ => False) w w' → wpList Try.prog ops Q rest (a.put o.dst (.pointer (some ⟨w.heap.size, 0, none⟩))) w') : wpList Try.prog ops Q (o :: rest) a w := by
  refine wpList_plain hg fun K' hK' => ?_
  rcases h with ⟨rfl, rfl⟩ | ⟨b, rfl, h⟩
  · have hrun : (Instr.range M.mt (.map none)).run Try.prog w = .ok (.pointer (some ⟨w.heap.size, 0, none⟩)) (w.alloc (.mapIter none 0 #[] 0)) := by
      simp [Instr.range, run_underlying M.hm, Result.andThen]
    unfold Oper.wp
    simp [execOp, hop, hm, hrun, Result.andThen]
    exact hK' _ _ (hK _ (.inl ⟨rfl, rfl, rfl, heap_new _ _⟩) ((Touch.refl _ w).alloc _))
  · obtain ⟨w', hrun, r1, r2⟩ := h.range
    unfold Oper.wp
    simp [execOp, hop, hm, hrun, Result.andThen]
    exact hK' _ _ (hK w' (.inr ⟨b, rfl, r1⟩) r2)
theorem wpList_mitnext (hg : o.guard = none) (it : Operand) (hop : o.op = Op.next it false) (mv : Value) (r : Nat) (m todo : List (Int × α)) (hit : a.eval it = .pointer (some ⟨r, 0, none⟩)) (h : MIT M w mv r m todo)
    (hDone : todo = [] → wpList Try.prog ops Q rest (a.put o.dst (.tuple #[.bool false])) w)
    (hMore : ∀ (s : Int) (g : α) (w' : World), (s, g) ∈ todo → (s, g) ∈ m → MIT M w' mv r m (mdel todo s) → mleftM mv r w' < mleftM mv r w → Touch (· = r) w w' → (Instr.entry (.pointer (some ⟨r, 0, none⟩))).run Try.prog w' = .ok (.tuple #[.int M.ik s, M.V g]) w' →
      wpList Try.prog ops Q rest (a.put o.dst (.tuple #[.bool true, .int M.ik s, M.V g])) w') : wpList Try.prog ops Q (o :: rest) a w := by
  refine wpList_plain hg fun K' hK' => ?_
  unfold Oper.wp
  rcases h with ⟨rfl, rfl, rfl, h⟩ | ⟨b, rfl, h⟩
  · have hrun : (Instr.next (.pointer (some ⟨r, 0, none⟩)) false o.type).run Try.prog w = .ok (.tuple #[.bool false]) w := by
      simp only [Instr.next, getObj, Sem.run_bind, Sem.run, h, Result.andThen]
      rfl
    simp [execOp, hop, hit, hrun, Result.andThen]
    exact hK' _ _ (hDone rfl)
  · have hsub := h.sub
    rcases h.next o.type with ⟨h0, hrun⟩ | ⟨p, w', hp, hrun, r1, r2, r3, r4⟩
    · simp [execOp, hop, hit, hrun, Result.andThen]
      exact hK' _ _ (hDone h0)
    · simp [execOp, hop, hit, hrun, Result.andThen]
      exact hK' _ _ (hMore p.1 p.2 w' hp (hsub p hp) (.inr ⟨b, rfl, r1⟩) r2 r3 r4)
end
end Go.Proofs.Ytfbnkeflgddcmaa
