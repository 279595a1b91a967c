/-
  A map from names to pointers, as a list of pairs: looked up, stored into, deleted from, counted, ranged over. Plain lemmas over the library's laws on maps. Conditions: names are at most 2^62 bytes.
-/
import Derived.Test.YtkcoeofbobkaoabGreatDoorLst
import Derived.Maps.RangeWalk

namespace Go.Proofs.YtkcoeofbobkaoabGreatDoor
open Go.RowKit Go.Maps
open Go.WideAt (atKey_none atKey_mem one_of_apart)
open Go.WideMaps (keyOf_string_mk)
set_option linter.unusedVariables false
set_option linter.unusedSectionVars false

/-- How a pointer reads in the map. -/
def ptrE : Value → Option (DataW Unit × List MemPlace)
  | .pointer (some ⟨g, 0, none⟩) => some (.lit (.int .u64 (g : Nat)), [])
  | .pointer none => some (.nil, [])
  | _ => none
def ptrV : Option Nat → Value
  | some g => .pointer (some ⟨g, 0, none⟩)
  | none => .pointer none
theorem ptrE_mk (g : Nat) : ptrE (ptrV (some g)) = some (.lit (.int .u64 (g : Nat)), []) := rfl
theorem ptrE_nil : ptrE (ptrV none) = some (.nil, []) := rfl
theorem ptrE_inv {v : Value} {z : DataW Unit × List MemPlace} (h : ptrE v = some z) : (∃ g : Nat, v = ptrV (some g) ∧ z = (.lit (.int .u64 (g : Nat)), [])) ∨ (v = ptrV none ∧ z = (.nil, [])) := by
  unfold ptrE at h
  split at h
  · rename_i g; cases h; exact .inl ⟨g, rfl, rfl⟩
  · cases h; exact .inr ⟨rfl, rfl⟩
  · cases h

theorem byte_ext {s t : ByteArray} (h : s.data.toList = t.data.toList) : s = t := by
  cases s; cases t
  simp only at h
  rw [ByteArray.mk.injEq]
  exact Array.ext' h

/-- The pairs. -/
abbrev Prs := List (ByteArray × Nat)
def ent (p : ByteArray × Nat) : Lit × DataW Unit := (.string p.1.data.toList, .lit (.int .u64 (p.2 : Nat)))
def at_ (m : Prs) (s : ByteArray) : Option Nat := (m.find? (fun p => decide (p.1 = s))).map (·.2)
def del (m : Prs) (s : ByteArray) : Prs := m.filter (fun p => decide (p.1 ≠ s))

theorem at_some {m : Prs} {s : ByteArray} {g : Nat} (h : at_ m s = some g) : (s, g) ∈ m := by
  unfold at_ at h
  obtain ⟨p, hp, rfl⟩ := Option.map_eq_some_iff.1 h
  have h1 := List.mem_of_find?_eq_some hp
  have h2 := List.find?_some hp
  simp at h2
  rw [← h2]
  exact h1
theorem at_none {m : Prs} {s : ByteArray} (h : at_ m s = none) : ∀ p ∈ m, p.1 ≠ s := by
  unfold at_ at h
  rw [Option.map_eq_none_iff, List.find?_eq_none] at h
  intro p hp e
  exact h p hp (by simpa using e)
theorem pair_eq {m : Prs} (ha : m.Pairwise (fun p q => p.1 ≠ q.1)) {p q : ByteArray × Nat} (hp : p ∈ m) (hq : q ∈ m) (e : p.1 = q.1) : p = q := by
  induction m with
  | nil => cases hp
  | cons x r ih =>
    obtain ⟨h1, h2⟩ := List.pairwise_cons.1 ha
    rcases List.mem_cons.1 hp with rfl | hp' <;> rcases List.mem_cons.1 hq with rfl | hq'
    · rfl
    · exact absurd e (h1 q hq')
    · exact absurd e.symm (h1 p hp')
    · exact ih h2 hp' hq'
theorem at_mem {m : Prs} (ha : m.Pairwise (fun p q => p.1 ≠ q.1)) {s : ByteArray} {g : Nat} (h : (s, g) ∈ m) : at_ m s = some g := by
  cases e : at_ m s with
  | none => exact absurd rfl (at_none e _ h)
  | some g' => have := pair_eq ha h (at_some e) rfl; cases this; rfl

/-- Block b is a map that reads as the pairs. -/
structure FM (w : World) (b : Nat) (m : Prs) : Prop where
  ex : ∃ es, w.ownsMap Tryz.prog 9 ptrE b m.length (.map es) ∧ es.Perm (m.map ent)
  apart : m.Pairwise (fun p q => p.1 ≠ q.1)

theorem keyed : Keyed Tryz.prog 9 := string_keyed Tryz.underlying9
theorem key_str {key : Value} {kl : Lit} (h : keyOf Tryz.prog 9 key = some kl) : ∃ s : ByteArray, key = .string s ∧ kl = .string s.data.toList ∧ s.size ≤ maxLen := by
  unfold keyOf at h
  cases key <;> simp [mapKey, Tryz.underlying9] at h
  obtain ⟨h1, rfl⟩ := h
  exact ⟨_, rfl, rfl, h1⟩
theorem zero_ptr (w : World) : (zeroValue 71).run Tryz.prog w = .ok (.pointer none) w := by kernel_rfl

theorem ent_apart {m : Prs} (ha : m.Pairwise (fun p q => p.1 ≠ q.1)) : (m.map ent).Pairwise (fun p q => p.1 ≠ q.1) := by
  rw [List.pairwise_map]
  exact ha.imp (fun h e => h (byte_ext (by simpa [ent] using e)))
theorem perm_apart {es : List (Lit × DataW Unit)} {m : Prs} (ha : m.Pairwise (fun p q => p.1 ≠ q.1)) (hp : es.Perm (m.map ent)) : es.Pairwise (fun p q => p.1 ≠ q.1) :=
  (hp.pairwise_iff (fun {_ _} h => Ne.symm h)).2 (ent_apart ha)

section
variable {es : List (Lit × DataW Unit)} {m : Prs} (ha : m.Pairwise (fun p q => p.1 ≠ q.1)) (hp : es.Perm (m.map ent)) (s : ByteArray)
include ha hp
theorem es_at (zd : DataW Unit) : (DataW.map es).atKey (.string s.data.toList) zd = match at_ m s with | some g => .lit (.int .u64 (g : Nat)) | none => zd := by
  cases e : at_ m s with
  | some g => exact atKey_mem zd trivial (perm_apart ha hp) (hp.mem_iff.2 (List.mem_map.2 ⟨_, at_some e, rfl⟩))
  | none =>
    refine atKey_none zd (fun p hq e2 => ?_)
    obtain ⟨q, hq', rfl⟩ := List.mem_map.1 (hp.mem_iff.1 hq)
    exact at_none e q hq' (byte_ext (by simpa [ent] using e2))
theorem es_has : Maps.has (DataW.map es) (.string s.data.toList) = (at_ m s).isSome := by
  cases e : at_ m s with
  | some g =>
    have : ent (s, g) ∈ es := hp.mem_iff.2 (List.mem_map.2 ⟨_, at_some e, rfl⟩)
    show es.any _ = true
    exact List.any_eq_true.2 ⟨_, this, by simp [ent, Lit.sameKey]⟩
  | none =>
    show es.any _ = false
    rw [List.any_eq_false]
    intro p hq e2
    obtain ⟨q, hq', rfl⟩ := List.mem_map.1 (hp.mem_iff.1 hq)
    exact at_none e q hq' (byte_ext (by simpa [ent, Lit.sameKey] using e2))
theorem es_filter : (es.filter (ChangeMaps.notKey (.string s.data.toList))).Perm ((del m s).map ent) := by
  refine (hp.filter _).trans ?_
  rw [List.filter_map]
  unfold del
  have : (ChangeMaps.notKey (Lit.string s.data.toList) ∘ ent) = (fun p : ByteArray × Nat => decide (p.1 ≠ s)) := by
    funext p
    show (!(Lit.string p.1.data.toList).sameKey (.string s.data.toList)) = _
    by_cases e : p.1 = s
    · rw [e]; simp [Lit.sameKey]
    · have : ¬ p.1.data.toList = s.data.toList := fun h => e (byte_ext h)
      have h2 : (p.1.data.toList == s.data.toList) = false := by rw [beq_eq_false_iff_ne]; exact this
      show (!(p.1.data.toList == s.data.toList)) = _
      rw [h2]
      simp [e]
  rw [this]
end

section
variable {w : World} {b : Nat} {m : Prs} {s : ByteArray}
theorem FM.lt (h : FM w b m) : b < w.heap.size := by obtain ⟨es, h1, _⟩ := h.ex; exact h1.lt
theorem FM.keep {w' : World} {S : Nat → Prop} (h : FM w b m) (t : Touch S w w') (hs : ¬ S b) : FM w' b m := by
  obtain ⟨es, ⟨es0, clock, hb, F, h2, hD⟩, h3⟩ := h.ex
  exact ⟨⟨es, ⟨es0, clock, t.keep hb hs, F, h2, hD⟩, h3⟩, h.apart⟩
theorem FM.block (h : FM w b m) : ∃ es clock, w.heap[b]? = some (.map es clock) := by
  obtain ⟨es, ⟨es0, clock, hb, _⟩, _⟩ := h.ex; exact ⟨es0, clock, hb⟩
theorem FM.made (w : World) : FM (w.alloc (.map #[] 0)) w.heap.size [] := ⟨⟨[], World.ownsMap_made w Tryz.prog 9 ptrE, List.Perm.refl _⟩, List.Pairwise.nil⟩
theorem FM.look (h : FM w b m) (hs : s.size ≤ maxLen) : (Instr.lookup 56 (.map (some b)) (.string s) true).run Tryz.prog w = .ok (.tuple #[ptrV (at_ m s), .bool (at_ m s).isSome]) w := by
  obtain ⟨es, h1, h2⟩ := h.ex
  obtain ⟨v, ps, hrun, hv⟩ := h1.look_ok keyed Tryz.underlying56 (zero_ptr w) ptrE_nil (keyOf_string_mk Tryz.underlying9 hs)
  rw [hrun, es_has h.apart h2]
  rw [es_at h.apart h2] at hv
  cases e : at_ m s with
  | some g =>
    rw [e] at hv
    rcases ptrE_inv hv with ⟨g', rfl, e2⟩ | ⟨_, e2⟩
    · simp only [Prod.mk.injEq, DataW.lit.injEq, Lit.int.injEq] at e2
      have : g = g' := by omega
      subst this
      rfl
    · cases e2
  | none =>
    rw [e] at hv
    rcases ptrE_inv hv with ⟨g', rfl, e2⟩ | ⟨rfl, e2⟩
    · cases e2
    · rfl
theorem look_nil (hs : s.size ≤ maxLen) (w : World) : (Instr.lookup 56 (.map none) (.string s) true).run Tryz.prog w = .ok (.tuple #[.pointer none, .bool false]) w :=
  Maps.look_nil true keyed Tryz.underlying56 (zero_ptr w) (keyOf_string_mk Tryz.underlying9 hs)
theorem FM.len (h : FM w b m) (ty : TypeId) : (Builtin.len_ #[56] ty #[.map (some b)]).run Tryz.prog w = .ok (.int .i64 (m.length : Nat)) w := by
  obtain ⟨es, h1, h2⟩ := h.ex
  have := h1.len Tryz.underlying56 ty
  rw [this]
  have e : Maps.size (DataW.map es) = m.length := by rw [Maps.size_eq, h2.length_eq, List.length_map]
  rw [e]
theorem grown_touch {w w' : World} {b : Nat} (h : w.grownBy w' (some b)) : Touch (· = b) w w' := ⟨h.os, h.tape, h.output, h.size, fun k hk hs => h.block k hk (fun e => hs (by simpa using e))⟩
theorem turned_touch {w w' : World} {b : Nat} (h : w.mapTurned w' b) : Touch (· = b) w w' := by
  obtain ⟨es, clock, es', clock', hb, rfl⟩ := h
  exact ⟨rfl, rfl, rfl, by simp [ChangeMaps.setBlock], fun i _ hi => ChangeMaps.heap_setBlock_other hb _ hi⟩
theorem del_apart (ha : m.Pairwise (fun p q => p.1 ≠ q.1)) (s : ByteArray) : (del m s).Pairwise (fun p q => p.1 ≠ q.1) := ha.filter _
theorem del_not {p : ByteArray × Nat} (h : p ∈ del m s) : p ∈ m ∧ p.1 ≠ s := by simpa [del] using h
theorem rebound {es : List (Lit × DataW Unit)} {n : Nat} (h : w.ownsMap Tryz.prog 9 ptrE b n (.map es)) : w.ownsMap Tryz.prog 9 ptrE b es.length (.map es) := by
  obtain ⟨es0, clock, hb, F, h2, hD⟩ := h
  refine ⟨es0, clock, hb, F, ?_, hD⟩
  have : es = (es0.toList.map (WideElems.rg Tryz.prog 9 ptrE)).foldr DataW.insert [] := by simpa using hD
  rw [this, length_sorted]
  simp
theorem FM.store (h : FM w b m) (hn : m.length < maxLen) (hs : s.size ≤ maxLen) (g : Nat) : ∃ w', (Instr.mapUpdate 56 (.map (some b)) (.string s) (ptrV (some g))).run Tryz.prog w = .ok () w' ∧ FM w' b ((s, g) :: del m s) ∧ Touch (· = b) w w' := by
  obtain ⟨es, h1, h2⟩ := h.ex
  obtain ⟨w', hrun, o, t⟩ := h1.store keyed Tryz.underlying56 hn (keyOf_string_mk Tryz.underlying9 hs) (ptrE_mk g)
  refine ⟨w', hrun, ⟨⟨ChangeMaps.putKey (.string s.data.toList) (.lit (.int .u64 (g : Nat))) es, ?_, ?_⟩, ?_⟩, turned_touch t⟩
  · rw [DataW.put_eq] at o
    have := rebound o
    have e : (ChangeMaps.putKey (.string s.data.toList) (.lit (.int .u64 (g : Nat))) es).length = ((s, g) :: del m s).length := by
      unfold ChangeMaps.putKey
      rw [length_insert, (es_filter h.apart h2 s).length_eq, List.length_map, List.length_cons]
    rw [e] at this
    exact this
  · unfold ChangeMaps.putKey
    refine (WideShapes.insert_perm _ _).trans ?_
    rw [List.map_cons]
    exact (es_filter h.apart h2 s).cons _
  · exact List.pairwise_cons.2 ⟨fun q hq => Ne.symm (del_not hq).2, del_apart h.apart s⟩
theorem FM.drop (h : FM w b m) (hs : s.size ≤ maxLen) (ty : TypeId) : ∃ w', (Builtin.delete_ #[56, 9] ty #[.map (some b), .string s]).run Tryz.prog w = .ok (.tuple #[]) w' ∧ FM w' b (del m s) ∧ Touch (· = b) w w' := by
  obtain ⟨es, h1, h2⟩ := h.ex
  obtain ⟨w', hrun, o, t⟩ := h1.drop keyed Tryz.underlying56 (keyOf_string_mk Tryz.underlying9 hs) ty
  refine ⟨w', hrun, ⟨⟨ChangeMaps.delKey (.string s.data.toList) es, ?_, es_filter h.apart h2 s⟩, del_apart h.apart s⟩, turned_touch t⟩
  rw [DataW.del_eq] at o
  have := rebound o
  have e : (ChangeMaps.delKey (.string s.data.toList) es).length = (del m s).length := by
    rw [show ChangeMaps.delKey (.string s.data.toList) es = es.filter (ChangeMaps.notKey (.string s.data.toList)) from rfl, (es_filter h.apart h2 s).length_eq, List.length_map]
  rw [e] at this
  exact this

/-- A range over the map under way: 'todo' is still to come. -/
structure RG (w : World) (b r : Nat) (m todo : Prs) : Prop where
  ex : ∃ es left cnt, w.ranges Tryz.prog 9 ptrE b r m.length (.map es) left cnt ∧ es.Perm (m.map ent) ∧ (∀ p ∈ m, left (ent p).1 = true → p ∈ todo) ∧ (∀ p ∈ todo, left (ent p).1 = true) ∧ (∀ kl, left kl = true → ∃ p ∈ m, (ent p).1 = kl)
  apart : m.Pairwise (fun p q => p.1 ≠ q.1)
  sub : ∀ p ∈ todo, p ∈ m
  tapart : todo.Pairwise (fun p q => p.1 ≠ q.1)
theorem RG.fm {r : Nat} {todo : Prs} (h : RG w b r m todo) : FM w b m := by
  obtain ⟨es, left, cnt, h1, h2, _⟩ := h.ex
  exact ⟨⟨es, h1.owns, h2⟩, h.apart⟩
theorem RG.keep {w' : World} {r : Nat} {todo : Prs} {S : Nat → Prop} (h : RG w b r m todo) (t : Touch S w w') (hb : ¬ S b) (hr : ¬ S r) : RG w' b r m todo := by
  obtain ⟨es, left, cnt, ⟨es0, clock, since, seen, c0, h1, h2, h3, h4, h5, h6⟩, g2⟩ := h.ex
  exact ⟨⟨es, left, cnt, ⟨es0, clock, since, seen, c0, t.keep h1 hb, h2, h3, h4, t.keep h5 hr, h6⟩, g2⟩, h.apart, h.sub, h.tapart⟩
theorem RG.lt {r : Nat} {todo : Prs} (h : RG w b r m todo) : r < w.heap.size := by obtain ⟨es, left, cnt, h1, _⟩ := h.ex; exact h1.lt
theorem RG.iter {r : Nat} {todo : Prs} (h : RG w b r m todo) : ∃ x y z u, w.heap[r]? = some (.mapIter x y z u) := by
  obtain ⟨es, left, cnt, ⟨es0, clock, since, seen, c0, h1, h2, h3, h4, h5, h6⟩, g2⟩ := h.ex
  exact ⟨_, _, _, _, h5⟩
theorem FM.range (h : FM w b m) : ∃ w', (Instr.range 56 (.map (some b))).run Tryz.prog w = .ok (.pointer (some ⟨w.heap.size, 0, none⟩)) w' ∧ RG w' b w.heap.size m m ∧ Touch (fun _ => False) w w' := by
  obtain ⟨es, h1, h2⟩ := h.ex
  obtain ⟨w', hrun, hrg, hg, hsz⟩ := h1.range keyed Tryz.underlying56
  refine ⟨w', hrun, ⟨⟨es, _, _, hrg, h2, fun p hp _ => hp, fun p hp => ?_, fun kl hkl => ?_⟩, h.apart, fun p hp => hp, h.apart⟩, ⟨hg.os, hg.tape, hg.output, hg.size, fun k hk _ => hg.block k hk (by simp)⟩⟩
  · show Maps.has _ (Lit.string p.1.data.toList) = true
    rw [es_has h.apart h2, at_mem h.apart (g := p.2) hp]; rfl
  · obtain ⟨p, hp, hpk⟩ := List.any_eq_true.1 hkl
    obtain ⟨q, hq, rfl⟩ := List.mem_map.1 (h2.mem_iff.1 hp)
    exact ⟨q, hq, WideAt.sameKey_eq hpk⟩
theorem RG.next {r : Nat} {todo : Prs} (h : RG w b r m todo) (ty : TypeId) :
    (todo = [] ∧ (Instr.next (.pointer (some ⟨r, 0, none⟩)) false ty).run Tryz.prog w = .ok (.tuple #[.bool false]) w) ∨
    ∃ p w', p ∈ todo ∧ p.1.size ≤ maxLen ∧ (Instr.next (.pointer (some ⟨r, 0, none⟩)) false ty).run Tryz.prog w = .ok (.tuple #[.bool true, .string p.1, ptrV (some p.2)]) w' ∧ RG w' b r m (del todo p.1) ∧ w'.rangeLeft b r < w.rangeLeft b r ∧ Touch (· = r) w w' ∧
      (Instr.entry (.pointer (some ⟨r, 0, none⟩))).run Tryz.prog w' = .ok (.tuple #[.string p.1, ptrV (some p.2)]) w' := by
  obtain ⟨es, left, cnt, h1, h2, h3, h4, h5⟩ := h.ex
  rcases h1.next keyed ty with ⟨hc, hl, hrun⟩ | ⟨key, v, kl, y, w', cnt', hkey, hlk, hv, hat, hrun, hrg, hlt, hgr, hsz, hen⟩
  · refine .inl ⟨?_, hrun⟩
    cases todo with
    | nil => rfl
    | cons x r => have := h4 x (List.mem_cons_self ..); rw [hl] at this; cases this
  · obtain ⟨p, hp, hpk⟩ := h5 kl hlk
    have hpt := h3 p hp (by rw [hpk]; exact hlk)
    have hks : key = .string p.1 ∧ p.1.size ≤ maxLen := by
      obtain ⟨x, rfl, e, hxl⟩ := key_str hkey
      rw [← hpk] at e
      have e2 : p.1 = x := byte_ext (by simpa [ent] using e)
      rw [e2]
      exact ⟨rfl, hxl⟩
    obtain ⟨rfl, hsl⟩ := hks
    have hvv : v = ptrV (some p.2) := by
      have e1 := hat .nil
      rw [← hpk] at e1
      have e2 := es_at h.apart h2 p.1 .nil
      rw [at_mem h.apart (g := p.2) hp] at e2
      have e3 : (DataW.map es).atKey (ent p).1 .nil = .lit (.int .u64 (p.2 : Nat)) := e2
      rw [e3] at e1
      rcases ptrE_inv hv with ⟨g', rfl, e4⟩ | ⟨_, e4⟩
      · rw [e4] at e1
        simp only [DataW.lit.injEq, Lit.int.injEq] at e1
        have : p.2 = g' := by omega
        rw [this]
      · rw [e4] at e1; cases e1
    subst hvv
    refine .inr ⟨p, w', hpt, hsl, hrun, ⟨⟨es, _, _, hrg, h2, ?_, ?_, ?_⟩, h.apart, fun q hq => h.sub q (del_not hq).1, del_apart h.tapart _⟩, by rw [hrg.left_eq, h1.left_eq]; exact hlt, grown_touch hgr, hen⟩
    · intro q hq hl
      simp only [Bool.and_eq_true, Bool.not_eq_true'] at hl
      have := h3 q hq hl.1
      simp only [del, List.mem_filter, decide_eq_true_eq]
      refine ⟨this, fun e => ?_⟩
      have e2 : (ent q).1 = kl := by rw [← hpk]; simp [ent, e]
      rw [e2, WideAt.sameKey_self (keyed.key hkey)] at hl
      exact absurd hl.2 (by simp)
    · intro q hq
      obtain ⟨h7, h8⟩ := del_not hq
      simp only [Bool.and_eq_true, Bool.not_eq_true']
      refine ⟨h4 q h7, ?_⟩
      cases hs : (ent q).1.sameKey kl
      · rfl
      · have := WideAt.sameKey_eq hs
        rw [← hpk] at this
        exact absurd (byte_ext (by simpa [ent] using this)) h8
    · intro k2 hk2
      simp only [Bool.and_eq_true] at hk2
      exact h5 k2 hk2.1
theorem left_keep {w w' : World} {b r : Nat} {S : Nat → Prop} (t : Touch S w w') (h1 : b < w.heap.size) (h2 : r < w.heap.size) (hb : ¬ S b) (hr : ¬ S r) : w'.rangeLeft b r = w.rangeLeft b r := by
  unfold World.rangeLeft
  rw [t.block b h1 hb, t.block r h2 hr]
end
end Go.Proofs.YtkcoeofbobkaoabGreatDoor
