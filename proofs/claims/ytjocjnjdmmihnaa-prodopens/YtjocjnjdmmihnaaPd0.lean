/-
  A map from numbers of producers to what is known of them, as a list of pairs: looked up, stored into. Plain lemmas over the library's laws on maps. Conditions: numbers below 2^64.
-/
import Derived.Test.YtjocjnjdmmihnaaCkz
import Derived.Maps.RangeWalk
namespace Go.Proofs.Ytjocjnjdmmihnaa
open Go.RowKit Go.Maps
open Go.WideAt (atKey_none atKey_mem one_of_apart)
set_option linter.unusedVariables false
set_option linter.unusedSectionVars false

/-- What is known of a producer, as it lies: its epoch, the next number, where its last batches lie, whether a transaction is open, where it begins. -/
structure Pd where
  ep : Int
  nx : Int
  g : Option Nat
  n : Nat
  c : Nat
  op : Bool
  fi : Int
abbrev pdS (p : Pd) : Value := .slice (p.g.map (fun g => ⟨g, 0, none⟩)) p.n p.c
abbrev pdV (p : Pd) : Value := .agg #[.int .i64 p.ep, .int .i64 p.nx, pdS p, .bool p.op, .int .i64 p.fi]
def pd0 : Pd := ⟨0, 0, none, 0, 0, false, 0⟩
def pdD (p : Pd) : DataW Unit := .agg [.lit (.int .i64 p.ep), .lit (.int .i64 p.nx), (match p.g with | none => .nil | some g => .lit (.int .u64 (g : Nat))), .lit (.int .u64 (p.n : Nat)), .lit (.int .u64 (p.c : Nat)), .lit (.bool p.op), .lit (.int .i64 p.fi)]
theorem pdD_inj {p q : Pd} (h : pdD p = pdD q) : p = q := by
  obtain ⟨a1, a2, a3, a4, a5, a6, a7⟩ := p
  obtain ⟨b1, b2, b3, b4, b5, b6, b7⟩ := q
  simp only [pdD, DataW.agg.injEq, List.cons.injEq, DataW.lit.injEq, Lit.int.injEq, Lit.bool.injEq, true_and, and_true] at h
  obtain ⟨h1, h2, h3, h4, h5, h6, h7⟩ := h
  have e3 : a3 = b3 := by
    cases a3 <;> cases b3 <;> simp at h3 <;> first | rfl | (congr 1; omega)
  have e4 : a4 = b4 := by omega
  have e5 : a5 = b5 := by omega
  rw [h1, h2, e3, e4, e5, h6, h7]
/-- How it reads in the map. -/
def pdE (v : Value) : Option (DataW Unit × List MemPlace) := match v with
  | .agg cs => match cs.toList with
    | [.int .i64 e, .int .i64 n, .slice none l c, .bool o, .int .i64 f] => some (pdD ⟨e, n, none, l, c, o, f⟩, [])
    | [.int .i64 e, .int .i64 n, .slice (some ⟨g, 0, none⟩) l c, .bool o, .int .i64 f] => some (pdD ⟨e, n, some g, l, c, o, f⟩, [])
    | _ => none
  | _ => none
theorem pdE_mk (p : Pd) : pdE (pdV p) = some (pdD p, []) := by
  obtain ⟨a1, a2, a3, a4, a5, a6, a7⟩ := p
  cases a3 <;> rfl
theorem pdE_inv {v : Value} {z : DataW Unit × List MemPlace} (h : pdE v = some z) : ∃ p, v = pdV p ∧ z = (pdD p, []) := by
  unfold pdE at h
  split at h
  · rename_i cs
    split at h
    · rename_i e n l c o f hl
      cases h
      refine ⟨⟨e, n, none, l, c, o, f⟩, ?_, rfl⟩
      have : cs = #[.int .i64 e, .int .i64 n, .slice none l c, .bool o, .int .i64 f] := Array.ext' hl
      rw [this]; rfl
    · rename_i e n g l c o f hl
      cases h
      refine ⟨⟨e, n, some g, l, c, o, f⟩, ?_, rfl⟩
      have : cs = #[.int .i64 e, .int .i64 n, .slice (some ⟨g, 0, none⟩) l c, .bool o, .int .i64 f] := Array.ext' hl
      rw [this]; rfl
    · cases h
  · cases h

/-- The pairs. -/
abbrev Pps := List (Nat × Pd)
def pent (p : Nat × Pd) : Lit × DataW Unit := (.int .u64 (p.1 : Nat), pdD p.2)
def patx (m : Pps) (s : Nat) : Option Pd := (m.find? (fun p => decide (p.1 = s))).map (·.2)
def pdel (m : Pps) (s : Nat) : Pps := m.filter (fun p => decide (p.1 ≠ s))
theorem pat_some {m : Pps} {s : Nat} {g : Pd} (h : patx m s = some g) : (s, g) ∈ m := by
  unfold patx at h
  obtain ⟨p, hp, rfl⟩ := Option.map_eq_some_iff.1 h
  have h1 := List.mem_of_find?_eq_some hp
  have h2 := List.find?_some hp
  simp at h2
  rw [← h2]
  exact h1
theorem pat_none {m : Pps} {s : Nat} (h : patx m s = none) : ∀ p ∈ m, p.1 ≠ s := by
  unfold patx at h
  rw [Option.map_eq_none_iff, List.find?_eq_none] at h
  intro p hp e
  exact h p hp (by simpa using e)
/-- Block b is a map that reads as the pairs. -/
structure PM (w : World) (b : Nat) (m : Pps) : Prop where
  ex : ∃ es, w.ownsMap Try.prog 27 pdE b m.length (.map es) ∧ es.Perm (m.map pent)
  apart : m.Pairwise (fun p q => p.1 ≠ q.1)
theorem pkeyed : Keyed Try.prog 27 := int_keyed Try.underlying27
theorem u64_wf {k : Nat} (h : k < 18446744073709551616) : (Lit.int .u64 (k : Int)).wf = true := by
  simp [Lit.wf, IntKind.min, IntKind.max, IntKind.signed, IntKind.bits]; omega
theorem zero_pd (w : World) : (zeroValue 44).run Try.prog w = .ok (pdV pd0) w := by kernel_rfl
theorem pent_apart {m : Pps} (ha : m.Pairwise (fun p q => p.1 ≠ q.1)) : (m.map pent).Pairwise (fun p q => p.1 ≠ q.1) := by
  rw [List.pairwise_map]
  exact ha.imp (fun h e => h (by simp only [pent, Lit.int.injEq, true_and] at e; omega))
theorem pperm_apart {es : List (Lit × DataW Unit)} {m : Pps} (ha : m.Pairwise (fun p q => p.1 ≠ q.1)) (hp : es.Perm (m.map pent)) : es.Pairwise (fun p q => p.1 ≠ q.1) :=
  (hp.pairwise_iff (fun {_ _} h => Ne.symm h)).2 (pent_apart ha)
section
variable {es : List (Lit × DataW Unit)} {m : Pps} (ha : m.Pairwise (fun p q => p.1 ≠ q.1)) (hp : es.Perm (m.map pent)) (s : Nat)
include ha hp
theorem pes_at (zd : DataW Unit) : (DataW.map es).atKey (.int .u64 (s : Nat)) zd = match patx m s with | some g => pdD g | none => zd := by
  cases e : patx m s with
  | some g => exact atKey_mem zd trivial (pperm_apart ha hp) (hp.mem_iff.2 (List.mem_map.2 ⟨_, pat_some e, rfl⟩))
  | none =>
    refine atKey_none zd (fun p hq e2 => ?_)
    obtain ⟨q, hq', rfl⟩ := List.mem_map.1 (hp.mem_iff.1 hq)
    exact pat_none e q hq' (by simp only [pent, Lit.int.injEq, true_and] at e2; omega)
theorem pes_has : Maps.has (DataW.map es) (.int .u64 (s : Nat)) = (patx m s).isSome := by
  cases e : patx m s with
  | some g =>
    have : pent (s, g) ∈ es := hp.mem_iff.2 (List.mem_map.2 ⟨_, pat_some e, rfl⟩)
    show es.any _ = true
    exact List.any_eq_true.2 ⟨_, this, by simp [pent, Lit.sameKey]⟩
  | none =>
    show es.any _ = false
    rw [List.any_eq_false]
    intro p hq e2
    obtain ⟨q, hq', rfl⟩ := List.mem_map.1 (hp.mem_iff.1 hq)
    exact pat_none e q hq' (by simp [pent, Lit.sameKey] at e2; omega)
theorem pes_filter : (es.filter (ChangeMaps.notKey (.int .u64 (s : Nat)))).Perm ((pdel m s).map pent) := by
  refine (hp.filter _).trans ?_
  rw [List.filter_map]
  unfold pdel
  have : (ChangeMaps.notKey (Lit.int .u64 (s : Nat)) ∘ pent) = (fun p : Nat × Pd => decide (p.1 ≠ s)) := by
    funext p
    show (!(Lit.int .u64 (p.1 : Nat)).sameKey (.int .u64 (s : Nat))) = _
    by_cases e : p.1 = s
    · rw [e]; simp [Lit.sameKey]
    · have : ¬ (p.1 : Int) = (s : Int) := by omega
      simp [Lit.sameKey, e, this]
  rw [this]
end
section
variable {w : World} {b : Nat} {m : Pps} {s : Nat}
theorem PM.lt (h : PM w b m) : b < w.heap.size := by obtain ⟨es, h1, _⟩ := h.ex; exact h1.lt
theorem PM.keep {w' : World} {S : Nat → Prop} (h : PM w b m) (t : Touch S w w') (hs : ¬ S b) : PM w' b m := by
  obtain ⟨es, ⟨es0, clock, hb, F, h2, hD⟩, h3⟩ := h.ex
  exact ⟨⟨es, ⟨es0, clock, t.keep hb hs, F, h2, hD⟩, h3⟩, h.apart⟩
theorem PM.block (h : PM w b m) : ∃ es clock, w.heap[b]? = some (.map es clock) := by
  obtain ⟨es, ⟨es0, clock, hb, _⟩, _⟩ := h.ex; exact ⟨es0, clock, hb⟩
theorem PM.made (w : World) : PM (w.alloc (.map #[] 0)) w.heap.size [] := ⟨⟨[], World.ownsMap_made w Try.prog 27 pdE, List.Perm.refl _⟩, List.Pairwise.nil⟩
def gotP (o : Option Pd) : Pd := o.getD pd0
theorem PM.look (h : PM w b m) (hs : s < 18446744073709551616) : (Instr.lookup 46 (.map (some b)) (.int .u64 (s : Int)) true).run Try.prog w = .ok (.tuple #[pdV (gotP (patx m s)), .bool (patx m s).isSome]) w := by
  obtain ⟨es, h1, h2⟩ := h.ex
  obtain ⟨v, ps, hrun, hv⟩ := h1.look_ok pkeyed Try.underlying46 (zero_pd w) (pdE_mk pd0) (keyOf_int_mk Try.underlying27 (u64_wf hs))
  rw [hrun, pes_has h.apart h2]
  rw [pes_at h.apart h2] at hv
  obtain ⟨p, rfl, e2⟩ := pdE_inv hv
  have e3 : p = gotP (patx m s) := by
    cases e : patx m s with
    | some g => rw [e] at e2; exact (pdD_inj (congrArg Prod.fst e2)).symm
    | none => rw [e] at e2; exact (pdD_inj (congrArg Prod.fst e2)).symm
  rw [e3]
theorem plook_nil (hs : s < 18446744073709551616) (w : World) : (Instr.lookup 46 (.map none) (.int .u64 (s : Int)) true).run Try.prog w = .ok (.tuple #[pdV pd0, .bool false]) w :=
  Maps.look_nil true pkeyed Try.underlying46 (zero_pd w) (keyOf_int_mk Try.underlying27 (u64_wf hs))
theorem pturned {w w' : World} {b : Nat} (h : w.mapTurned w' b) : Touch (· = b) w w' := by
  obtain ⟨es, clock, es', clock', hb, rfl⟩ := h
  exact ⟨rfl, rfl, rfl, by simp [ChangeMaps.setBlock], fun i _ hi => ChangeMaps.heap_setBlock_other hb _ hi⟩
theorem pdel_not {p : Nat × Pd} (h : p ∈ pdel m s) : p ∈ m ∧ p.1 ≠ s := by simpa [pdel] using h
theorem prebound {es : List (Lit × DataW Unit)} {n : Nat} (h : w.ownsMap Try.prog 27 pdE b n (.map es)) : w.ownsMap Try.prog 27 pdE b es.length (.map es) := by
  obtain ⟨es0, clock, hb, F, h2, hD⟩ := h
  refine ⟨es0, clock, hb, F, ?_, hD⟩
  have : es = (es0.toList.map (WideElems.rg Try.prog 27 pdE)).foldr DataW.insert [] := by simpa using hD
  rw [this, length_sorted]
  simp
theorem PM.store (h : PM w b m) (hn : m.length < maxLen) (hs : s < 18446744073709551616) (g : Pd) : ∃ w', (Instr.mapUpdate 46 (.map (some b)) (.int .u64 (s : Int)) (pdV g)).run Try.prog w = .ok () w' ∧ PM w' b ((s, g) :: pdel m s) ∧ Touch (· = b) w w' := by
  obtain ⟨es, h1, h2⟩ := h.ex
  obtain ⟨w', hrun, o, t⟩ := h1.store pkeyed Try.underlying46 hn (keyOf_int_mk Try.underlying27 (u64_wf hs)) (pdE_mk g)
  refine ⟨w', hrun, ⟨⟨ChangeMaps.putKey (.int .u64 (s : Nat)) (pdD g) es, ?_, ?_⟩, ?_⟩, pturned t⟩
  · rw [DataW.put_eq] at o
    have := prebound o
    have e : (ChangeMaps.putKey (.int .u64 (s : Nat)) (pdD g) es).length = ((s, g) :: pdel m s).length := by
      unfold ChangeMaps.putKey
      rw [length_insert, (pes_filter h.apart h2 s).length_eq, List.length_map, List.length_cons]
    rw [e] at this
    exact this
  · unfold ChangeMaps.putKey
    refine (WideShapes.insert_perm _ _).trans ?_
    rw [List.map_cons]
    exact (pes_filter h.apart h2 s).cons _
  · exact List.pairwise_cons.2 ⟨fun q hq => Ne.symm (pdel_not hq).2, h.apart.filter _⟩
end
end Go.Proofs.Ytjocjnjdmmihnaa
