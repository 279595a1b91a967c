/-
  What a group's State knows, as it lies: its two maps. Conditions: numbers are ints.
-/
import Derived.Test.YtfbnkeflgddcmaaMk0
import Derived.Test.YtfbnkeflgddcmaaGr1
namespace Go.Proofs.Ytfbnkeflgddcmaa
open Go.RowKit Go.Maps
set_option linter.unusedVariables false

/-- A team as it lies. -/
structure Tm where
  gen : Int
  g : Option Nat
  n : Nat
  c : Nat
  o0 : Int
  o1 : Int
  o2 : Int
  o3 : Int
abbrev tmC (p : Tm) : Array Value := #[.int .i64 p.gen, .slice (p.g.map (fun g => ⟨g, 0, none⟩)) p.n p.c, .int .i64 p.o0, .int .i64 p.o1, .int .i64 p.o2, .int .i64 p.o3]
abbrev tmV (p : Tm) : Value := .agg (tmC p)
def tm0 : Tm := ⟨0, none, 0, 0, 0, 0, 0, 0⟩
def tmD (p : Tm) : DataW Unit := .agg [.lit (.int .i64 p.gen), (match p.g with | none => .nil | some g => .lit (.int .u64 (g : Nat))), .lit (.int .u64 (p.n : Nat)), .lit (.int .u64 (p.c : Nat)), .lit (.int .i64 p.o0), .lit (.int .i64 p.o1), .lit (.int .i64 p.o2), .lit (.int .i64 p.o3)]
theorem tmD_inj (p q : Tm) (h : tmD p = tmD q) : p = q := by
  obtain ⟨a1, a2, a3, a4, a5, a6, a7, a8⟩ := p
  obtain ⟨b1, b2, b3, b4, b5, b6, b7, b8⟩ := q
  simp only [tmD, DataW.agg.injEq, List.cons.injEq, DataW.lit.injEq, Lit.int.injEq, true_and, and_true] at h
  obtain ⟨h1, h2, h3, h4, h5, h6, h7, h8⟩ := h
  have e2 : a2 = b2 := by
    cases a2 <;> cases b2 <;> simp at h2 <;> first | rfl | (congr 1; omega)
  have e3 : a3 = b3 := by omega
  have e4 : a4 = b4 := by omega
  rw [h1, e2, e3, e4, h5, h6, h7, h8]
def tmE (v : Value) : Option (DataW Unit × List MemPlace) := match v with
  | .agg cs => match cs.toList with
    | [.int .i64 a1, .slice none l c, .int .i64 a5, .int .i64 a6, .int .i64 a7, .int .i64 a8] => some (tmD ⟨a1, none, l, c, a5, a6, a7, a8⟩, [])
    | [.int .i64 a1, .slice (some ⟨g, 0, none⟩) l c, .int .i64 a5, .int .i64 a6, .int .i64 a7, .int .i64 a8] => some (tmD ⟨a1, some g, l, c, a5, a6, a7, a8⟩, [])
    | _ => none
  | _ => none
theorem tmE_mk (p : Tm) : tmE (tmV p) = some (tmD p, []) := by
  obtain ⟨a1, a2, a3, a4, a5, a6, a7, a8⟩ := p
  cases a2 <;> rfl
theorem tmE_inv (v : Value) (z : DataW Unit × List MemPlace) (h : tmE v = some z) : ∃ p, v = tmV p ∧ z = (tmD p, []) := by
  unfold tmE at h
  split at h
  · rename_i cs
    split at h
    · rename_i a1 l c a5 a6 a7 a8 hl
      cases h
      refine ⟨⟨a1, none, l, c, a5, a6, a7, a8⟩, ?_, rfl⟩
      have : cs = #[.int .i64 a1, .slice none l c, .int .i64 a5, .int .i64 a6, .int .i64 a7, .int .i64 a8] := Array.ext' hl
      rw [this]; rfl
    · rename_i a1 g l c a5 a6 a7 a8 hl
      cases h
      refine ⟨⟨a1, some g, l, c, a5, a6, a7, a8⟩, ?_, rfl⟩
      have : cs = #[.int .i64 a1, .slice (some ⟨g, 0, none⟩) l c, .int .i64 a5, .int .i64 a6, .int .i64 a7, .int .i64 a8] := Array.ext' hl
      rw [this]; rfl
    · cases h
  · cases h
theorem zero_tm (w : World) : (zeroValue 61).run Try.prog w = .ok (tmV tm0) w := by kernel_rfl
def gK : MK Tm := ⟨3, 49, 61, .i64, tmV, tmD, tmE, tm0, tmE_mk, tmE_inv, tmD_inj, Try.underlying3, Try.underlying49, zero_tm⟩
/-- A row as it lies. -/
structure Sl where
  g : Option Nat
  n : Nat
  c : Nat
abbrev slV (p : Sl) : Value := .slice (p.g.map (fun g => ⟨g, 0, none⟩)) p.n p.c
def sl0 : Sl := ⟨none, 0, 0⟩
def slD (p : Sl) : DataW Unit := .agg [(match p.g with | none => .nil | some g => .lit (.int .u64 (g : Nat))), .lit (.int .u64 (p.n : Nat)), .lit (.int .u64 (p.c : Nat))]
theorem slD_inj (p q : Sl) (h : slD p = slD q) : p = q := by
  obtain ⟨a2, a3, a4⟩ := p
  obtain ⟨b2, b3, b4⟩ := q
  simp only [slD, DataW.agg.injEq, List.cons.injEq, DataW.lit.injEq, Lit.int.injEq, true_and, and_true] at h
  obtain ⟨h2, h3, h4⟩ := h
  have e2 : a2 = b2 := by
    cases a2 <;> cases b2 <;> simp at h2 <;> first | rfl | (congr 1; omega)
  have e3 : a3 = b3 := by omega
  have e4 : a4 = b4 := by omega
  rw [e2, e3, e4]
def slE (v : Value) : Option (DataW Unit × List MemPlace) := match v with
  | .slice none l c => some (slD ⟨none, l, c⟩, [])
  | .slice (some ⟨g, 0, none⟩) l c => some (slD ⟨some g, l, c⟩, [])
  | _ => none
theorem slE_mk (p : Sl) : slE (slV p) = some (slD p, []) := by
  obtain ⟨a2, a3, a4⟩ := p
  cases a2 <;> rfl
theorem slE_inv (v : Value) (z : DataW Unit × List MemPlace) (h : slE v = some z) : ∃ p, v = slV p ∧ z = (slD p, []) := by
  unfold slE at h
  split at h
  · rename_i l c
    cases h
    exact ⟨⟨none, l, c⟩, rfl, rfl⟩
  · rename_i g l c
    cases h
    exact ⟨⟨some g, l, c⟩, rfl, rfl⟩
  · cases h
theorem zero_sl (w : World) : (zeroValue 40).run Try.prog w = .ok (slV sl0) w := by kernel_rfl
def wK : MK Sl := ⟨31, 50, 40, .u64, slV, slD, slE, sl0, slE_mk, slE_inv, slD_inj, Try.underlying31, Try.underlying50, zero_sl⟩
theorem wf_one : (Lit.int .i64 1).wf = true := by decide
theorem wf_pid {p : Int} (h : p = 1 ∨ p = 2) : (Lit.int .u64 p).wf = true := by rcases h with rfl | rfl <;> decide
end Go.Proofs.Ytfbnkeflgddcmaa
