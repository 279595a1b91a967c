/-
  A slice of structs of two cells, as it is read: the two cells of each element, and how each of them reads. No conditions beyond the reading.
-/
import Derived.Test.YtbojiafnapcgnaaBase
import Derived.Deep.SlicePairs
import Derived.ChangeArms
namespace Go.Proofs.Ytbojiafnapcgnaa
open Go.RowKit Go.Deep

theorem addr_add_plain (b off i : Nat) : Addr.add ⟨b, off, none⟩ i = ⟨b, off + i, none⟩ := by
  unfold Addr.add
  split
  · rename_i h0; subst h0; rfl
  · rfl

theorem pairs_open {H : Type} {enc : TypeId × Value → H} {P : Program} {w : World} {base : Nat} {held : Bool} {t e : TypeId} {f0 f1 : Field} {fuel : Nat} {a : Option Addr} {len cap : Nat} {x : DataW H × List MemPlace}
    (ht : P.underlying t = some (.slice e)) (he : P.underlying e = some (.struct #[f0, f1])) (ce : P.cellsOf e = 2) (o0 : f0.offset = 0) (o1 : f1.offset = 1) (c0 : P.cellsOf f0.type = 1) (c1 : P.cellsOf f1.type = 1)
    (h : DataW.trod enc P w base (fun _ => true) held fuel t [.slice a len cap] = some x) :
    ∃ V0 V1 : Nat → Value, PairsOf w a len V0 V1 ∧ len ≤ maxLen ∧ ∀ i, i < len →
      (∃ n y, DataW.trod enc P w base (fun _ => true) held n f0.type [V0 i] = some y) ∧ (∃ n y, DataW.trod enc P w base (fun _ => true) held n f1.type [V1 i] = some y) := by
  rcases open_slice_pairs ht he ce o0 o1 c0 c1 h with ⟨hcs, _⟩ | ⟨a', len', cap', m, n, V0, V1, D0, D1, P0, P1, hcs, _, hl, hm, hmm, _, hx⟩
  · simp at hcs
    obtain ⟨rfl, rfl, rfl⟩ := hcs
    exact ⟨fun _ => .bool false, fun _ => .bool false, fun i hi => by omega, Nat.zero_le _, fun i hi => by omega⟩
  · simp at hcs
    obtain ⟨rfl, rfl, rfl⟩ := hcs
    have hmc : m = cap := by simpa using hmm
    refine ⟨V0, V1, fun i hi => ?_, by omega, fun i hi => ⟨⟨n, _, (hx i (by omega)).2.2.1⟩, ⟨n, _, (hx i (by omega)).2.2.2⟩⟩⟩
    obtain ⟨b, off, spot⟩ := a'
    have h0 := (hx 0 (by omega)).1
    have hspot : spot = none := by simpa [Addr.add] using World.cell?_spot h0
    subst hspot
    have hc := (hx i (by omega)).1
    have hd := (hx i (by omega)).2.1
    rw [addr_add_plain] at hc hd
    exact ⟨b, off, rfl, lt_of_cell hc, hc, hd⟩

def boolOf : Value → Bool | .bool q => q | _ => false

theorem PairsOf.as {w : World} {a : Option Addr} {len : Nat} {V0 V1 U0 U1 : Nat → Value} (h : PairsOf w a len V0 V1) (h0 : ∀ i, i < len → V0 i = U0 i) (h1 : ∀ i, i < len → V1 i = U1 i) : PairsOf w a len U0 U1 := by
  intro i hi
  obtain ⟨b, off, g1, g2, g3, g4⟩ := h i hi
  exact ⟨b, off, g1, g2, by rw [g3, h0 i hi], by rw [g4, h1 i hi]⟩
end Go.Proofs.Ytbojiafnapcgnaa
