/-
  A script of layer 10, as it is read. No conditions beyond the reading.
-/
import Derived.Test.YtfpcocagifmpbaaRows
import Derived.Test.YtfpcocagifmpbaaTw10
import Derived.Deep.Slices
import Derived.ChangeArms
import Derived.ChangeSlices
import Derived.SizedLaws
namespace Go.Proofs.Ytfpcocagifmpbaa
open Go.RowKit Go.Deep Go.ChangeShapes
set_option linter.unusedVariables false

set_option maxRecDepth 100000 in
theorem cells10_int : Try.prog.cellsOf 3 = 1 := by kernel_rfl
set_option maxRecDepth 100000 in
theorem cells10_op : Try.prog.cellsOf 31 = 3 := by kernel_rfl
set_option maxRecDepth 100000 in
theorem bytes10_op : Try.prog.bytesOf 31 = 24 := by kernel_rfl

def Op10.cells (o : Op10) : List Value := [.int .i64 o.k, .int .i64 o.e, .int .i64 o.a]
structure Op10.In (o : Op10) : Prop where
  e1 : -9223372036854775808 ≤ o.e
  e2 : o.e ≤ 9223372036854775807
  a1 : -9223372036854775808 ≤ o.a
  a2 : o.a ≤ 9223372036854775807
/-- What is told of a script. -/
def OpsAt (w : World) (a : Option Addr) (os : List Op10) : Prop :=
  ∀ i (hi : i < os.length), (∃ b off, a = some ⟨b, off, none⟩ ∧ b < w.heap.size ∧ ∀ j, j < 3 → w.cell? ⟨b, off + i * 3 + j, none⟩ = (os[i]).cells[j]?) ∧ (os[i]).In
section
variable {H : Type} {enc_ : TypeId × Value → H} {w : World} {base : Nat} {held : Bool}
set_option maxRecDepth 100000 in
theorem op10_open {fuel : Nat} {cs : List Value} {x : DataW H × List MemPlace} (h : DataW.trod enc_ Try.prog w base (fun _ => true) held fuel 31 cs = some x) :
    ∃ o : Op10, cs = o.cells ∧ o.In := by
  obtain ⟨xs, n, _, rfl, hlen, hxl, hf⟩ := DataW.trod_struct Try.underlying31 h
  rw [cells10_op] at hlen
  match xs, hxl, cs, hlen with
  | [y0, y1, y2], _, [c0, c1, c2], _ =>
    have g0 := hf 0 _ rfl
    have g1 := hf 1 _ rfl
    have g2 := hf 2 _ rfl
    simp [cells10_int] at g0 g1 g2
    obtain ⟨v0, e0, _, b0⟩ := DataW.trod_int Try.underlying3 g0
    obtain ⟨v1, e1, _, b1⟩ := DataW.trod_int Try.underlying3 g1
    obtain ⟨v2, e2, _, b2⟩ := DataW.trod_int Try.underlying3 g2
    cases e0
    cases e1
    cases e2
    have B1 := bounds_i64 b1
    have B2 := bounds_i64 b2
    exact ⟨⟨v0, v1, v2⟩, rfl, ⟨B1.1, by show v1 ≤ _; omega, B2.1, by show v2 ≤ _; omega⟩⟩
theorem ops10_read {fuel : Nat} {c : Value} {x : DataW H × List MemPlace} (h : DataW.trod enc_ Try.prog w base (fun _ => true) held fuel 22 [c] = some x) (hs : ∀ n ∈ x.1.weights Try.prog 22, n ≤ reachBytes) :
    ∃ (os : List Op10) (a : Option Addr) (cap : Nat), c = .slice a os.length cap ∧ OpsAt w a os ∧ os.length * 24 ≤ reachBytes := by
  rcases open_slice Try.underlying22 h with ⟨hcs, hx⟩ | ⟨a', len, cap, m, n, D, Pl, hcs, _, hl, hm, hmm, rfl, hel⟩
  · cases hcs
    exact ⟨[], none, 0, rfl, (fun i hi => by cases hi), by simp⟩
  · cases hcs
    have hmc : m = cap := by simpa using hmm
    have hs1 : len * 24 ≤ reachBytes := by
      have := hs _ (by simp only [DataW.weights, Try.underlying22]; exact List.mem_cons_self ..)
      rw [bytes10_op] at this
      simp only [List.length_map, List.length_range, Nat.add_mul] at this
      omega
    have each : ∀ i, i < len → ∃ q : Op10, (∃ b off, a' = ⟨b, off, none⟩ ∧ b < w.heap.size ∧ ∀ j, j < 3 → w.cell? ⟨b, off + i * 3 + j, none⟩ = q.cells[j]?) ∧ q.In := by
      intro i hi
      obtain ⟨cs', h1, h2⟩ := hel i (by omega)
      rw [cells10_op] at h1
      obtain ⟨_, hlen, hcell⟩ := World.cells?_some h1
      obtain ⟨q, e1, e2⟩ := op10_open h2
      subst e1
      refine ⟨q, ?_, e2⟩
      obtain ⟨b, off, spot⟩ := a'
      have h00 := hcell 0 (by omega)
      have hspot : spot = none := by
        obtain ⟨cs0, f1, f2⟩ := hel 0 (by omega)
        rw [cells10_op] at f1
        obtain ⟨_, _, fcell⟩ := World.cells?_some f1
        obtain ⟨q0, g1, _⟩ := op10_open f2
        subst g1
        have := World.cell?_spot (a := (Addr.add ⟨b, off, spot⟩ (0 * 3)).add 0) (v := .int .i64 q0.k) (by rw [fcell 0 (by omega)]; rfl)
        simpa [Addr.add] using this
      subst hspot
      have hadd : ∀ j, (Addr.add ⟨b, off, none⟩ (i * 3)).add j = ⟨b, off + i * 3 + j, none⟩ := fun j => by rw [addr_add, addr_add]
      refine ⟨b, off, rfl, ?_, fun j hj => ?_⟩
      · have := h00
        rw [hadd 0] at this
        exact lt_of_cell (a := ⟨b, off + i * 3 + 0, none⟩) (v := .int .i64 q.k) (by rw [this]; rfl)
      · have := hcell j (by omega)
        rw [hadd j] at this
        exact this
    obtain ⟨q, hq⟩ := choose_lt (α := Op10) (n := len) (p := fun i q => (∃ b off, a' = ⟨b, off, none⟩ ∧ b < w.heap.size ∧ ∀ j, j < 3 → w.cell? ⟨b, off + i * 3 + j, none⟩ = q.cells[j]?) ∧ q.In) each
    refine ⟨(List.range len).map q, some a', cap, by simp, fun i hi => ?_, by simpa using hs1⟩
    have hi' : i < len := by simpa using hi
    obtain ⟨⟨b, off, e1, e2, e3⟩, e4⟩ := hq i hi'
    simp only [List.getElem_map, List.getElem_range]
    exact ⟨⟨b, off, by rw [e1], e2, e3⟩, e4⟩
end
end Go.Proofs.Ytfpcocagifmpbaa
