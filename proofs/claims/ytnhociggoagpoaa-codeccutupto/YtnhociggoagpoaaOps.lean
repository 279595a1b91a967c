/-
  A list of Ops, as it is read: the six cells of each, what its slices hold, and how much it holds at most. No conditions beyond the reading.
-/
import Derived.Test.YtnhociggoagpoaaRows
import Derived.Test.YtnhociggoagpoaaLay3
import Derived.Test.YtnhociggoagpoaaCodecTakesWalk
import Derived.Deep.Slices
import Derived.ChangeArms
import Derived.ChangeSlices
namespace Go.Proofs.Ytnhociggoagpoaa
open Go.RowKit Go.Deep Go.ChangeShapes
set_option linter.unusedVariables false

theorem bulk_one {H : Type} (d : DataW H) : 1 ≤ Rows.uptoBulk d := by
  cases d with
  | lit l => cases l <;> simp [Rows.uptoBulk]
  | nil => simp [Rows.uptoBulk]
  | ptr d => simp [Rows.uptoBulk]
  | slice elems spare => simp [Rows.uptoBulk]
  | agg parts => simp [Rows.uptoBulk]
  | iface t d => simp [Rows.uptoBulk]
  | map entries => simp [Rows.uptoBulk]
  | held h => simp [Rows.uptoBulk]
theorem bulk_part {H : Type} {d : DataW H} {l : List (DataW H)} (h : d ∈ l) : Rows.uptoBulk d ≤ Rows.uptoBulkAll l := by
  induction l with
  | nil => cases h
  | cons x r ih =>
    simp only [Rows.uptoBulkAll]
    cases List.mem_cons.1 h with
    | inl e => subst e; omega
    | inr e => have := ih e; omega
theorem bulk_len {H : Type} (l : List (DataW H)) : l.length ≤ Rows.uptoBulkAll l := by
  induction l with
  | nil => simp [Rows.uptoBulkAll]
  | cons x r ih => have := bulk_one x; simp only [Rows.uptoBulkAll, List.length_cons]; omega

theorem cells_one : Try.prog.cellsOf 3 = 1 ∧ Try.prog.cellsOf 27 = 1 ∧ Try.prog.cellsOf 4 = 1 ∧ Try.prog.cellsOf 26 = 1 ∧ Try.prog.cellsOf 28 = 1 ∧ Try.prog.cellsOf 5 = 1 ∧ Try.prog.cellsOf 30 = 6 := by
  refine ⟨?_, ?_, ?_, ?_, ?_, ?_, ?_⟩ <;> kernel_rfl

section
variable {H : Type} {enc_ : TypeId × Value → H} {w : World} {base : Nat} {held : Bool}

/-- A slice of bytes among an Op's cells. -/
theorem bytes_cell {fuel : Nat} {c : Value} {x : DataW H × List MemPlace} (h : DataW.trod enc_ Try.prog w base (fun _ => true) held fuel 26 [c] = some x) :
    ∃ (l : List Nat) (a : Option Addr) (cap : Nat), c = .slice a l.length cap ∧ LAt w a l ∧ (a = none → cap = 0) ∧ l.length ≤ cap ∧ l.length + 1 ≤ Rows.uptoBulk x.1 := by
  rcases open_ints Try.underlying26 Try.underlying5 cells_one.2.2.2.2.2.1 h with ⟨hcs, hx⟩ | ⟨a, l, cap, zs, hcs, _, hl, hm, hz, hx, hcell, hwz⟩
  · cases hcs
    exact ⟨[], none, 0, rfl, (fun i hi => by cases hi), fun _ => rfl, Nat.le_refl _, by rw [hx]; simp [Rows.uptoBulk]⟩
  · cases hcs
    have hz' : zs.length = cap := by simpa using hz
    have hR := RowOf.of (k := .u8) (cap := cap) (len := l) (zs := zs) (.inr ⟨_, rfl, hl, hm, hz', hcell, hwz⟩)
    obtain ⟨bs, e1, e2⟩ := hR.1.bytes.list
    subst e1
    refine ⟨bs, some a, cap, rfl, e2, (fun h => by cases h), hl, ?_⟩
    rw [hx]
    simp only [Rows.uptoBulk]
    have := bulk_len (H := H) (lits .u8 (zs.take bs.length))
    simp only [lits, List.length_map, List.length_take] at this ⊢
    omega
/-- A slice of ints among an Op's cells. -/
theorem ints_cell {fuel : Nat} {c : Value} {x : DataW H × List MemPlace} (h : DataW.trod enc_ Try.prog w base (fun _ => true) held fuel 28 [c] = some x) :
    ∃ (l : List Int) (a : Option Addr) (cap : Nat), c = .slice a l.length cap ∧ IAt w a l ∧ (∀ x ∈ l, -9223372036854775808 ≤ x ∧ x < 9223372036854775808) ∧ l.length + 1 ≤ Rows.uptoBulk x.1 := by
  rcases open_ints Try.underlying28 Try.underlying3 cells_one.1 h with ⟨hcs, hx⟩ | ⟨a, l, cap, zs, hcs, _, hl, hm, hz, hx, hcell, hwz⟩
  · cases hcs
    exact ⟨[], none, 0, rfl, (fun i hi => by cases hi), (fun x hx => by cases hx), by rw [hx]; simp [Rows.uptoBulk]⟩
  · cases hcs
    have hz' : zs.length = cap := by simpa using hz
    have hR := RowOf.of (k := .i64) (cap := cap) (len := l) (zs := zs) (.inr ⟨_, rfl, hl, hm, hz', hcell, hwz⟩)
    obtain ⟨ls, e1, e2, e3⟩ := hR.1.ints
    subst e1
    refine ⟨ls, some a, cap, rfl, e2, e3, ?_⟩
    rw [hx]
    simp only [Rows.uptoBulk]
    have := bulk_len (H := H) (lits .i64 (zs.take ls.length))
    simp only [lits, List.length_map, List.length_take] at this ⊢
    omega

/-- An Op's cells. -/
structure OpIs where
  o : OpV
  aB : Option Addr
  cB : Nat
  aL : Option Addr
  cL : Nat
def OpIs.cells (q : OpIs) : List Value := [.int .i64 q.o.kind, .int .u64 (q.o.n : Nat), .int .i64 q.o.i, .bool q.o.is, .slice q.aB q.o.bs.length q.cB, .slice q.aL q.o.ls.length q.cL]

theorem op_open {fuel : Nat} {cs : List Value} {x : DataW H × List MemPlace} (h : DataW.trod enc_ Try.prog w base (fun _ => true) held fuel 30 cs = some x) :
    ∃ q : OpIs, cs = q.cells ∧ OpIn w q.o q.aB q.cB q.aL q.cL ∧ q.o.bs.length + 1 ≤ Rows.uptoBulk x.1 ∧ q.o.ls.length + 1 ≤ Rows.uptoBulk x.1 := by
  obtain ⟨xs, n, _, rfl, hlen, hxl, hf⟩ := DataW.trod_struct Try.underlying30 h
  obtain ⟨k1, k2, k3, k4, k5, k6, k7⟩ := cells_one
  rw [k7] at hlen
  match xs, hxl, cs, hlen with
  | [y0, y1, y2, y3, y4, y5], _, [c0, c1, c2, c3, c4, c5], _ =>
    have g0 := hf 0 _ rfl
    have g1 := hf 1 _ rfl
    have g2 := hf 2 _ rfl
    have g3 := hf 3 _ rfl
    have g4 := hf 4 _ rfl
    have g5 := hf 5 _ rfl
    simp [k1, k2, k3, k4, k5] at g0 g1 g2 g3 g4 g5
    obtain ⟨v0, e0, _, b0⟩ := DataW.trod_int Try.underlying3 g0
    obtain ⟨v1, e1, _, b1⟩ := DataW.trod_int Try.underlying27 g1
    obtain ⟨v2, e2, _, b2⟩ := DataW.trod_int Try.underlying3 g2
    obtain ⟨v3, e3, _⟩ := DataW.trod_bool Try.underlying4 g3
    obtain ⟨bs, aB, cB, e4, l4, n4, _, u4⟩ := bytes_cell g4
    obtain ⟨ls, aL, cL, e5, l5, f5, u5⟩ := ints_cell g5
    cases e0
    cases e1
    cases e2
    cases e3
    subst e4
    subst e5
    have B1 := bounds_u64 b1
    have B2 := bounds_i64 b2
    obtain ⟨m, rfl⟩ := Int.eq_ofNat_of_zero_le B1.1
    refine ⟨⟨⟨v0, m, v2, v3, bs, ls⟩, aB, cB, aL, cL⟩, rfl, ⟨⟨?_, ?_, ?_, l4.bytes, f5⟩, l4, l5, n4⟩, ?_, ?_⟩
    · show m < _; omega
    · exact B2.1
    · show v2 < _; omega
    · simp only [Rows.uptoBulk, List.map_cons, List.map_nil, Rows.uptoBulkAll]
      show bs.length + 1 ≤ _
      omega
    · simp only [Rows.uptoBulk, List.map_cons, List.map_nil, Rows.uptoBulkAll]
      show ls.length + 1 ≤ _
      omega

/-- What is told of a list of Ops. -/
def OpsAt (w : World) (a : Option Addr) (len : Nat) (q : Nat → OpIs) : Prop :=
  ∀ i, i < len → ∃ b off, a = some ⟨b, off, none⟩ ∧ b < w.heap.size ∧ ∀ j, j < 6 → w.cell? ⟨b, off + i * 6 + j, none⟩ = (q i).cells[j]?

theorem ops_open {fuel : Nat} {a : Option Addr} {len cap : Nat} {x : DataW H × List MemPlace} (h : DataW.trod enc_ Try.prog w base (fun _ => true) held fuel 22 [.slice a len cap] = some x) :
    ∃ q : Nat → OpIs, OpsAt w a len q ∧ len ≤ Rows.uptoBulk x.1 ∧ ∀ i, i < len → OpIn w (q i).o (q i).aB (q i).cB (q i).aL (q i).cL ∧ (q i).o.bs.length ≤ Rows.uptoBulk x.1 ∧ (q i).o.ls.length ≤ Rows.uptoBulk x.1 := by
  rcases open_slice Try.underlying22 h with ⟨hcs, hx⟩ | ⟨a', len', cap', m, n, D, Pl, hcs, _, hl, hm, hmm, rfl, hel⟩
  · cases hcs
    exact ⟨fun _ => ⟨⟨0, 0, 0, false, [], []⟩, none, 0, none, 0⟩, (fun i hi => by omega), Nat.zero_le _, fun i hi => by omega⟩
  · cases hcs
    have hmc : m = cap := by simpa using hmm
    have each : ∀ i, i < len → ∃ q : OpIs, (∃ b off, a' = ⟨b, off, none⟩ ∧ b < w.heap.size ∧ ∀ j, j < 6 → w.cell? ⟨b, off + i * 6 + j, none⟩ = q.cells[j]?) ∧ OpIn w q.o q.aB q.cB q.aL q.cL ∧ q.o.bs.length + 1 ≤ Rows.uptoBulk (D i) ∧ q.o.ls.length + 1 ≤ Rows.uptoBulk (D i) := by
      intro i hi
      obtain ⟨cs', h1, h2⟩ := hel i (by omega)
      rw [cells_one.2.2.2.2.2.2] at h1
      obtain ⟨_, hlen, hcell⟩ := World.cells?_some h1
      obtain ⟨q, e1, e2, e3, e4⟩ := op_open h2
      subst e1
      refine ⟨q, ?_, e2, e3, e4⟩
      obtain ⟨b, off, spot⟩ := a'
      have h00 := hcell 0 (by omega)
      have hspot : spot = none := by
        obtain ⟨cs0, f1, f2⟩ := hel 0 (by omega)
        rw [cells_one.2.2.2.2.2.2] at f1
        obtain ⟨_, _, fcell⟩ := World.cells?_some f1
        obtain ⟨q0, g1, _⟩ := op_open f2
        subst g1
        have := World.cell?_spot (a := (Addr.add ⟨b, off, spot⟩ (0 * 6)).add 0) (v := .int .i64 q0.o.kind) (by rw [fcell 0 (by omega)]; rfl)
        simpa [Addr.add] using this
      subst hspot
      have hadd : ∀ j, (Addr.add ⟨b, off, none⟩ (i * 6)).add j = ⟨b, off + i * 6 + j, none⟩ := by
        intro j
        have e1 : Addr.add ⟨b, off, none⟩ (i * 6) = ⟨b, off + i * 6, none⟩ := by
          unfold Addr.add; split
          · rename_i h0; rw [h0]; rfl
          · rfl
        rw [e1]
        unfold Addr.add; split
        · rename_i h0; subst h0; rfl
        · rfl
      refine ⟨b, off, rfl, ?_, fun j hj => ?_⟩
      · have := h00
        rw [hadd 0] at this
        exact lt_of_cell (a := ⟨b, off + i * 6 + 0, none⟩) (v := .int .i64 q.o.kind) (by rw [this]; rfl)
      · have := hcell j (by omega)
        rw [hadd j] at this
        exact this
    have hch : ∃ q : Nat → OpIs, ∀ i, i < len → (∃ b off, a' = ⟨b, off, none⟩ ∧ b < w.heap.size ∧ ∀ j, j < 6 → w.cell? ⟨b, off + i * 6 + j, none⟩ = (q i).cells[j]?) ∧ OpIn w (q i).o (q i).aB (q i).cB (q i).aL (q i).cL ∧ (q i).o.bs.length + 1 ≤ Rows.uptoBulk (D i) ∧ (q i).o.ls.length + 1 ≤ Rows.uptoBulk (D i) := by
      refine ⟨fun i => if hi : i < len then (each i hi).choose else ⟨⟨0, 0, 0, false, [], []⟩, none, 0, none, 0⟩, fun i hi => ?_⟩
      simp only [dif_pos hi]
      exact (each i hi).choose_spec
    obtain ⟨q, hq⟩ := hch
    have hbulk : ∀ i, i < len → Rows.uptoBulk (D i) ≤ Rows.uptoBulkAll ((List.range len).map D) := fun i hi => bulk_part (List.mem_map.2 ⟨i, List.mem_range.2 hi, rfl⟩)
    have hlb := bulk_len ((List.range len).map D)
    rw [List.length_map, List.length_range] at hlb
    refine ⟨q, fun i hi => ?_, ?_, fun i hi => ?_⟩
    · obtain ⟨⟨b, off, e, h1, h2⟩, _⟩ := hq i hi
      exact ⟨b, off, by rw [e], h1, h2⟩
    · simp only [Rows.uptoBulk]; omega
    · obtain ⟨_, h2, h3, h4⟩ := hq i hi
      have := hbulk i hi
      refine ⟨h2, ?_, ?_⟩ <;> simp only [Rows.uptoBulk] <;> omega
end
end Go.Proofs.Ytnhociggoagpoaa
