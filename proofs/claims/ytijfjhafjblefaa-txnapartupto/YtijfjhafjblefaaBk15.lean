/-
  Records and rows of these as they are read, with how much they hold at most. No conditions beyond the reading.
-/
import Derived.Test.YtijfjhafjblefaaPay15
namespace Go.Proofs.Ytijfjhafjblefaa
open Go.RowKit Go.Deep Go.ChangeShapes
set_option linter.unusedVariables false

theorem bulk_one {H : Type} (d : DataW H) : 1 ≤ Rows.uptoBulk d := by
  cases d with
  | lit l => cases l <;> simp [Rows.uptoBulk]
  | nil => simp [Rows.uptoBulk]
  | ptr d => simp [Rows.uptoBulk]
  | slice elems spare => simp [Rows.uptoBulk]
  | agg parts => simp [Rows.uptoBulk]
  | iface t d => simp [Rows.uptoBulk]
  | map entries => simp [Rows.uptoBulk]
  | held h => simp [Rows.uptoBulk]
theorem bulk_part {H : Type} {d : DataW H} {l : List (DataW H)} (h : d ∈ l) : Rows.uptoBulk d ≤ Rows.uptoBulkAll l := by
  induction l with
  | nil => cases h
  | cons x r ih =>
    simp only [Rows.uptoBulkAll]
    cases List.mem_cons.1 h with
    | inl e => subst e; omega
    | inr e => have := ih e; omega
theorem bulk_len {H : Type} (l : List (DataW H)) : l.length ≤ Rows.uptoBulkAll l := by
  induction l with
  | nil => simp [Rows.uptoBulkAll]
  | cons x r ih => have := bulk_one x; simp only [Rows.uptoBulkAll, List.length_cons]; omega

section
variable {H : Type} {enc_ : TypeId × Value → H} {w : World} {base : Nat} {held : Bool}

theorem rows_bulk {α : Type} [Inhabited α] (cells : α → List Value) (sz : Nat) (In : α → Prop) (len_ : α → Nat) (tE tS : TypeId) (hU : Try.prog.underlying tS = some (.slice tE)) (hC : Try.prog.cellsOf tE = sz) (h0 : 0 < sz) (hlen : ∀ o, (cells o).length = sz)
    (hopen : ∀ {fuel : Nat} {cs : List Value} {x : DataW H × List MemPlace}, DataW.trod enc_ Try.prog w base (fun _ => true) held fuel tE cs = some x → ∃ o, cs = cells o ∧ In o ∧ len_ o ≤ Rows.uptoBulk x.1)
    {fuel : Nat} {c : Value} {x : DataW H × List MemPlace} (h : DataW.trod enc_ Try.prog w base (fun _ => true) held fuel tS [c] = some x) :
    ∃ (os : List α) (a : Option Addr) (cap : Nat), c = .slice a os.length cap ∧ os.length ≤ Rows.uptoBulk x.1 ∧ RowsAt cells sz w a os ∧ ∀ o ∈ os, In o ∧ len_ o ≤ Rows.uptoBulk x.1 := by
  rcases open_slice hU h with ⟨hcs, hx⟩ | ⟨a', len, cap, m, n, D, Pl, hcs, _, hl, hm, hmm, rfl, hel⟩
  · cases hcs
    exact ⟨[], none, 0, rfl, Nat.zero_le _, (fun i hi => by cases hi), (fun o ho => by cases ho)⟩
  · cases hcs
    have hmc : m = cap := by simpa using hmm
    have hb1 : len ≤ Rows.uptoBulk (DataW.slice ((List.range len).map D) ((List.range (m - len)).map fun i => D (len + i))) := by
      simp only [Rows.uptoBulk]
      have := bulk_len (H := H) ((List.range len).map D)
      simp only [List.length_map, List.length_range] at this
      omega
    have hb2 : ∀ i, i < len → Rows.uptoBulk (D i) ≤ Rows.uptoBulk (DataW.slice ((List.range len).map D) ((List.range (m - len)).map fun i => D (len + i))) := fun i hi => by
      simp only [Rows.uptoBulk]
      have := bulk_part (H := H) (d := D i) (l := (List.range len).map D) (List.mem_map.2 ⟨i, List.mem_range.2 hi, rfl⟩)
      omega
    have each : ∀ i, i < len → ∃ q : α, (∃ b off, a' = ⟨b, off, none⟩ ∧ b < w.heap.size ∧ ∀ j, j < sz → w.cell? ⟨b, off + i * sz + j, none⟩ = (cells q)[j]?) ∧ In q ∧ len_ q ≤ Rows.uptoBulk (D i) := by
      intro i hi
      obtain ⟨cs', h1, h2⟩ := hel i (by omega)
      rw [hC] at h1
      obtain ⟨_, _, hcell⟩ := World.cells?_some h1
      obtain ⟨q, e1, e2, e3⟩ := hopen h2
      subst e1
      refine ⟨q, ?_, e2, e3⟩
      obtain ⟨b, off, spot⟩ := a'
      have h00 := hcell 0 (by omega)
      have some_at : ∀ (q : α), ∃ u, (cells q)[0]? = some u := fun q => ⟨_, List.getElem?_eq_getElem (by rw [hlen]; exact h0)⟩
      have hspot : spot = none := by
        obtain ⟨cs0, f1, f2⟩ := hel 0 (by omega)
        rw [hC] at f1
        obtain ⟨_, _, fcell⟩ := World.cells?_some f1
        obtain ⟨q0, g1, _⟩ := hopen f2
        subst g1
        obtain ⟨u, hu⟩ := some_at q0
        have := World.cell?_spot (a := (Addr.add ⟨b, off, spot⟩ (0 * sz)).add 0) (v := u) (by rw [fcell 0 (by omega)]; exact hu)
        simpa [Addr.add] using this
      subst hspot
      have hadd : ∀ j, (Addr.add ⟨b, off, none⟩ (i * sz)).add j = ⟨b, off + i * sz + j, none⟩ := fun j => by rw [addr_add, addr_add]
      refine ⟨b, off, rfl, ?_, fun j hj => ?_⟩
      · obtain ⟨u, hu⟩ := some_at q
        have := h00
        rw [hadd 0, hu] at this
        exact lt_of_cell (a := ⟨b, off + i * sz + 0, none⟩) (v := u) this
      · have := hcell j (by omega)
        rw [hadd j] at this
        exact this
    obtain ⟨q, hq⟩ := choose_lt (α := α) (n := len) (p := fun i q => (∃ b off, a' = ⟨b, off, none⟩ ∧ b < w.heap.size ∧ ∀ j, j < sz → w.cell? ⟨b, off + i * sz + j, none⟩ = (cells q)[j]?) ∧ In q ∧ len_ q ≤ Rows.uptoBulk (D i)) each
    refine ⟨(List.range len).map q, some a', cap, by simp, by simpa using hb1, fun i hi => ?_, fun o ho => ?_⟩
    · have hi' : i < len := by simpa using hi
      obtain ⟨⟨b, off, e1, e2, e3⟩, e4⟩ := hq i hi'
      simp only [List.getElem_map, List.getElem_range]
      exact ⟨b, off, by rw [e1], e2, e3⟩
    · obtain ⟨i, hi, rfl⟩ := List.mem_map.1 ho
      have hi' := List.mem_range.1 hi
      exact ⟨(hq i hi').2.1, Nat.le_trans (hq i hi').2.2 (hb2 i hi')⟩

/-- A slice of ints. -/
theorem ints_bulk {fuel : Nat} {c : Value} {x : DataW H × List MemPlace} (h : DataW.trod enc_ Try.prog w base (fun _ => true) held fuel 23 [c] = some x) :
    ∃ (l : List Int) (a : Option Addr) (cap : Nat), c = .slice a l.length cap ∧ IAt w a l ∧ (a = none → cap = 0) ∧ l.length + 1 ≤ Rows.uptoBulk x.1 := by
  rcases open_ints Try.underlying23 Try.underlying3 cells13_int h with ⟨hcs, hx⟩ | ⟨a, l, cap, zs, hcs, _, hl, hm, hz, hx, hcell, hwz⟩
  · cases hcs
    exact ⟨[], none, 0, rfl, (fun i hi => by cases hi), fun _ => rfl, by rw [hx]; simp [Rows.uptoBulk]⟩
  · cases hcs
    have hz' : zs.length = cap := by simpa using hz
    have hR := RowOf.of (k := .i64) (cap := cap) (len := l) (zs := zs) (.inr ⟨_, rfl, hl, hm, hz', hcell, hwz⟩)
    obtain ⟨ls, e1, e2, e3⟩ := hR.1.ints
    subst e1
    refine ⟨ls, some a, cap, rfl, e2, (fun h => by cases h), ?_⟩
    rw [hx]
    simp only [Rows.uptoBulk]
    have := bulk_len (H := H) (lits .i64 (zs.take ls.length))
    simp only [lits, List.length_map, List.length_take] at this ⊢
    omega
structure RSm (w : World) (g : Rg) : Prop where
  at_ : IAt w g.a g.r.ps
  cap : g.a = none → g.k = 0
  tx : I64 g.r.tx
set_option maxRecDepth 100000 in
theorem rec_bulk {fuel : Nat} {cs : List Value} {x : DataW H × List MemPlace} (h : DataW.trod enc_ Try.prog w base (fun _ => true) held fuel 25 cs = some x) :
    ∃ g : Rg, cs = rgL g ∧ RSm w g ∧ g.r.ps.length ≤ Rows.uptoBulk x.1 := by
  obtain ⟨xs, n, _, rfl, hlen, hxl, hf⟩ := DataW.trod_struct Try.underlying25 h
  rw [cells15_rec] at hlen
  match xs, hxl, cs, hlen with
  | [y0, y1, y2, y3, y4, y5, y6], _, [c0, c1, c2, c3, c4, c5, c6], _ =>
    have g0 := hf 0 _ rfl
    have g1 := hf 1 _ rfl
    have g2 := hf 2 _ rfl
    have g3 := hf 3 _ rfl
    have g4 := hf 4 _ rfl
    have g5 := hf 5 _ rfl
    have g6 := hf 6 _ rfl
    simp [cells13_int, cells13_sl, cells15_u64, cells15_bool] at g0 g1 g2 g3 g4 g5 g6
    obtain ⟨v0, e0, _, b0⟩ := DataW.trod_int Try.underlying3 g0
    obtain ⟨v1, e1, _, b1⟩ := DataW.trod_int Try.underlying3 g1
    obtain ⟨v2, e2, _, b2⟩ := DataW.trod_int Try.underlying3 g2
    obtain ⟨v3, e3, _, b3⟩ := DataW.trod_int Try.underlying22 g3
    obtain ⟨v4, e4, _, b4⟩ := DataW.trod_int Try.underlying3 g4
    obtain ⟨v6, e6, _⟩ := DataW.trod_bool Try.underlying4 g6
    obtain ⟨l, a, cap, e5, r5, n5, u5⟩ := ints_bulk g5
    cases e0
    cases e1
    cases e2
    cases e3
    cases e4
    cases e6
    subst e5
    have B1 := bounds_i64 b1
    refine ⟨⟨⟨v0, v1, v2, v3, v4, l, v6⟩, a, cap⟩, rfl, ⟨r5, n5, ⟨B1.1, by show v1 ≤ _; omega⟩⟩, ?_⟩
    simp only [Rows.uptoBulk, List.map_cons, List.map_nil, Rows.uptoBulkAll]
    show l.length ≤ _
    omega
theorem recs_bulk {fuel : Nat} {c : Value} {x : DataW H × List MemPlace} (h : DataW.trod enc_ Try.prog w base (fun _ => true) held fuel 44 [c] = some x) :
    ∃ (gs : List Rg) (a : Option Addr) (cap : Nat), c = .slice a gs.length cap ∧ gs.length ≤ Rows.uptoBulk x.1 ∧ RowsAt rgL 7 w a gs ∧ ∀ g ∈ gs, RSm w g ∧ g.r.ps.length ≤ Rows.uptoBulk x.1 :=
  rows_bulk rgL 7 (RSm w) (fun g => g.r.ps.length) 25 44 Try.underlying44 cells15_rec (by omega) (fun _ => rfl) (fun h => rec_bulk h) h
end
end Go.Proofs.Ytijfjhafjblefaa
