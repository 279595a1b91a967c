/-
  A record, an Op, and rows of these, as they are read. No conditions beyond the reading and the sizes that the reach allows.
-/
import Derived.Test.YtfbnkeflgddcmaaRows
import Derived.Test.YtfbnkeflgddcmaaIl0
import Derived.Deep.Slices
import Derived.ChangeArms
import Derived.ChangeSlices
import Derived.SizedLaws
namespace Go.Proofs.Ytfbnkeflgddcmaa
open Go.RowKit Go.Deep Go.ChangeShapes
set_option linter.unusedVariables false

theorem RowOf.ints {w : World} {a : Option Addr} {len : Nat} {f : Nat → Int} (h : RowOf .i64 w a len f) : ∃ ls : List Int, ls.length = len ∧ IAt w a ls ∧ ∀ x ∈ ls, -9223372036854775808 ≤ x ∧ x < 9223372036854775808 := by
  refine ⟨(List.range len).map f, by simp, fun i hi => ?_, fun x hx => ?_⟩
  · have hi' : i < len := by simpa using hi
    obtain ⟨b, off, h1, h2, h3, _⟩ := h i hi'
    refine ⟨b, off, h1, h2, ?_⟩
    have e : ((List.range len).map f).getD i 0 = f i := by simp [List.getD, hi']
    rw [e]; exact h3
  · obtain ⟨i, hi, rfl⟩ := List.mem_map.1 hx
    obtain ⟨b, off, _, _, _, h4⟩ := h i (List.mem_range.1 hi)
    have := bounds_i64 h4
    omega
set_option maxRecDepth 100000 in
theorem cells13_int : Try.prog.cellsOf 3 = 1 := by kernel_rfl
set_option maxRecDepth 100000 in
theorem cells13_sl : Try.prog.cellsOf 27 = 1 := by kernel_rfl
set_option maxRecDepth 100000 in
theorem cells16_rec : Try.prog.cellsOf 29 = 6 := by kernel_rfl
set_option maxRecDepth 100000 in
theorem bytes13_int : Try.prog.bytesOf 3 = 8 := by kernel_rfl
set_option maxRecDepth 100000 in
theorem bytes16_rec : Try.prog.bytesOf 29 = 64 := by kernel_rfl

theorem mem_weightsAll {H : Type} {P : Program} {e : TypeId} {d : DataW H} {l : List (DataW H)} (hd : d ∈ l) {n : Nat} (hn : n ∈ d.weights P e) : n ∈ DataW.weightsAll P e l := by
  induction l with
  | nil => cases hd
  | cons x r ih =>
    simp only [DataW.weightsAll, List.mem_append]
    rcases List.mem_cons.1 hd with h | h
    · subst h; exact .inl hn
    · exact .inr (ih h)

/-- What is told of a slice of things of sz cells each. -/
def RowsAt {α : Type} (cells : α → List Value) (sz : Nat) (w : World) (a : Option Addr) (os : List α) : Prop :=
  ∀ i (hi : i < os.length), ∃ b off, a = some ⟨b, off, none⟩ ∧ b < w.heap.size ∧ ∀ j, j < sz → w.cell? ⟨b, off + i * sz + j, none⟩ = (cells os[i])[j]?

section
variable {H : Type} {enc_ : TypeId × Value → H} {w : World} {base : Nat} {held : Bool}

theorem rows_read {α : Type} [Inhabited α] (cells : α → List Value) (sz by_ : Nat) (In : α → Prop) (tE tS : TypeId) (hU : Try.prog.underlying tS = some (.slice tE)) (hC : Try.prog.cellsOf tE = sz) (hB : Try.prog.bytesOf tE = by_) (h0 : 0 < sz) (hlen : ∀ o, (cells o).length = sz)
    (hopen : ∀ {fuel : Nat} {cs : List Value} {x : DataW H × List MemPlace}, DataW.trod enc_ Try.prog w base (fun _ => true) held fuel tE cs = some x → (∀ n ∈ x.1.weights Try.prog tE, n ≤ reachBytes) → ∃ o, cs = cells o ∧ In o)
    {fuel : Nat} {c : Value} {x : DataW H × List MemPlace} (h : DataW.trod enc_ Try.prog w base (fun _ => true) held fuel tS [c] = some x) (hs : ∀ n ∈ x.1.weights Try.prog tS, n ≤ reachBytes) :
    ∃ (os : List α) (a : Option Addr) (cap : Nat), c = .slice a os.length cap ∧ os.length * by_ ≤ reachBytes ∧ RowsAt cells sz w a os ∧ ∀ o ∈ os, In o := by
  rcases open_slice hU h with ⟨hcs, hx⟩ | ⟨a', len, cap, m, n, D, Pl, hcs, _, hl, hm, hmm, rfl, hel⟩
  · cases hcs
    exact ⟨[], none, 0, rfl, by simp, (fun i hi => by cases hi), (fun o ho => by cases ho)⟩
  · cases hcs
    have hmc : m = cap := by simpa using hmm
    have hs1 : len * by_ ≤ reachBytes := by
      have := hs _ (by simp only [DataW.weights, hU]; exact List.mem_cons_self ..)
      rw [hB] at this
      simp only [List.length_map, List.length_range, Nat.add_mul] at this
      omega
    have hs2 : ∀ i, i < len → ∀ k ∈ (D i).weights Try.prog tE, k ≤ reachBytes := fun i hi k hk => by
      refine hs k ?_
      simp only [DataW.weights, hU]
      refine List.mem_cons_of_mem _ (List.mem_append_left _ (mem_weightsAll (d := D i) ?_ hk))
      exact List.mem_map.2 ⟨i, List.mem_range.2 hi, rfl⟩
    have each : ∀ i, i < len → ∃ q : α, (∃ b off, a' = ⟨b, off, none⟩ ∧ b < w.heap.size ∧ ∀ j, j < sz → w.cell? ⟨b, off + i * sz + j, none⟩ = (cells q)[j]?) ∧ In q := by
      intro i hi
      obtain ⟨cs', h1, h2⟩ := hel i (by omega)
      rw [hC] at h1
      obtain ⟨_, _, hcell⟩ := World.cells?_some h1
      obtain ⟨q, e1, e2⟩ := hopen h2 (hs2 i hi)
      subst e1
      refine ⟨q, ?_, e2⟩
      obtain ⟨b, off, spot⟩ := a'
      have h00 := hcell 0 (by omega)
      have some_at : ∀ (q : α), ∃ u, (cells q)[0]? = some u := fun q => ⟨_, List.getElem?_eq_getElem (by rw [hlen]; exact h0)⟩
      have hspot : spot = none := by
        obtain ⟨cs0, f1, f2⟩ := hel 0 (by omega)
        rw [hC] at f1
        obtain ⟨_, _, fcell⟩ := World.cells?_some f1
        obtain ⟨q0, g1, _⟩ := hopen f2 (hs2 0 (by omega))
        subst g1
        obtain ⟨u, hu⟩ := some_at q0
        have := World.cell?_spot (a := (Addr.add ⟨b, off, spot⟩ (0 * sz)).add 0) (v := u) (by rw [fcell 0 (by omega)]; exact hu)
        simpa [Addr.add] using this
      subst hspot
      have hadd : ∀ j, (Addr.add ⟨b, off, none⟩ (i * sz)).add j = ⟨b, off + i * sz + j, none⟩ := fun j => by rw [addr_add, addr_add]
      refine ⟨b, off, rfl, ?_, fun j hj => ?_⟩
      · obtain ⟨u, hu⟩ := some_at q
        have := h00
        rw [hadd 0, hu] at this
        exact lt_of_cell (a := ⟨b, off + i * sz + 0, none⟩) (v := u) this
      · have := hcell j (by omega)
        rw [hadd j] at this
        exact this
    obtain ⟨q, hq⟩ := choose_lt (α := α) (n := len) (p := fun i q => (∃ b off, a' = ⟨b, off, none⟩ ∧ b < w.heap.size ∧ ∀ j, j < sz → w.cell? ⟨b, off + i * sz + j, none⟩ = (cells q)[j]?) ∧ In q) each
    refine ⟨(List.range len).map q, some a', cap, by simp, by simpa using hs1, fun i hi => ?_, fun o ho => ?_⟩
    · have hi' : i < len := by simpa using hi
      obtain ⟨⟨b, off, e1, e2, e3⟩, e4⟩ := hq i hi'
      simp only [List.getElem_map, List.getElem_range]
      exact ⟨b, off, by rw [e1], e2, e3⟩
    · obtain ⟨i, hi, rfl⟩ := List.mem_map.1 ho
      exact (hq i (List.mem_range.1 hi)).2

/-- A slice of ints. -/
theorem ints13_read {fuel : Nat} {c : Value} {x : DataW H × List MemPlace} (h : DataW.trod enc_ Try.prog w base (fun _ => true) held fuel 27 [c] = some x) (hs : ∀ n ∈ x.1.weights Try.prog 27, n ≤ reachBytes) :
    ∃ (l : List Int) (a : Option Addr) (cap : Nat), c = .slice a l.length cap ∧ IAt w a l ∧ l.length * 8 ≤ reachBytes ∧ (a = none → cap = 0) ∧ l.length ≤ cap ∧ ∀ x ∈ l, -9223372036854775808 ≤ x ∧ x < 9223372036854775808 := by
  rcases open_ints Try.underlying27 Try.underlying3 cells13_int h with ⟨hcs, hx⟩ | ⟨a, l, cap, zs, hcs, _, hl, hm, hz, hx, hcell, hwz⟩
  · cases hcs
    exact ⟨[], none, 0, rfl, (fun i hi => by cases hi), by simp, fun _ => rfl, Nat.le_refl _, (fun x hx => by cases hx)⟩
  · cases hcs
    have hz' : zs.length = cap := by simpa using hz
    have hR := RowOf.of (k := .i64) (cap := cap) (len := l) (zs := zs) (.inr ⟨_, rfl, hl, hm, hz', hcell, hwz⟩)
    obtain ⟨bs, e1, e2, e3⟩ := hR.1.ints
    subst e1
    refine ⟨bs, some a, cap, rfl, e2, ?_, (fun h => by cases h), hl, e3⟩
    rw [hx] at hs
    have := hs ((lits .i64 (zs.take bs.length) (H := H)).length * Try.prog.bytesOf 3 + (lits .i64 (zs.drop bs.length) (H := H)).length * Try.prog.bytesOf 3) (by simp [DataW.weights, Try.underlying27, Nat.add_mul])
    rw [bytes13_int] at this
    simp only [lits, List.length_map, List.length_take, List.length_drop] at this
    omega
/-- A record that is handed in. -/
structure Gq where
  kd : Int
  gr : Int
  gen : Int
  l : List Int
  pt : Int
  off : Int
  a : Option Addr
  k : Nat
def gqL (g : Gq) : List Value := [.int .i64 g.kd, .int .i64 g.gr, .int .i64 g.gen, .slice g.a g.l.length g.k, .int .i64 g.pt, .int .i64 g.off]
structure GGot (w : World) (g : Gq) : Prop where
  at_ : IAt w g.a g.l
  len : g.l.length * 8 ≤ 140737488351232
  cap : g.a = none → g.k = 0
  kd : -9223372036854775808 ≤ g.kd ∧ g.kd < 9223372036854775808
  gr : -9223372036854775808 ≤ g.gr ∧ g.gr < 9223372036854775808
  gen : -9223372036854775808 ≤ g.gen ∧ g.gen < 9223372036854775808
  pt : -9223372036854775808 ≤ g.pt ∧ g.pt < 9223372036854775808
  off : -9223372036854775808 ≤ g.off ∧ g.off < 9223372036854775808
  l : ∀ x ∈ g.l, -9223372036854775808 ≤ x ∧ x < 9223372036854775808
set_option maxRecDepth 100000 in
theorem grec_open {fuel : Nat} {cs : List Value} {x : DataW H × List MemPlace} (h : DataW.trod enc_ Try.prog w base (fun _ => true) held fuel 29 cs = some x) (hs : ∀ n ∈ x.1.weights Try.prog 29, n ≤ reachBytes) :
    ∃ g : Gq, cs = gqL g ∧ GGot w g := by
  obtain ⟨xs, n, _, rfl, hlen, hxl, hf⟩ := DataW.trod_struct Try.underlying29 h
  rw [cells16_rec] at hlen
  match xs, hxl, cs, hlen with
  | [y0, y1, y2, y3, y4, y5], _, [c0, c1, c2, c3, c4, c5], _ =>
    have g0 := hf 0 _ rfl
    have g1 := hf 1 _ rfl
    have g2 := hf 2 _ rfl
    have g3 := hf 3 _ rfl
    have g4 := hf 4 _ rfl
    have g5 := hf 5 _ rfl
    simp [cells13_int, cells13_sl] at g0 g1 g2 g3 g4 g5
    obtain ⟨v0, e0, _, b0⟩ := DataW.trod_int Try.underlying3 g0
    obtain ⟨v1, e1, _, b1⟩ := DataW.trod_int Try.underlying3 g1
    obtain ⟨v2, e2, _, b2⟩ := DataW.trod_int Try.underlying3 g2
    obtain ⟨v4, e4, _, b4⟩ := DataW.trod_int Try.underlying3 g4
    obtain ⟨v5, e5, _, b5⟩ := DataW.trod_int Try.underlying3 g5
    have hs2 : ∀ n ∈ y3.1.weights Try.prog 27, n ≤ reachBytes := fun k hk => hs k (by
      simp only [DataW.weights, Try.underlying29]
      exact DataW.weights_mem_each (j := 3) rfl rfl k hk)
    obtain ⟨l, a, cap, e3, r3, l3, n3, w3, q3⟩ := ints13_read g3 hs2
    cases e0
    cases e1
    cases e2
    cases e4
    cases e5
    subst e3
    have B0 := bounds_i64 b0
    have B1 := bounds_i64 b1
    have B2 := bounds_i64 b2
    have B4 := bounds_i64 b4
    have B5 := bounds_i64 b5
    unfold reachBytes at l3
    exact ⟨⟨v0, v1, v2, l, v4, v5, a, cap⟩, rfl, ⟨r3, by show l.length * 8 ≤ _; omega, n3, ⟨B0.1, by show v0 < _; omega⟩, ⟨B1.1, by show v1 < _; omega⟩, ⟨B2.1, by show v2 < _; omega⟩, ⟨B4.1, by show v4 < _; omega⟩, ⟨B5.1, by show v5 < _; omega⟩, fun y hy => by have := q3 y hy; exact ⟨this.1, by omega⟩⟩⟩
theorem grec_read {fuel : Nat} {v : Value} {x : DataW H × List MemPlace} (h : DataW.trod enc_ Try.prog w base (fun _ => true) held fuel 29 v.cells.toList = some x) (hs : ∀ n ∈ x.1.weights Try.prog 29, n ≤ reachBytes) :
    ∃ g : Gq, v = .agg (gqL g).toArray ∧ GGot w g := by
  obtain ⟨g, hcs, hp⟩ := grec_open h hs
  refine ⟨g, ?_, hp⟩
  cases v with
  | agg q =>
    have e' : q.toList = _ := hcs
    show Value.agg q = Value.agg _
    congr 1
    exact Array.ext' e'
  | _ => have := congrArg List.length hcs; simp [Value.cells, gqL] at this
end
end Go.Proofs.Ytfbnkeflgddcmaa
