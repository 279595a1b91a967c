/-
  What is kept, and rows of bytes, as they are read. No conditions beyond the reading and the sizes that the reach allows.
-/
import Derived.Test.YtibjfekfkllnjaaRows
import Derived.Test.YtibjfekfkllnjaaRtb
import Derived.Deep.Slices
import Derived.ChangeArms
import Derived.ChangeSlices
import Derived.SizedLaws
namespace Go.Proofs.Ytibjfekfkllnjaa
open Go.RowKit Go.Deep Go.ChangeShapes
set_option linter.unusedVariables false

set_option maxRecDepth 100000 in
theorem cells12_u8 : Try.prog.cellsOf 5 = 1 := by kernel_rfl
set_option maxRecDepth 100000 in
theorem cells12_sl : Try.prog.cellsOf 33 = 1 := by kernel_rfl
set_option maxRecDepth 100000 in
theorem cells12_es : Try.prog.cellsOf 50 = 1 := by kernel_rfl
set_option maxRecDepth 100000 in
theorem cells12_int : Try.prog.cellsOf 3 = 1 := by kernel_rfl
set_option maxRecDepth 100000 in
theorem cells12_en : Try.prog.cellsOf 64 = 2 := by kernel_rfl
set_option maxRecDepth 100000 in
theorem cells12_hd : Try.prog.cellsOf 52 = 6 := by kernel_rfl
set_option maxRecDepth 100000 in
theorem bytes12_u8 : Try.prog.bytesOf 5 = 1 := by kernel_rfl
set_option maxRecDepth 100000 in
theorem bytes12_sl : Try.prog.bytesOf 33 = 24 := by kernel_rfl
set_option maxRecDepth 100000 in
theorem bytes12_en : Try.prog.bytesOf 64 = 32 := by kernel_rfl

theorem mem_weightsAll {H : Type} {P : Program} {e : TypeId} {d : DataW H} {l : List (DataW H)} (hd : d ∈ l) {n : Nat} (hn : n ∈ d.weights P e) : n ∈ DataW.weightsAll P e l := by
  induction l with
  | nil => cases hd
  | cons x r ih =>
    simp only [DataW.weightsAll, List.mem_append]
    rcases List.mem_cons.1 hd with h | h
    · subst h; exact .inl hn
    · exact .inr (ih h)

/-- What is told of a slice of things of sz cells each. -/
def RowsAt {α : Type} (cells : α → List Value) (sz : Nat) (w : World) (a : Option Addr) (os : List α) : Prop :=
  ∀ i (hi : i < os.length), ∃ b off, a = some ⟨b, off, none⟩ ∧ b < w.heap.size ∧ ∀ j, j < sz → w.cell? ⟨b, off + i * sz + j, none⟩ = (cells os[i])[j]?

section
variable {H : Type} {enc_ : TypeId × Value → H} {w : World} {base : Nat} {held : Bool}

theorem rows_read {α : Type} [Inhabited α] (cells : α → List Value) (sz by_ : Nat) (In : α → Prop) (tE tS : TypeId) (hU : Try.prog.underlying tS = some (.slice tE)) (hC : Try.prog.cellsOf tE = sz) (hB : Try.prog.bytesOf tE = by_) (h0 : 0 < sz) (hlen : ∀ o, (cells o).length = sz)
    (hopen : ∀ {fuel : Nat} {cs : List Value} {x : DataW H × List MemPlace}, DataW.trod enc_ Try.prog w base (fun _ => true) held fuel tE cs = some x → (∀ n ∈ x.1.weights Try.prog tE, n ≤ reachBytes) → ∃ o, cs = cells o ∧ In o)
    {fuel : Nat} {c : Value} {x : DataW H × List MemPlace} (h : DataW.trod enc_ Try.prog w base (fun _ => true) held fuel tS [c] = some x) (hs : ∀ n ∈ x.1.weights Try.prog tS, n ≤ reachBytes) :
    ∃ (os : List α) (a : Option Addr) (cap : Nat), c = .slice a os.length cap ∧ os.length * by_ ≤ reachBytes ∧ RowsAt cells sz w a os ∧ ∀ o ∈ os, In o := by
  rcases open_slice hU h with ⟨hcs, hx⟩ | ⟨a', len, cap, m, n, D, Pl, hcs, _, hl, hm, hmm, rfl, hel⟩
  · cases hcs
    exact ⟨[], none, 0, rfl, by simp, (fun i hi => by cases hi), (fun o ho => by cases ho)⟩
  · cases hcs
    have hmc : m = cap := by simpa using hmm
    have hs1 : len * by_ ≤ reachBytes := by
      have := hs _ (by simp only [DataW.weights, hU]; exact List.mem_cons_self ..)
      rw [hB] at this
      simp only [List.length_map, List.length_range, Nat.add_mul] at this
      omega
    have hs2 : ∀ i, i < len → ∀ k ∈ (D i).weights Try.prog tE, k ≤ reachBytes := fun i hi k hk => by
      refine hs k ?_
      simp only [DataW.weights, hU]
      refine List.mem_cons_of_mem _ (List.mem_append_left _ (mem_weightsAll (d := D i) ?_ hk))
      exact List.mem_map.2 ⟨i, List.mem_range.2 hi, rfl⟩
    have each : ∀ i, i < len → ∃ q : α, (∃ b off, a' = ⟨b, off, none⟩ ∧ b < w.heap.size ∧ ∀ j, j < sz → w.cell? ⟨b, off + i * sz + j, none⟩ = (cells q)[j]?) ∧ In q := by
      intro i hi
      obtain ⟨cs', h1, h2⟩ := hel i (by omega)
      rw [hC] at h1
      obtain ⟨_, _, hcell⟩ := World.cells?_some h1
      obtain ⟨q, e1, e2⟩ := hopen h2 (hs2 i hi)
      subst e1
      refine ⟨q, ?_, e2⟩
      obtain ⟨b, off, spot⟩ := a'
      have h00 := hcell 0 (by omega)
      have some_at : ∀ (q : α), ∃ u, (cells q)[0]? = some u := fun q => ⟨_, List.getElem?_eq_getElem (by rw [hlen]; exact h0)⟩
      have hspot : spot = none := by
        obtain ⟨cs0, f1, f2⟩ := hel 0 (by omega)
        rw [hC] at f1
        obtain ⟨_, _, fcell⟩ := World.cells?_some f1
        obtain ⟨q0, g1, _⟩ := hopen f2 (hs2 0 (by omega))
        subst g1
        obtain ⟨u, hu⟩ := some_at q0
        have := World.cell?_spot (a := (Addr.add ⟨b, off, spot⟩ (0 * sz)).add 0) (v := u) (by rw [fcell 0 (by omega)]; exact hu)
        simpa [Addr.add] using this
      subst hspot
      have hadd : ∀ j, (Addr.add ⟨b, off, none⟩ (i * sz)).add j = ⟨b, off + i * sz + j, none⟩ := fun j => by rw [addr_add, addr_add]
      refine ⟨b, off, rfl, ?_, fun j hj => ?_⟩
      · obtain ⟨u, hu⟩ := some_at q
        have := h00
        rw [hadd 0, hu] at this
        exact lt_of_cell (a := ⟨b, off + i * sz + 0, none⟩) (v := u) this
      · have := hcell j (by omega)
        rw [hadd j] at this
        exact this
    obtain ⟨q, hq⟩ := choose_lt (α := α) (n := len) (p := fun i q => (∃ b off, a' = ⟨b, off, none⟩ ∧ b < w.heap.size ∧ ∀ j, j < sz → w.cell? ⟨b, off + i * sz + j, none⟩ = (cells q)[j]?) ∧ In q) each
    refine ⟨(List.range len).map q, some a', cap, by simp, by simpa using hs1, fun i hi => ?_, fun o ho => ?_⟩
    · have hi' : i < len := by simpa using hi
      obtain ⟨⟨b, off, e1, e2, e3⟩, e4⟩ := hq i hi'
      simp only [List.getElem_map, List.getElem_range]
      exact ⟨b, off, by rw [e1], e2, e3⟩
    · obtain ⟨i, hi, rfl⟩ := List.mem_map.1 ho
      exact (hq i (List.mem_range.1 hi)).2

/-- A slice of bytes. -/
theorem bytes12_read {fuel : Nat} {c : Value} {x : DataW H × List MemPlace} (h : DataW.trod enc_ Try.prog w base (fun _ => true) held fuel 33 [c] = some x) (hs : ∀ n ∈ x.1.weights Try.prog 33, n ≤ reachBytes) :
    ∃ (l : List Nat) (a : Option Addr) (cap : Nat), c = .slice a l.length cap ∧ LAt w a l ∧ (a = none → cap = 0) ∧ l.length ≤ cap ∧ cap ≤ reachBytes := by
  rcases open_ints Try.underlying33 Try.underlying5 cells12_u8 h with ⟨hcs, hx⟩ | ⟨a, l, cap, zs, hcs, _, hl, hm, hz, hx, hcell, hwz⟩
  · cases hcs
    exact ⟨[], none, 0, rfl, (fun i hi => by cases hi), fun _ => rfl, Nat.le_refl _, Nat.zero_le _⟩
  · cases hcs
    have hz' : zs.length = cap := by simpa using hz
    have hR := RowOf.of (k := .u8) (cap := cap) (len := l) (zs := zs) (.inr ⟨_, rfl, hl, hm, hz', hcell, hwz⟩)
    obtain ⟨bs, e1, e2⟩ := hR.1.bytes.list
    subst e1
    refine ⟨bs, some a, cap, rfl, e2, (fun h => by cases h), hl, ?_⟩
    rw [hx] at hs
    have := hs ((lits .u8 (zs.take bs.length) (H := H)).length * Try.prog.bytesOf 5 + (lits .u8 (zs.drop bs.length) (H := H)).length * Try.prog.bytesOf 5) (by simp [DataW.weights, Try.underlying33, Nat.add_mul])
    rw [bytes12_u8] at this
    simp only [lits, List.length_map, List.length_take, List.length_drop] at this
    omega
set_option maxRecDepth 100000 in
/-- An entry's cells. -/
theorem en_open {fuel : Nat} {cs : List Value} {x : DataW H × List MemPlace} (h : DataW.trod enc_ Try.prog w base (fun _ => true) held fuel 64 cs = some x) (hs : ∀ n ∈ x.1.weights Try.prog 64, n ≤ reachBytes) :
    ∃ p : En, cs = enC p ∧ EIn w p := by
  obtain ⟨xs, n, _, rfl, hlen, hxl, hf⟩ := DataW.trod_struct Try.underlying64 h
  rw [cells12_en] at hlen
  match xs, hxl, cs, hlen with
  | [y0, y1], _, [c0, c1], _ =>
    have g0 := hf 0 _ rfl
    have g1 := hf 1 _ rfl
    simp [cells12_int, cells12_sl] at g0 g1
    obtain ⟨v0, e0, _, b0⟩ := DataW.trod_int Try.underlying3 g0
    have hs2 : ∀ n ∈ y1.1.weights Try.prog 33, n ≤ reachBytes := fun k hk => hs k (by
      simp only [DataW.weights, Try.underlying64]
      exact DataW.weights_mem_each (j := 1) rfl rfl k hk)
    obtain ⟨l, a, cap, e2, r2, n2, l2, w2⟩ := bytes12_read g1 hs2
    cases e0
    subst e2
    refine ⟨⟨v0, a, cap, l⟩, rfl, r2, n2, ?_⟩
    show l.length ≤ _
    unfold reachBytes at w2
    omega
instance : Inhabited En := ⟨⟨0, none, 0, []⟩⟩
theorem entries_read {fuel : Nat} {c : Value} {x : DataW H × List MemPlace} (h : DataW.trod enc_ Try.prog w base (fun _ => true) held fuel 50 [c] = some x) (hs : ∀ n ∈ x.1.weights Try.prog 50, n ≤ reachBytes) :
    ∃ (ps : List En) (a : Option Addr) (cap : Nat), c = .slice a ps.length cap ∧ EArr w a ps ∧ ps.length ≤ 4398046510976 := by
  obtain ⟨ps, a, cap, e, h1, h2, h3⟩ := rows_read enC 2 32 (EIn w) 64 50 Try.underlying50 cells12_en bytes12_en (by omega) enC_len (fun h hs => en_open h hs) h hs
  refine ⟨ps, a, cap, e, ⟨fun i hi => ?_, h3⟩, ?_⟩
  · obtain ⟨b, off, e1, e2, e3⟩ := h2 i hi
    exact ⟨b, off, e1, e2, e3 0 (by omega), e3 1 (by omega)⟩
  · unfold reachBytes at h1
    omega
set_option maxRecDepth 100000 in
theorem hd_open {fuel : Nat} {cs : List Value} {x : DataW H × List MemPlace} (h : DataW.trod enc_ Try.prog w base (fun _ => true) held fuel 52 cs = some x) (hs : ∀ n ∈ x.1.weights Try.prog 52, n ≤ reachBytes) :
    ∃ g : Hd, cs = [.int .i64 g.T, .int .i64 g.vo, .int .i64 g.base, .int .i64 g.bt, hdS g, hdL g] ∧ HIn w g ∧ g.base ≤ 9223372036854775807 := by
  obtain ⟨xs, n, _, rfl, hlen, hxl, hf⟩ := DataW.trod_struct Try.underlying52 h
  rw [cells12_hd] at hlen
  match xs, hxl, cs, hlen with
  | [y0, y1, y2, y3, y4, y5], _, [c0, c1, c2, c3, c4, c5], _ =>
    have g0 := hf 0 _ rfl
    have g1 := hf 1 _ rfl
    have g2 := hf 2 _ rfl
    have g3 := hf 3 _ rfl
    have g4 := hf 4 _ rfl
    have g5 := hf 5 _ rfl
    simp [cells12_int, cells12_sl, cells12_es] at g0 g1 g2 g3 g4 g5
    obtain ⟨v0, e0, _, b0⟩ := DataW.trod_int Try.underlying3 g0
    obtain ⟨v1, e1, _, b1⟩ := DataW.trod_int Try.underlying3 g1
    obtain ⟨v2, e2, _, b2⟩ := DataW.trod_int Try.underlying3 g2
    obtain ⟨v3, e3, _, b3⟩ := DataW.trod_int Try.underlying3 g3
    have hs4 : ∀ n ∈ y4.1.weights Try.prog 33, n ≤ reachBytes := fun k hk => hs k (by
      simp only [DataW.weights, Try.underlying52]
      exact DataW.weights_mem_each (j := 4) rfl rfl k hk)
    have hs5 : ∀ n ∈ y5.1.weights Try.prog 50, n ≤ reachBytes := fun k hk => hs k (by
      simp only [DataW.weights, Try.underlying52]
      exact DataW.weights_mem_each (j := 5) rfl rfl k hk)
    obtain ⟨l, a, cap, e4, r4, n4, l4, w4⟩ := bytes12_read g4 hs4
    obtain ⟨ps, la, lc, e5, r5, n5⟩ := entries_read g5 hs5
    cases e0
    cases e1
    cases e2
    cases e3
    subst e4 e5
    have B2 := bounds_i64 b2
    refine ⟨⟨v0, v1, v2, v3, a, cap, l, la, lc, ps⟩, rfl, ⟨r4, n4, ?_, r5, n5⟩, by show v2 ≤ _; omega⟩
    show l.length ≤ _
    unfold reachBytes at w4
    omega
theorem hard_read {fuel : Nat} {v : Value} {x : DataW H × List MemPlace} (h : DataW.trod enc_ Try.prog w base (fun _ => true) held fuel 52 v.cells.toList = some x) (hs : ∀ n ∈ x.1.weights Try.prog 52, n ≤ reachBytes) :
    ∃ g : Hd, v = hdV g ∧ HIn w g ∧ g.base ≤ 9223372036854775807 := by
  obtain ⟨g, hcs, hp⟩ := hd_open h hs
  refine ⟨g, ?_, hp⟩
  cases v with
  | agg q =>
    have e' : q.toList = _ := hcs
    show Value.agg q = Value.agg _
    congr 1
    exact Array.ext' e'
  | _ => have := congrArg List.length hcs; simp [Value.cells] at this
end
end Go.Proofs.Ytibjfekfkllnjaa
