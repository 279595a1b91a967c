/-
  Settings, as they are read. No conditions beyond the reading and the sizes that the reach allows.
-/
import Derived.Test.YtbonlonkienhaaaRows
import Derived.Test.YtbonlonkienhaaaCs3
import Derived.Deep.Slices
import Derived.ChangeArms
import Derived.ChangeSlices
import Derived.SizedLaws
namespace Go.Proofs.Ytbonlonkienhaaa
open Go.RowKit Go.Deep Go.ChangeShapes
set_option linter.unusedVariables false

set_option maxRecDepth 100000 in
theorem cells19_int : Try.prog.cellsOf 3 = 1 := by kernel_rfl
set_option maxRecDepth 100000 in
theorem cells19_str : Try.prog.cellsOf 9 = 1 := by kernel_rfl
set_option maxRecDepth 100000 in
theorem cells19_op : Try.prog.cellsOf 36 = 5 := by kernel_rfl
set_option maxRecDepth 100000 in
theorem cells19_ops : Try.prog.cellsOf 34 = 1 := by kernel_rfl
set_option maxRecDepth 100000 in
theorem cells19_pg : Try.prog.cellsOf 69 = 2 := by kernel_rfl
set_option maxRecDepth 100000 in
theorem cells19_pgs : Try.prog.cellsOf 22 = 1 := by kernel_rfl
set_option maxRecDepth 100000 in
theorem cells19_cf : Try.prog.cellsOf 24 = 4 := by kernel_rfl
set_option maxRecDepth 100000 in
theorem bytes19_op : Try.prog.bytesOf 36 = 48 := by kernel_rfl
set_option maxRecDepth 100000 in
theorem bytes19_pg : Try.prog.bytesOf 69 = 32 := by kernel_rfl
instance : Inhabited Po := ⟨⟨0, 0, 0, 0, ByteArray.empty⟩⟩
instance : Inhabited Pg := ⟨⟨0, none, 0, []⟩⟩
theorem mem_weightsAll {H : Type} {P : Program} {e : TypeId} {d : DataW H} {l : List (DataW H)} (hd : d ∈ l) {n : Nat} (hn : n ∈ d.weights P e) : n ∈ DataW.weightsAll P e l := by
  induction l with
  | nil => cases hd
  | cons x r ih =>
    simp only [DataW.weightsAll, List.mem_append]
    rcases List.mem_cons.1 hd with h | h
    · subst h; exact .inl hn
    · exact .inr (ih h)

section
variable {H : Type} {enc_ : TypeId × Value → H} {w : World} {base : Nat} {held : Bool}
theorem rows_read {α : Type} [Inhabited α] (cells : α → List Value) (sz by_ : Nat) (In : α → Prop) (tE tS : TypeId) (hU : Try.prog.underlying tS = some (.slice tE)) (hC : Try.prog.cellsOf tE = sz) (hB : Try.prog.bytesOf tE = by_) (h0 : 0 < sz) (hlen : ∀ o, (cells o).length = sz)
    (hopen : ∀ {fuel : Nat} {cs : List Value} {x : DataW H × List MemPlace}, DataW.trod enc_ Try.prog w base (fun _ => true) held fuel tE cs = some x → (∀ n ∈ x.1.weights Try.prog tE, n ≤ reachBytes) → ∃ o, cs = cells o ∧ In o)
    {fuel : Nat} {c : Value} {x : DataW H × List MemPlace} (h : DataW.trod enc_ Try.prog w base (fun _ => true) held fuel tS [c] = some x) (hs : ∀ n ∈ x.1.weights Try.prog tS, n ≤ reachBytes) :
    ∃ (os : List α) (a : Option Addr) (cap : Nat), c = .slice a os.length cap ∧ os.length * by_ ≤ reachBytes ∧ RowsP cells sz w a os ∧ (a = none → cap = 0) ∧ ∀ o ∈ os, In o := by
  rcases open_slice hU h with ⟨hcs, hx⟩ | ⟨a', len, cap, m, n, D, Pl, hcs, _, hl, hm, hmm, rfl, hel⟩
  · cases hcs
    exact ⟨[], none, 0, rfl, by simp, (fun i hi => by cases hi), (fun _ => rfl), (fun o ho => by cases ho)⟩
  · cases hcs
    have hmc : m = cap := by simpa using hmm
    have hs1 : len * by_ ≤ reachBytes := by
      have := hs _ (by simp only [DataW.weights, hU]; exact List.mem_cons_self ..)
      rw [hB] at this
      simp only [List.length_map, List.length_range, Nat.add_mul] at this
      omega
    have hs2 : ∀ i, i < len → ∀ k ∈ (D i).weights Try.prog tE, k ≤ reachBytes := fun i hi k hk => by
      refine hs k ?_
      simp only [DataW.weights, hU]
      refine List.mem_cons_of_mem _ (List.mem_append_left _ (mem_weightsAll (d := D i) ?_ hk))
      exact List.mem_map.2 ⟨i, List.mem_range.2 hi, rfl⟩
    have each : ∀ i, i < len → ∃ q : α, (∃ b off, a' = ⟨b, off, none⟩ ∧ b < w.heap.size ∧ ∀ j, j < sz → w.cell? ⟨b, off + i * sz + j, none⟩ = (cells q)[j]?) ∧ In q := by
      intro i hi
      obtain ⟨cs', h1, h2⟩ := hel i (by omega)
      rw [hC] at h1
      obtain ⟨_, _, hcell⟩ := World.cells?_some h1
      obtain ⟨q, e1, e2⟩ := hopen h2 (hs2 i hi)
      subst e1
      refine ⟨q, ?_, e2⟩
      obtain ⟨b, off, spot⟩ := a'
      have h00 := hcell 0 (by omega)
      have some_at : ∀ (q : α), ∃ u, (cells q)[0]? = some u := fun q => ⟨_, List.getElem?_eq_getElem (by rw [hlen]; exact h0)⟩
      have hspot : spot = none := by
        obtain ⟨cs0, f1, f2⟩ := hel 0 (by omega)
        rw [hC] at f1
        obtain ⟨_, _, fcell⟩ := World.cells?_some f1
        obtain ⟨q0, g1, _⟩ := hopen f2 (hs2 0 (by omega))
        subst g1
        obtain ⟨u, hu⟩ := some_at q0
        have := World.cell?_spot (a := (Addr.add ⟨b, off, spot⟩ (0 * sz)).add 0) (v := u) (by rw [fcell 0 (by omega)]; exact hu)
        simpa [Addr.add] using this
      subst hspot
      have hadd : ∀ j, (Addr.add ⟨b, off, none⟩ (i * sz)).add j = ⟨b, off + i * sz + j, none⟩ := fun j => by rw [addr_add, addr_add]
      refine ⟨b, off, rfl, ?_, fun j hj => ?_⟩
      · obtain ⟨u, hu⟩ := some_at q
        have := h00
        rw [hadd 0, hu] at this
        exact lt_of_cell (a := ⟨b, off + i * sz + 0, none⟩) (v := u) this
      · have := hcell j (by omega)
        rw [hadd j] at this
        exact this
    obtain ⟨q, hq⟩ := choose_lt (α := α) (n := len) (p := fun i q => (∃ b off, a' = ⟨b, off, none⟩ ∧ b < w.heap.size ∧ ∀ j, j < sz → w.cell? ⟨b, off + i * sz + j, none⟩ = (cells q)[j]?) ∧ In q) each
    refine ⟨(List.range len).map q, some a', cap, by simp, by simpa using hs1, fun i hi => ?_, (fun h => by cases h), fun o ho => ?_⟩
    · have hi' : i < len := by simpa using hi
      obtain ⟨⟨b, off, e1, e2, e3⟩, e4⟩ := hq i hi'
      simp only [List.getElem_map, List.getElem_range]
      exact ⟨b, off, by rw [e1], e2, e3⟩
    · obtain ⟨i, hi, rfl⟩ := List.mem_map.1 ho
      exact (hq i (List.mem_range.1 hi)).2

set_option maxRecDepth 100000 in
theorem op19_open {fuel : Nat} {cs : List Value} {x : DataW H × List MemPlace} (h : DataW.trod enc_ Try.prog w base (fun _ => true) held fuel 36 cs = some x) (hs : ∀ n ∈ x.1.weights Try.prog 36, n ≤ reachBytes) :
    ∃ o : Po, cs = cellsPo o ∧ True := by
  obtain ⟨xs, n, _, rfl, hlen, hxl, hf⟩ := DataW.trod_struct Try.underlying36 h
  rw [cells19_op] at hlen
  match xs, hxl, cs, hlen with
  | [y0, y1, y2, y3, y4], _, [c0, c1, c2, c3, c4], _ =>
    have g0 := hf 0 _ rfl
    have g1 := hf 1 _ rfl
    have g2 := hf 2 _ rfl
    have g3 := hf 3 _ rfl
    have g4 := hf 4 _ rfl
    simp [cells19_int, cells19_str] at g0 g1 g2 g3 g4
    obtain ⟨v0, e0, _, _⟩ := DataW.trod_int Try.underlying3 g0
    obtain ⟨v1, e1, _, _⟩ := DataW.trod_int Try.underlying3 g1
    obtain ⟨v2, e2, _, _⟩ := DataW.trod_int Try.underlying3 g2
    obtain ⟨v3, e3, _, _⟩ := DataW.trod_int Try.underlying3 g3
    obtain ⟨v4, e4, _, _⟩ := DataW.trod_string Try.underlying9 g4
    cases e0
    cases e1
    cases e2
    cases e3
    cases e4
    exact ⟨⟨v0, v1, v2, v3, v4⟩, rfl, trivial⟩
/-- What is told of a program. -/
structure PgGot (w : World) (p : Pg) : Prop where
  at_ : RowsP cellsPo 5 w p.a p.os
  len : p.os.length * 48 ≤ reachBytes
  cap : p.a = none → p.c = 0
set_option maxRecDepth 100000 in
theorem pg19_open {fuel : Nat} {cs : List Value} {x : DataW H × List MemPlace} (h : DataW.trod enc_ Try.prog w base (fun _ => true) held fuel 69 cs = some x) (hs : ∀ n ∈ x.1.weights Try.prog 69, n ≤ reachBytes) :
    ∃ p : Pg, cs = cellsPg p ∧ PgGot w p := by
  obtain ⟨xs, n, _, rfl, hlen, hxl, hf⟩ := DataW.trod_struct Try.underlying69 h
  rw [cells19_pg] at hlen
  match xs, hxl, cs, hlen with
  | [y0, y1], _, [c0, c1], _ =>
    have g0 := hf 0 _ rfl
    have g1 := hf 1 _ rfl
    simp [cells19_int, cells19_ops] at g0 g1
    obtain ⟨v0, e0, _, _⟩ := DataW.trod_int Try.underlying3 g0
    have hs1 : ∀ n ∈ y1.1.weights Try.prog 34, n ≤ reachBytes := fun k hk => hs k (by
      simp only [DataW.weights, Try.underlying69]
      exact DataW.weights_mem_each (j := 1) rfl rfl k hk)
    obtain ⟨os, a, cap, e1, l1, r1, n1, _⟩ := rows_read cellsPo 5 48 (fun _ => True) 36 34 Try.underlying34 cells19_op bytes19_op (by omega) (fun _ => rfl) (fun h hs => op19_open h hs) g1 hs1
    cases e0
    subst e1
    exact ⟨⟨v0, a, cap, os⟩, rfl, ⟨r1, l1, n1⟩⟩
/-- What is told of settings. -/
structure CfGot (w : World) (c : Cf) : Prop where
  at_ : RowsP cellsPg 2 w c.a c.ps
  len : c.ps.length * 32 ≤ reachBytes
  each : ∀ p ∈ c.ps, PgGot w p
set_option maxRecDepth 100000 in
theorem cf19_read {fuel : Nat} {v : Value} {x : DataW H × List MemPlace} (h : DataW.trod enc_ Try.prog w base (fun _ => true) held fuel 24 v.cells.toList = some x) (hs : ∀ n ∈ x.1.weights Try.prog 24, n ≤ reachBytes) :
    ∃ c : Cf, v = .agg (cellsCf c).toArray ∧ CfGot w c := by
  have h' : ∃ c : Cf, v.cells.toList = cellsCf c ∧ CfGot w c := by
    generalize v.cells.toList = cs at h
    obtain ⟨xs, n, _, rfl, hlen, hxl, hf⟩ := DataW.trod_struct Try.underlying24 h
    rw [cells19_cf] at hlen
    match xs, hxl, cs, hlen with
    | [y0, y1, y2, y3], _, [c0, c1, c2, c3], _ =>
      have g0 := hf 0 _ rfl
      have g1 := hf 1 _ rfl
      have g2 := hf 2 _ rfl
      have g3 := hf 3 _ rfl
      simp [cells19_int, cells19_pgs] at g0 g1 g2 g3
      obtain ⟨v0, e0, _, _⟩ := DataW.trod_int Try.underlying3 g0
      obtain ⟨v1, e1, _, _⟩ := DataW.trod_int Try.underlying3 g1
      obtain ⟨v2, e2, _, _⟩ := DataW.trod_int Try.underlying3 g2
      have hs3 : ∀ n ∈ y3.1.weights Try.prog 22, n ≤ reachBytes := fun k hk => hs k (by
        simp only [DataW.weights, Try.underlying24]
        exact DataW.weights_mem_each (j := 3) rfl rfl k hk)
      obtain ⟨ps, a, cap, e3, l3, r3, _, p3⟩ := rows_read cellsPg 2 32 (PgGot w) 69 22 Try.underlying22 cells19_pg bytes19_pg (by omega) (fun _ => rfl) (fun h hs => pg19_open h hs) g3 hs3
      cases e0
      cases e1
      cases e2
      subst e3
      exact ⟨⟨v0, v1, v2, a, cap, ps⟩, rfl, ⟨r3, l3, p3⟩⟩
  obtain ⟨c, hcs, hp⟩ := h'
  refine ⟨c, ?_, hp⟩
  cases v with
  | agg q =>
    have e' : q.toList = _ := hcs
    show Value.agg q = Value.agg _
    congr 1
    exact Array.ext' e'
  | _ => have := congrArg List.length hcs; simp [Value.cells, cellsCf] at this
theorem CfGot.cfin {w : World} {c : Cf} (h : CfGot w c) : CfIn w c := ⟨h.at_, by have := h.len; unfold reachBytes at this; unfold maxLen; omega, fun p hp => ⟨(h.each p hp).at_, by have := (h.each p hp).len; unfold reachBytes at this; unfold maxLen; omega⟩⟩
end
end Go.Proofs.Ytbonlonkienhaaa
