/-
  How much a list that is read holds at least. No conditions.
-/
import Derived.Test.YtblmondkdcpkaaaRows
import Derived.Test.YtblmondkdcpkaaaZ21
import Derived.Deep.Slices
import Derived.ChangeArms
import Derived.ChangeSlices
import Derived.SizedLaws
import Derived.Test.YtblmondkdcpkaaaZ12

/-
  A batch as it is read: its fields, its values, and how much they are at most. No conditions beyond the reading and the sizes that the reach allows.
-/
namespace Go.Proofs.Ytblmondkdcpkaaa
open Go.RowKit Go.Deep Go.ChangeShapes
set_option linter.unusedVariables false

set_option maxRecDepth 100000 in
theorem cells7_u8 : Try.prog.cellsOf 5 = 1 := by kernel_rfl
set_option maxRecDepth 100000 in
theorem cells7_sl : Try.prog.cellsOf 24 = 1 := by kernel_rfl
set_option maxRecDepth 100000 in
theorem cells7_sls : Try.prog.cellsOf 36 = 1 := by kernel_rfl
set_option maxRecDepth 100000 in
theorem cells7_int : Try.prog.cellsOf 3 = 1 := by kernel_rfl
set_option maxRecDepth 100000 in
theorem cells7_u64 : Try.prog.cellsOf 35 = 1 := by kernel_rfl
set_option maxRecDepth 100000 in
theorem cells7_bool : Try.prog.cellsOf 4 = 1 := by kernel_rfl
set_option maxRecDepth 100000 in
theorem cells7_batch : Try.prog.cellsOf 38 = 9 := by kernel_rfl
set_option maxRecDepth 100000 in
theorem bytes7_u8 : Try.prog.bytesOf 5 = 1 := by kernel_rfl
set_option maxRecDepth 100000 in
theorem bytes7_sl : Try.prog.bytesOf 24 = 24 := by kernel_rfl

theorem mem_weightsAll {H : Type} {P : Program} {e : TypeId} {d : DataW H} {l : List (DataW H)} (hd : d ∈ l) {n : Nat} (hn : n ∈ d.weights P e) : n ∈ DataW.weightsAll P e l := by
  induction l with
  | nil => cases hd
  | cons x r ih =>
    simp only [DataW.weightsAll, List.mem_append]
    rcases List.mem_cons.1 hd with h | h
    · subst h; exact .inl hn
    · exact .inr (ih h)

section
variable {H : Type} {enc_ : TypeId × Value → H} {w : World} {base : Nat} {held : Bool}

/-- A slice of bytes. -/
theorem bytes7_read {fuel : Nat} {c : Value} {x : DataW H × List MemPlace} (h : DataW.trod enc_ Try.prog w base (fun _ => true) held fuel 24 [c] = some x) (hs : ∀ n ∈ x.1.weights Try.prog 24, n ≤ reachBytes) :
    ∃ (l : List Nat) (a : Option Addr) (cap : Nat), c = .slice a l.length cap ∧ LAt w a l ∧ (a = none → cap = 0) ∧ l.length ≤ cap ∧ cap ≤ reachBytes := by
  rcases open_ints Try.underlying24 Try.underlying5 cells7_u8 h with ⟨hcs, hx⟩ | ⟨a, l, cap, zs, hcs, _, hl, hm, hz, hx, hcell, hwz⟩
  · cases hcs
    exact ⟨[], none, 0, rfl, (fun i hi => by cases hi), fun _ => rfl, Nat.le_refl _, Nat.zero_le _⟩
  · cases hcs
    have hz' : zs.length = cap := by simpa using hz
    have hR := RowOf.of (k := .u8) (cap := cap) (len := l) (zs := zs) (.inr ⟨_, rfl, hl, hm, hz', hcell, hwz⟩)
    obtain ⟨bs, e1, e2⟩ := hR.1.bytes.list
    subst e1
    refine ⟨bs, some a, cap, rfl, e2, (fun h => by cases h), hl, ?_⟩
    rw [hx] at hs
    have := hs ((lits .u8 (zs.take bs.length) (H := H)).length * Try.prog.bytesOf 5 + (lits .u8 (zs.drop bs.length) (H := H)).length * Try.prog.bytesOf 5) (by simp [DataW.weights, Try.underlying24, Nat.add_mul])
    rw [bytes7_u8] at this
    simp only [lits, List.length_map, List.length_take, List.length_drop] at this
    omega

set_option maxRecDepth 100000 in
/-- A list of slices of bytes. -/
theorem pays7_read {fuel : Nat} {c : Value} {x : DataW H × List MemPlace} (h : DataW.trod enc_ Try.prog w base (fun _ => true) held fuel 36 [c] = some x) (hs : ∀ n ∈ x.1.weights Try.prog 36, n ≤ reachBytes) :
    ∃ (ls : List (List Nat)) (a : Option Addr) (cap : Nat), c = .slice a ls.length cap ∧ RAt w a ls ∧ (a = none → cap = 0) ∧ ls.length * 24 ≤ reachBytes ∧ (∀ l ∈ ls, l.length ≤ reachBytes) := by
  rcases open_slice Try.underlying36 h with ⟨hcs, hx⟩ | ⟨a', len, cap, m, n, D, Pl, hcs, _, hl, hm, hmm, rfl, hel⟩
  · cases hcs
    exact ⟨[], none, 0, rfl, (fun i hi => by cases hi), fun _ => rfl, by simp, (fun l hl => by cases hl)⟩
  · cases hcs
    have hmc : m = cap := by simpa using hmm
    have hs1 : len * 24 ≤ reachBytes := by
      have := hs _ (by simp only [DataW.weights, Try.underlying36]; exact List.mem_cons_self ..)
      rw [bytes7_sl] at this
      simp only [List.length_map, List.length_range, Nat.add_mul] at this
      omega
    have hs2 : ∀ i, i < len → ∀ k ∈ (D i).weights Try.prog 24, k ≤ reachBytes := fun i hi k hk => by
      refine hs k ?_
      simp only [DataW.weights, Try.underlying36]
      refine List.mem_cons_of_mem _ (List.mem_append_left _ (mem_weightsAll (d := D i) ?_ hk))
      exact List.mem_map.2 ⟨i, List.mem_range.2 hi, rfl⟩
    have each : ∀ i, i < len → ∃ l : List Nat, (∃ b off u, a' = ⟨b, off, none⟩ ∧ b < w.heap.size ∧ w.cell? ⟨b, off + i, none⟩ = some u ∧ Elem w u l) ∧ l.length ≤ reachBytes := by
      intro i hi
      obtain ⟨cs', h1, h2⟩ := hel i (by omega)
      rw [cells7_sl] at h1
      obtain ⟨_, hlen, hcell⟩ := World.cells?_some h1
      match cs', hlen with
      | [u], _ =>
        obtain ⟨l, x, c, e1, e2, e3, e4, e5⟩ := bytes7_read h2 (hs2 i hi)
        refine ⟨l, ?_, by omega⟩
        have h00 := hcell 0 (by omega)
        simp only [Nat.mul_one, List.getElem?_cons_zero] at h00
        obtain ⟨b, off, spot⟩ := a'
        have hspot : spot = none := by
          obtain ⟨cs0, f1, f2⟩ := hel 0 (by omega)
          rw [cells7_sl] at f1
          obtain ⟨_, flen, fcell⟩ := World.cells?_some f1
          match cs0, flen with
          | [u0], _ =>
            have f0 := fcell 0 (by omega)
            simp only [Nat.mul_one, List.getElem?_cons_zero] at f0
            have := World.cell?_spot (a := (Addr.add ⟨b, off, spot⟩ 0).add 0) (v := u0) f0
            simpa [Addr.add] using this
        subst hspot
        have add0 : ∀ x : Addr, x.add 0 = x := fun x => by simp [Addr.add]
        have hadd : (Addr.add ⟨b, off, none⟩ i).add 0 = ⟨b, off + i, none⟩ := by
          rw [add0]
          unfold Addr.add
          split
          · rename_i h0; subst h0; rfl
          · rfl
        rw [hadd] at h00
        exact ⟨b, off, u, rfl, lt_of_cell h00, h00, ⟨x, c, e1, e2, e3⟩⟩
    have hch : ∃ q : Nat → List Nat, ∀ i, i < len → (∃ b off u, a' = ⟨b, off, none⟩ ∧ b < w.heap.size ∧ w.cell? ⟨b, off + i, none⟩ = some u ∧ Elem w u (q i)) ∧ (q i).length ≤ reachBytes := by
      refine ⟨fun i => if hi : i < len then (each i hi).choose else [], fun i hi => ?_⟩
      simp only [dif_pos hi]
      exact (each i hi).choose_spec
    obtain ⟨q, hq⟩ := hch
    refine ⟨(List.range len).map q, some a', cap, by simp, fun i hi => ?_, (fun h => by cases h), by simpa using hs1, fun l hl => ?_⟩
    · have hi' : i < len := by simpa using hi
      obtain ⟨⟨b, off, u, e, h1, h2, h3⟩, _⟩ := hq i hi'
      have e2 : ((List.range len).map q).getD i [] = q i := by simp [List.getD, hi']
      exact ⟨b, off, u, by rw [e], h1, h2, by rw [e2]; exact h3⟩
    · obtain ⟨i, hi, rfl⟩ := List.mem_map.1 hl
      exact (hq i (List.mem_range.1 hi)).2

/-- What is known of a batch that was handed in. -/
structure BIn (w : World) (b : Bt) (a : Option Addr) (cap : Nat) : Prop where
  at_ : RAt w a b.vs
  fits : b.Fits
  len : b.vs.length * 24 ≤ reachBytes
  each : ∀ l ∈ b.vs, l.length ≤ reachBytes
set_option maxRecDepth 100000 in
theorem batch_read {fuel : Nat} {v : Value} {x : DataW H × List MemPlace} (h : DataW.trod enc_ Try.prog w base (fun _ => true) held fuel 38 v.cells.toList = some x) (hs : ∀ n ∈ x.1.weights Try.prog 38, n ≤ reachBytes) :
    ∃ (b : Bt) (a : Option Addr) (cap : Nat), v = bv b a cap ∧ BIn w b a cap := by
  obtain ⟨xs, n, _, rfl, hlen, hxl, hf⟩ := DataW.trod_struct Try.underlying38 h
  rw [cells7_batch] at hlen
  generalize hcs : v.cells.toList = cs at *
  match xs, hxl, cs, hlen with
  | [y0, y1, y2, y3, y4, y5, y6, y7, y8], _, [c0, c1, c2, c3, c4, c5, c6, c7, c8], _ =>
    have g0 := hf 0 _ rfl
    have g1 := hf 1 _ rfl
    have g2 := hf 2 _ rfl
    have g3 := hf 3 _ rfl
    have g4 := hf 4 _ rfl
    have g5 := hf 5 _ rfl
    have g6 := hf 6 _ rfl
    have g7 := hf 7 _ rfl
    have g8 := hf 8 _ rfl
    simp [cells7_int, cells7_u64, cells7_bool, cells7_sls] at g0 g1 g2 g3 g4 g5 g6 g7 g8
    obtain ⟨v0, e0, _, b0⟩ := DataW.trod_int Try.underlying3 g0
    obtain ⟨v1, e1, _, b1⟩ := DataW.trod_int Try.underlying3 g1
    obtain ⟨v2, e2, _, b2⟩ := DataW.trod_int Try.underlying35 g2
    obtain ⟨v3, e3, _, b3⟩ := DataW.trod_int Try.underlying3 g3
    obtain ⟨v4, e4, _, b4⟩ := DataW.trod_int Try.underlying3 g4
    obtain ⟨v5, e5, _⟩ := DataW.trod_bool Try.underlying4 g5
    obtain ⟨v6, e6, _⟩ := DataW.trod_bool Try.underlying4 g6
    obtain ⟨v7, e7, _⟩ := DataW.trod_bool Try.underlying4 g7
    have hs8 : ∀ n ∈ y8.1.weights Try.prog 36, n ≤ reachBytes := fun k hk => hs k (by
      simp only [DataW.weights, Try.underlying38]
      exact DataW.weights_mem_each (j := 8) rfl rfl k hk)
    obtain ⟨ls, a, cap, e8, r8, n8, l8, w8⟩ := pays7_read g8 hs8
    cases e0
    cases e1
    cases e2
    cases e3
    cases e4
    cases e5
    cases e6
    cases e7
    subst e8
    have B0 := bounds_i64 b0
    have B1 := bounds_i64 b1
    have B2 := bounds_u64 b2
    have B3 := bounds_i64 b3
    have B4 := bounds_i64 b4
    obtain ⟨p2, rfl⟩ := Int.eq_ofNat_of_zero_le B2.1
    refine ⟨⟨v0, v1, p2, v3, v4, v5, v6, v7, ls⟩, a, cap, ?_, r8, ⟨⟨B0.1, by show v0 < _; omega⟩, ⟨B1.1, by show v1 < _; omega⟩, by show p2 < _; omega, ⟨B3.1, by show v3 < _; omega⟩, ⟨B4.1, by show v4 < _; omega⟩⟩, l8, w8⟩
    cases v with
    | agg q =>
      have e' : q.toList = _ := hcs
      show Value.agg q = Value.agg _
      congr 1
      exact Array.ext' e'
    | _ => have := congrArg List.length hcs; simp [Value.cells] at this
end
end Go.Proofs.Ytblmondkdcpkaaa


/-
  A message as it is read. No conditions beyond the reading and the sizes that the reach allows.
-/
namespace Go.Proofs.Ytblmondkdcpkaaa
open Go.RowKit Go.Deep Go.ChangeShapes
set_option linter.unusedVariables false

theorem RowOf.ints {w : World} {a : Option Addr} {len : Nat} {f : Nat → Int} (h : RowOf .i64 w a len f) : ∃ ls : List Int, ls.length = len ∧ IAt w a ls ∧ ∀ x ∈ ls, -9223372036854775808 ≤ x ∧ x < 9223372036854775808 := by
  refine ⟨(List.range len).map f, by simp, fun i hi => ?_, fun x hx => ?_⟩
  · have hi' : i < len := by simpa using hi
    obtain ⟨b, off, h1, h2, h3, _⟩ := h i hi'
    refine ⟨b, off, h1, h2, ?_⟩
    have e : ((List.range len).map f).getD i 0 = f i := by simp [List.getD, hi']
    rw [e]; exact h3
  · obtain ⟨i, hi, rfl⟩ := List.mem_map.1 hx
    obtain ⟨b, off, _, _, _, h4⟩ := h i (List.mem_range.1 hi)
    have := bounds_i64 h4
    omega
set_option maxRecDepth 100000 in
theorem cells17_ints : Try.prog.cellsOf 32 = 1 := by kernel_rfl
set_option maxRecDepth 100000 in
theorem cells17_err : Try.prog.cellsOf 22 = 1 := by kernel_rfl
set_option maxRecDepth 100000 in
theorem cells17_en : Try.prog.cellsOf 65 = 2 := by kernel_rfl
set_option maxRecDepth 100000 in
theorem cells17_ens : Try.prog.cellsOf 23 = 1 := by kernel_rfl
set_option maxRecDepth 100000 in
theorem cells17_ab : Try.prog.cellsOf 73 = 3 := by kernel_rfl
set_option maxRecDepth 100000 in
theorem cells17_abs : Try.prog.cellsOf 39 = 1 := by kernel_rfl
set_option maxRecDepth 100000 in
theorem cells17_bas : Try.prog.cellsOf 29 = 1 := by kernel_rfl
set_option maxRecDepth 100000 in
theorem cells17_raft : Try.prog.cellsOf 26 = 10 := by kernel_rfl
set_option maxRecDepth 100000 in
theorem cells17_fetch : Try.prog.cellsOf 28 = 5 := by kernel_rfl
set_option maxRecDepth 100000 in
theorem cells17_fetched : Try.prog.cellsOf 31 = 10 := by kernel_rfl
set_option maxRecDepth 100000 in
theorem cells17_cmd : Try.prog.cellsOf 34 = 6 := by kernel_rfl
set_option maxRecDepth 100000 in
theorem cells17_msg : Try.prog.cellsOf 41 = 59 := by kernel_rfl
set_option maxRecDepth 100000 in
theorem bytes17_int : Try.prog.bytesOf 3 = 8 := by kernel_rfl
set_option maxRecDepth 100000 in
theorem bytes17_en : Try.prog.bytesOf 65 = 32 := by kernel_rfl
set_option maxRecDepth 100000 in
theorem bytes17_ba : Try.prog.bytesOf 38 = 72 := by kernel_rfl
set_option maxRecDepth 100000 in
theorem bytes17_ab : Try.prog.bytesOf 73 = 24 := by kernel_rfl
instance : Inhabited En := ⟨⟨0, none, 0, []⟩⟩
instance : Inhabited Ba := ⟨⟨⟨0, 0, 0, 0, 0, false, false, false, []⟩, none, 0⟩⟩
instance : Inhabited Ab := ⟨⟨0, 0, 0⟩⟩
section
variable {H : Type} {enc_ : TypeId × Value → H} {w : World} {base : Nat} {held : Bool}
theorem rows_read {α : Type} [Inhabited α] (cells : α → List Value) (sz by_ : Nat) (In : α → Prop) (tE tS : TypeId) (hU : Try.prog.underlying tS = some (.slice tE)) (hC : Try.prog.cellsOf tE = sz) (hB : Try.prog.bytesOf tE = by_) (h0 : 0 < sz) (hlen : ∀ o, (cells o).length = sz)
    (hopen : ∀ {fuel : Nat} {cs : List Value} {x : DataW H × List MemPlace}, DataW.trod enc_ Try.prog w base (fun _ => true) held fuel tE cs = some x → (∀ n ∈ x.1.weights Try.prog tE, n ≤ reachBytes) → ∃ o, cs = cells o ∧ In o)
    {fuel : Nat} {c : Value} {x : DataW H × List MemPlace} (h : DataW.trod enc_ Try.prog w base (fun _ => true) held fuel tS [c] = some x) (hs : ∀ n ∈ x.1.weights Try.prog tS, n ≤ reachBytes) :
    ∃ (os : List α) (a : Option Addr) (cap : Nat), c = .slice a os.length cap ∧ os.length * by_ ≤ reachBytes ∧ RowsAt cells sz w a os ∧ ∀ o ∈ os, In o := by
  rcases open_slice hU h with ⟨hcs, hx⟩ | ⟨a', len, cap, m, n, D, Pl, hcs, _, hl, hm, hmm, rfl, hel⟩
  · cases hcs
    exact ⟨[], none, 0, rfl, by simp, (fun i hi => by cases hi), (fun o ho => by cases ho)⟩
  · cases hcs
    have hmc : m = cap := by simpa using hmm
    have hs1 : len * by_ ≤ reachBytes := by
      have := hs _ (by simp only [DataW.weights, hU]; exact List.mem_cons_self ..)
      rw [hB] at this
      simp only [List.length_map, List.length_range, Nat.add_mul] at this
      omega
    have hs2 : ∀ i, i < len → ∀ k ∈ (D i).weights Try.prog tE, k ≤ reachBytes := fun i hi k hk => by
      refine hs k ?_
      simp only [DataW.weights, hU]
      refine List.mem_cons_of_mem _ (List.mem_append_left _ (mem_weightsAll (d := D i) ?_ hk))
      exact List.mem_map.2 ⟨i, List.mem_range.2 hi, rfl⟩
    have each : ∀ i, i < len → ∃ q : α, (∃ b off, a' = ⟨b, off, none⟩ ∧ b < w.heap.size ∧ ∀ j, j < sz → w.cell? ⟨b, off + i * sz + j, none⟩ = (cells q)[j]?) ∧ In q := by
      intro i hi
      obtain ⟨cs', h1, h2⟩ := hel i (by omega)
      rw [hC] at h1
      obtain ⟨_, _, hcell⟩ := World.cells?_some h1
      obtain ⟨q, e1, e2⟩ := hopen h2 (hs2 i hi)
      subst e1
      refine ⟨q, ?_, e2⟩
      obtain ⟨b, off, spot⟩ := a'
      have h00 := hcell 0 (by omega)
      have some_at : ∀ (q : α), ∃ u, (cells q)[0]? = some u := fun q => ⟨_, List.getElem?_eq_getElem (by rw [hlen]; exact h0)⟩
      have hspot : spot = none := by
        obtain ⟨cs0, f1, f2⟩ := hel 0 (by omega)
        rw [hC] at f1
        obtain ⟨_, _, fcell⟩ := World.cells?_some f1
        obtain ⟨q0, g1, _⟩ := hopen f2 (hs2 0 (by omega))
        subst g1
        obtain ⟨u, hu⟩ := some_at q0
        have := World.cell?_spot (a := (Addr.add ⟨b, off, spot⟩ (0 * sz)).add 0) (v := u) (by rw [fcell 0 (by omega)]; exact hu)
        simpa [Addr.add] using this
      subst hspot
      have hadd : ∀ j, (Addr.add ⟨b, off, none⟩ (i * sz)).add j = ⟨b, off + i * sz + j, none⟩ := fun j => by rw [Addr.add_mid, Addr.add_mid]
      refine ⟨b, off, rfl, ?_, fun j hj => ?_⟩
      · obtain ⟨u, hu⟩ := some_at q
        have := h00
        rw [hadd 0, hu] at this
        exact lt_of_cell (a := ⟨b, off + i * sz + 0, none⟩) (v := u) this
      · have := hcell j (by omega)
        rw [hadd j] at this
        exact this
    obtain ⟨q, hq⟩ := choose_lt (α := α) (n := len) (p := fun i q => (∃ b off, a' = ⟨b, off, none⟩ ∧ b < w.heap.size ∧ ∀ j, j < sz → w.cell? ⟨b, off + i * sz + j, none⟩ = (cells q)[j]?) ∧ In q) each
    refine ⟨(List.range len).map q, some a', cap, by simp, by simpa using hs1, fun i hi => ?_, fun o ho => ?_⟩
    · have hi' : i < len := by simpa using hi
      obtain ⟨⟨b, off, e1, e2, e3⟩, e4⟩ := hq i hi'
      simp only [List.getElem_map, List.getElem_range]
      exact ⟨b, off, by rw [e1], e2, e3⟩
    · obtain ⟨i, hi, rfl⟩ := List.mem_map.1 ho
      exact (hq i (List.mem_range.1 hi)).2

/-- A slice of ints. -/
theorem ints13_read {fuel : Nat} {c : Value} {x : DataW H × List MemPlace} (h : DataW.trod enc_ Try.prog w base (fun _ => true) held fuel 32 [c] = some x) (hs : ∀ n ∈ x.1.weights Try.prog 32, n ≤ reachBytes) :
    ∃ (l : List Int) (a : Option Addr) (cap : Nat), c = .slice a l.length cap ∧ IAt w a l ∧ l.length * 8 ≤ reachBytes ∧ (a = none → cap = 0) ∧ l.length ≤ cap ∧ ∀ x ∈ l, -9223372036854775808 ≤ x ∧ x < 9223372036854775808 := by
  rcases open_ints Try.underlying32 Try.underlying3 cells7_int h with ⟨hcs, hx⟩ | ⟨a, l, cap, zs, hcs, _, hl, hm, hz, hx, hcell, hwz⟩
  · cases hcs
    exact ⟨[], none, 0, rfl, (fun i hi => by cases hi), by simp, fun _ => rfl, Nat.le_refl _, (fun x hx => by cases hx)⟩
  · cases hcs
    have hz' : zs.length = cap := by simpa using hz
    have hR := RowOf.of (k := .i64) (cap := cap) (len := l) (zs := zs) (.inr ⟨_, rfl, hl, hm, hz', hcell, hwz⟩)
    obtain ⟨bs, e1, e2, e3⟩ := hR.1.ints
    subst e1
    refine ⟨bs, some a, cap, rfl, e2, ?_, (fun h => by cases h), hl, e3⟩
    rw [hx] at hs
    have := hs ((lits .i64 (zs.take bs.length) (H := H)).length * Try.prog.bytesOf 3 + (lits .i64 (zs.drop bs.length) (H := H)).length * Try.prog.bytesOf 3) (by simp [DataW.weights, Try.underlying32, Nat.add_mul])
    rw [bytes17_int] at this
    simp only [lits, List.length_map, List.length_take, List.length_drop] at this
    omega
set_option maxRecDepth 100000 in
set_option maxHeartbeats 4000000 in
theorem en_open {fuel : Nat} {cs : List Value} {x : DataW H × List MemPlace} (h : DataW.trod enc_ Try.prog w base (fun _ => true) held fuel 65 cs = some x) (hs : ∀ n ∈ x.1.weights Try.prog 65, n ≤ reachBytes) :
    ∃ o : En, cs = cellsEn o ∧ EnIn w o := by
  obtain ⟨xs, n, _, rfl, hlen, hxl, hf⟩ := DataW.trod_struct Try.underlying65 h
  rw [cells17_en] at hlen
  match xs, hxl, cs, hlen with
  | y0 :: y1 :: [], _, c0 :: c1 :: [], _ =>
    have g0 := hf 0 _ rfl
    have g1 := hf 1 _ rfl
    simp [cells7_int, cells7_sl] at g0 g1
    obtain ⟨v0, e0, _, b0⟩ := DataW.trod_int Try.underlying3 g0
    cases e0
    have B0 := bounds_i64 b0
    obtain ⟨v1, a1, p1, e1, f1, n1, _⟩ := bytes7_read g1 (fun q hq => hs q (by
      simp only [DataW.weights, Try.underlying65]
      exact DataW.weights_mem_each (j := 1) rfl rfl q hq))
    subst e1
    exact ⟨⟨v0, a1, p1, v1⟩, rfl, f1, n1, ⟨B0.1, by show v0 < _; omega⟩⟩
set_option maxRecDepth 100000 in
set_option maxHeartbeats 4000000 in
theorem ba_open {fuel : Nat} {cs : List Value} {x : DataW H × List MemPlace} (h : DataW.trod enc_ Try.prog w base (fun _ => true) held fuel 38 cs = some x) (hs : ∀ n ∈ x.1.weights Try.prog 38, n ≤ reachBytes) :
    ∃ o : Ba, cs = cellsBa o ∧ BaIn w o := by
  obtain ⟨xs, n, _, rfl, hlen, hxl, hf⟩ := DataW.trod_struct Try.underlying38 h
  rw [cells7_batch] at hlen
  match xs, hxl, cs, hlen with
  | y0 :: y1 :: y2 :: y3 :: y4 :: y5 :: y6 :: y7 :: y8 :: [], _, c0 :: c1 :: c2 :: c3 :: c4 :: c5 :: c6 :: c7 :: c8 :: [], _ =>
    have g0 := hf 0 _ rfl
    have g1 := hf 1 _ rfl
    have g2 := hf 2 _ rfl
    have g3 := hf 3 _ rfl
    have g4 := hf 4 _ rfl
    have g5 := hf 5 _ rfl
    have g6 := hf 6 _ rfl
    have g7 := hf 7 _ rfl
    have g8 := hf 8 _ rfl
    simp [cells7_int, cells7_u64, cells7_bool, cells7_sls] at g0 g1 g2 g3 g4 g5 g6 g7 g8
    obtain ⟨v0, e0, _, b0⟩ := DataW.trod_int Try.underlying3 g0
    cases e0
    have B0 := bounds_i64 b0
    obtain ⟨v1, e1, _, b1⟩ := DataW.trod_int Try.underlying3 g1
    cases e1
    have B1 := bounds_i64 b1
    obtain ⟨u2, e2, _, b2⟩ := DataW.trod_int Try.underlying35 g2
    cases e2
    have B2 := bounds_u64 b2
    obtain ⟨v2, rfl⟩ := Int.eq_ofNat_of_zero_le B2.1
    obtain ⟨v3, e3, _, b3⟩ := DataW.trod_int Try.underlying3 g3
    cases e3
    have B3 := bounds_i64 b3
    obtain ⟨v4, e4, _, b4⟩ := DataW.trod_int Try.underlying3 g4
    cases e4
    have B4 := bounds_i64 b4
    obtain ⟨v5, e5, _⟩ := DataW.trod_bool Try.underlying4 g5
    cases e5
    obtain ⟨v6, e6, _⟩ := DataW.trod_bool Try.underlying4 g6
    cases e6
    obtain ⟨v7, e7, _⟩ := DataW.trod_bool Try.underlying4 g7
    cases e7
    obtain ⟨v8, a8, p8, e8, f8, _⟩ := pays7_read g8 (fun q hq => hs q (by
      simp only [DataW.weights, Try.underlying38]
      exact DataW.weights_mem_each (j := 8) rfl rfl q hq))
    subst e8
    exact ⟨⟨⟨v0, v1, v2, v3, v4, v5, v6, v7, v8⟩, a8, p8⟩, rfl, f8, ⟨⟨B0.1, by show v0 < _; omega⟩, ⟨B1.1, by show v1 < _; omega⟩, by show v2 < _; omega, ⟨B3.1, by show v3 < _; omega⟩, ⟨B4.1, by show v4 < _; omega⟩⟩⟩
set_option maxRecDepth 100000 in
set_option maxHeartbeats 4000000 in
theorem ab_open {fuel : Nat} {cs : List Value} {x : DataW H × List MemPlace} (h : DataW.trod enc_ Try.prog w base (fun _ => true) held fuel 73 cs = some x) (hs : ∀ n ∈ x.1.weights Try.prog 73, n ≤ reachBytes) :
    ∃ o : Ab, cs = cellsAb o ∧ AbIn w o := by
  obtain ⟨xs, n, _, rfl, hlen, hxl, hf⟩ := DataW.trod_struct Try.underlying73 h
  rw [cells17_ab] at hlen
  match xs, hxl, cs, hlen with
  | y0 :: y1 :: y2 :: [], _, c0 :: c1 :: c2 :: [], _ =>
    have g0 := hf 0 _ rfl
    have g1 := hf 1 _ rfl
    have g2 := hf 2 _ rfl
    simp [cells7_u64, cells7_int] at g0 g1 g2
    obtain ⟨u0, e0, _, b0⟩ := DataW.trod_int Try.underlying35 g0
    cases e0
    have B0 := bounds_u64 b0
    obtain ⟨v0, rfl⟩ := Int.eq_ofNat_of_zero_le B0.1
    obtain ⟨v1, e1, _, b1⟩ := DataW.trod_int Try.underlying3 g1
    cases e1
    have B1 := bounds_i64 b1
    obtain ⟨v2, e2, _, b2⟩ := DataW.trod_int Try.underlying3 g2
    cases e2
    have B2 := bounds_i64 b2
    exact ⟨⟨v0, v1, v2⟩, rfl, by show v0 < _; omega, ⟨B1.1, by show v1 < _; omega⟩, ⟨B2.1, by show v2 < _; omega⟩⟩
theorem ens_read {fuel : Nat} {c : Value} {x : DataW H × List MemPlace} (h : DataW.trod enc_ Try.prog w base (fun _ => true) held fuel 23 [c] = some x) (hs : ∀ n ∈ x.1.weights Try.prog 23, n ≤ reachBytes) :
    ∃ (ps : List En) (a : Option Addr) (cap : Nat), c = .slice a ps.length cap ∧ ps.length * 32 ≤ reachBytes ∧ RowsAt cellsEn 2 w a ps ∧ ∀ p ∈ ps, EnIn w p :=
  rows_read cellsEn 2 32 (EnIn w) 65 23 Try.underlying23 cells17_en bytes17_en (by omega) (fun _ => rfl) (fun h hs => en_open h hs) h hs
theorem bas_read {fuel : Nat} {c : Value} {x : DataW H × List MemPlace} (h : DataW.trod enc_ Try.prog w base (fun _ => true) held fuel 29 [c] = some x) (hs : ∀ n ∈ x.1.weights Try.prog 29, n ≤ reachBytes) :
    ∃ (ps : List Ba) (a : Option Addr) (cap : Nat), c = .slice a ps.length cap ∧ ps.length * 72 ≤ reachBytes ∧ RowsAt cellsBa 9 w a ps ∧ ∀ p ∈ ps, BaIn w p :=
  rows_read cellsBa 9 72 (BaIn w) 38 29 Try.underlying29 cells7_batch bytes17_ba (by omega) (fun _ => rfl) (fun h hs => ba_open h hs) h hs
theorem abs_read {fuel : Nat} {c : Value} {x : DataW H × List MemPlace} (h : DataW.trod enc_ Try.prog w base (fun _ => true) held fuel 39 [c] = some x) (hs : ∀ n ∈ x.1.weights Try.prog 39, n ≤ reachBytes) :
    ∃ (ps : List Ab) (a : Option Addr) (cap : Nat), c = .slice a ps.length cap ∧ ps.length * 24 ≤ reachBytes ∧ RowsAt cellsAb 3 w a ps ∧ ∀ p ∈ ps, AbIn w p :=
  rows_read cellsAb 3 24 (AbIn w) 73 39 Try.underlying39 cells17_ab bytes17_ab (by omega) (fun _ => rfl) (fun h hs => ab_open h hs) h hs
set_option maxRecDepth 100000 in
set_option maxHeartbeats 4000000 in
theorem raft_open {fuel : Nat} {cs : List Value} {x : DataW H × List MemPlace} (h : DataW.trod enc_ Try.prog w base (fun _ => true) held fuel 26 cs = some x) (hs : ∀ n ∈ x.1.weights Try.prog 26, n ≤ reachBytes) :
    ∃ (r1 r2 r3 r4 r5 r6 r7 : Int) (rj : Bool) (en : List En) (ea : Option Addr) (ec : Nat) (sn : List Nat) (sa : Option Addr) (sc : Nat), cs = [.int .i64 r1, .int .i64 r2, .int .i64 r3, .int .i64 r4, .int .i64 r5, .int .i64 r6, .int .i64 r7, .bool rj, .slice ea en.length ec, .slice sa sn.length sc] ∧ (∀ x ∈ [r1, r2, r3, r4, r5, r6, r7], I64 x) ∧ RowsAt cellsEn 2 w ea en ∧ (∀ o ∈ en, EnIn w o) ∧ en.length ≤ 140737488355328 ∧ LAt w sa sn ∧ (sa = none → sc = 0) := by
  obtain ⟨xs, n, _, rfl, hlen, hxl, hf⟩ := DataW.trod_struct Try.underlying26 h
  rw [cells17_raft] at hlen
  match xs, hxl, cs, hlen with
  | y0 :: y1 :: y2 :: y3 :: y4 :: y5 :: y6 :: y7 :: y8 :: y9 :: [], _, c0 :: c1 :: c2 :: c3 :: c4 :: c5 :: c6 :: c7 :: c8 :: c9 :: [], _ =>
    have g0 := hf 0 _ rfl
    have g1 := hf 1 _ rfl
    have g2 := hf 2 _ rfl
    have g3 := hf 3 _ rfl
    have g4 := hf 4 _ rfl
    have g5 := hf 5 _ rfl
    have g6 := hf 6 _ rfl
    have g7 := hf 7 _ rfl
    have g8 := hf 8 _ rfl
    have g9 := hf 9 _ rfl
    simp [cells7_int, cells7_bool, cells17_ens, cells7_sl] at g0 g1 g2 g3 g4 g5 g6 g7 g8 g9
    obtain ⟨v0, e0, _, b0⟩ := DataW.trod_int Try.underlying3 g0
    cases e0
    have B0 := bounds_i64 b0
    obtain ⟨v1, e1, _, b1⟩ := DataW.trod_int Try.underlying3 g1
    cases e1
    have B1 := bounds_i64 b1
    obtain ⟨v2, e2, _, b2⟩ := DataW.trod_int Try.underlying3 g2
    cases e2
    have B2 := bounds_i64 b2
    obtain ⟨v3, e3, _, b3⟩ := DataW.trod_int Try.underlying3 g3
    cases e3
    have B3 := bounds_i64 b3
    obtain ⟨v4, e4, _, b4⟩ := DataW.trod_int Try.underlying3 g4
    cases e4
    have B4 := bounds_i64 b4
    obtain ⟨v5, e5, _, b5⟩ := DataW.trod_int Try.underlying3 g5
    cases e5
    have B5 := bounds_i64 b5
    obtain ⟨v6, e6, _, b6⟩ := DataW.trod_int Try.underlying3 g6
    cases e6
    have B6 := bounds_i64 b6
    obtain ⟨v7, e7, _⟩ := DataW.trod_bool Try.underlying4 g7
    cases e7
    obtain ⟨v8, a8, p8, e8, l8, f8, q8⟩ := ens_read g8 (fun q hq => hs q (by
      simp only [DataW.weights, Try.underlying26]
      exact DataW.weights_mem_each (j := 8) rfl rfl q hq))
    subst e8
    unfold reachBytes at l8
    obtain ⟨v9, a9, p9, e9, f9, n9, _⟩ := bytes7_read g9 (fun q hq => hs q (by
      simp only [DataW.weights, Try.underlying26]
      exact DataW.weights_mem_each (j := 9) rfl rfl q hq))
    subst e9
    refine ⟨v0, v1, v2, v3, v4, v5, v6, v7, v8, a8, p8, v9, a9, p9, rfl, ?_, f8, q8, by omega, f9, n9⟩
    exact by
      intro x hx
      simp only [List.mem_cons, List.not_mem_nil, or_false] at hx
      rcases hx with h | h | h | h | h | h | h
      · rw [h]; exact ⟨B0.1, by omega⟩
      · rw [h]; exact ⟨B1.1, by omega⟩
      · rw [h]; exact ⟨B2.1, by omega⟩
      · rw [h]; exact ⟨B3.1, by omega⟩
      · rw [h]; exact ⟨B4.1, by omega⟩
      · rw [h]; exact ⟨B5.1, by omega⟩
      · rw [h]; exact ⟨B6.1, by omega⟩
set_option maxRecDepth 100000 in
set_option maxHeartbeats 4000000 in
theorem fetch_open {fuel : Nat} {cs : List Value} {x : DataW H × List MemPlace} (h : DataW.trod enc_ Try.prog w base (fun _ => true) held fuel 28 cs = some x) (hs : ∀ n ∈ x.1.weights Try.prog 28, n ≤ reachBytes) :
    ∃ f1 f2 f3 f4 f5 : Int, cs = [.int .i64 f1, .int .i64 f2, .int .i64 f3, .int .i64 f4, .int .i64 f5] ∧ ∀ x ∈ [f1, f2, f3, f4, f5], I64 x := by
  obtain ⟨xs, n, _, rfl, hlen, hxl, hf⟩ := DataW.trod_struct Try.underlying28 h
  rw [cells17_fetch] at hlen
  match xs, hxl, cs, hlen with
  | y0 :: y1 :: y2 :: y3 :: y4 :: [], _, c0 :: c1 :: c2 :: c3 :: c4 :: [], _ =>
    have g0 := hf 0 _ rfl
    have g1 := hf 1 _ rfl
    have g2 := hf 2 _ rfl
    have g3 := hf 3 _ rfl
    have g4 := hf 4 _ rfl
    simp [cells7_int] at g0 g1 g2 g3 g4
    obtain ⟨v0, e0, _, b0⟩ := DataW.trod_int Try.underlying3 g0
    cases e0
    have B0 := bounds_i64 b0
    obtain ⟨v1, e1, _, b1⟩ := DataW.trod_int Try.underlying3 g1
    cases e1
    have B1 := bounds_i64 b1
    obtain ⟨v2, e2, _, b2⟩ := DataW.trod_int Try.underlying3 g2
    cases e2
    have B2 := bounds_i64 b2
    obtain ⟨v3, e3, _, b3⟩ := DataW.trod_int Try.underlying3 g3
    cases e3
    have B3 := bounds_i64 b3
    obtain ⟨v4, e4, _, b4⟩ := DataW.trod_int Try.underlying3 g4
    cases e4
    have B4 := bounds_i64 b4
    refine ⟨v0, v1, v2, v3, v4, rfl, ?_⟩
    exact by
      intro x hx
      simp only [List.mem_cons, List.not_mem_nil, or_false] at hx
      rcases hx with h | h | h | h | h
      · rw [h]; exact ⟨B0.1, by omega⟩
      · rw [h]; exact ⟨B1.1, by omega⟩
      · rw [h]; exact ⟨B2.1, by omega⟩
      · rw [h]; exact ⟨B3.1, by omega⟩
      · rw [h]; exact ⟨B4.1, by omega⟩
set_option maxRecDepth 100000 in
set_option maxHeartbeats 4000000 in
theorem fetched_open {fuel : Nat} {cs : List Value} {x : DataW H × List MemPlace} (h : DataW.trod enc_ Try.prog w base (fun _ => true) held fuel 31 cs = some x) (hs : ∀ n ∈ x.1.weights Try.prog 31, n ≤ reachBytes) :
    ∃ (g1 g2 g3 g4 : Int) (gd : Bool) (g5 g6 g7 g8 : Int) (gb : List Ba) (ga : Option Addr) (gc : Nat), cs = [.int .i64 g1, .int .i64 g2, .int .i64 g3, .int .i64 g4, .bool gd, .int .i64 g5, .int .i64 g6, .int .i64 g7, .int .i64 g8, .slice ga gb.length gc] ∧ (∀ x ∈ [g1, g2, g3, g4, g5, g6, g7, g8], I64 x) ∧ RowsAt cellsBa 9 w ga gb ∧ (∀ o ∈ gb, BaIn w o) ∧ gb.length ≤ 140737488355328 := by
  obtain ⟨xs, n, _, rfl, hlen, hxl, hf⟩ := DataW.trod_struct Try.underlying31 h
  rw [cells17_fetched] at hlen
  match xs, hxl, cs, hlen with
  | y0 :: y1 :: y2 :: y3 :: y4 :: y5 :: y6 :: y7 :: y8 :: y9 :: [], _, c0 :: c1 :: c2 :: c3 :: c4 :: c5 :: c6 :: c7 :: c8 :: c9 :: [], _ =>
    have g0 := hf 0 _ rfl
    have g1 := hf 1 _ rfl
    have g2 := hf 2 _ rfl
    have g3 := hf 3 _ rfl
    have g4 := hf 4 _ rfl
    have g5 := hf 5 _ rfl
    have g6 := hf 6 _ rfl
    have g7 := hf 7 _ rfl
    have g8 := hf 8 _ rfl
    have g9 := hf 9 _ rfl
    simp [cells7_int, cells17_err, cells7_bool, cells17_bas] at g0 g1 g2 g3 g4 g5 g6 g7 g8 g9
    obtain ⟨v0, e0, _, b0⟩ := DataW.trod_int Try.underlying3 g0
    cases e0
    have B0 := bounds_i64 b0
    obtain ⟨v1, e1, _, b1⟩ := DataW.trod_int Try.underlying3 g1
    cases e1
    have B1 := bounds_i64 b1
    obtain ⟨v2, e2, _, b2⟩ := DataW.trod_int Try.underlying22 g2
    cases e2
    have B2 := bounds_i64 b2
    obtain ⟨v3, e3, _, b3⟩ := DataW.trod_int Try.underlying3 g3
    cases e3
    have B3 := bounds_i64 b3
    obtain ⟨v4, e4, _⟩ := DataW.trod_bool Try.underlying4 g4
    cases e4
    obtain ⟨v5, e5, _, b5⟩ := DataW.trod_int Try.underlying3 g5
    cases e5
    have B5 := bounds_i64 b5
    obtain ⟨v6, e6, _, b6⟩ := DataW.trod_int Try.underlying3 g6
    cases e6
    have B6 := bounds_i64 b6
    obtain ⟨v7, e7, _, b7⟩ := DataW.trod_int Try.underlying3 g7
    cases e7
    have B7 := bounds_i64 b7
    obtain ⟨v8, e8, _, b8⟩ := DataW.trod_int Try.underlying3 g8
    cases e8
    have B8 := bounds_i64 b8
    obtain ⟨v9, a9, p9, e9, l9, f9, q9⟩ := bas_read g9 (fun q hq => hs q (by
      simp only [DataW.weights, Try.underlying31]
      exact DataW.weights_mem_each (j := 9) rfl rfl q hq))
    subst e9
    unfold reachBytes at l9
    refine ⟨v0, v1, v2, v3, v4, v5, v6, v7, v8, v9, a9, p9, rfl, ?_, f9, q9, by omega⟩
    exact by
      intro x hx
      simp only [List.mem_cons, List.not_mem_nil, or_false] at hx
      rcases hx with h | h | h | h | h | h | h | h
      · rw [h]; exact ⟨B0.1, by omega⟩
      · rw [h]; exact ⟨B1.1, by omega⟩
      · rw [h]; exact ⟨B2.1, by omega⟩
      · rw [h]; exact ⟨B3.1, by omega⟩
      · rw [h]; exact ⟨B5.1, by omega⟩
      · rw [h]; exact ⟨B6.1, by omega⟩
      · rw [h]; exact ⟨B7.1, by omega⟩
      · rw [h]; exact ⟨B8.1, by omega⟩
set_option maxRecDepth 100000 in
set_option maxHeartbeats 4000000 in
theorem cmd_open {fuel : Nat} {cs : List Value} {x : DataW H × List MemPlace} (h : DataW.trod enc_ Try.prog w base (fun _ => true) held fuel 34 cs = some x) (hs : ∀ n ∈ x.1.weights Try.prog 34, n ≤ reachBytes) :
    ∃ c : Cm, cs = [.int .i64 c.kd, .int .i64 c.nd, .int .i64 c.pt, .int .i64 c.ep, .int .i64 c.ve, .slice c.a c.l.length c.k] ∧ CIn w c ∧ CFit c := by
  obtain ⟨xs, n, _, rfl, hlen, hxl, hf⟩ := DataW.trod_struct Try.underlying34 h
  rw [cells17_cmd] at hlen
  match xs, hxl, cs, hlen with
  | y0 :: y1 :: y2 :: y3 :: y4 :: y5 :: [], _, c0 :: c1 :: c2 :: c3 :: c4 :: c5 :: [], _ =>
    have g0 := hf 0 _ rfl
    have g1 := hf 1 _ rfl
    have g2 := hf 2 _ rfl
    have g3 := hf 3 _ rfl
    have g4 := hf 4 _ rfl
    have g5 := hf 5 _ rfl
    simp [cells7_int, cells17_ints] at g0 g1 g2 g3 g4 g5
    obtain ⟨v0, e0, _, b0⟩ := DataW.trod_int Try.underlying3 g0
    cases e0
    have B0 := bounds_i64 b0
    obtain ⟨v1, e1, _, b1⟩ := DataW.trod_int Try.underlying3 g1
    cases e1
    have B1 := bounds_i64 b1
    obtain ⟨v2, e2, _, b2⟩ := DataW.trod_int Try.underlying3 g2
    cases e2
    have B2 := bounds_i64 b2
    obtain ⟨v3, e3, _, b3⟩ := DataW.trod_int Try.underlying3 g3
    cases e3
    have B3 := bounds_i64 b3
    obtain ⟨v4, e4, _, b4⟩ := DataW.trod_int Try.underlying3 g4
    cases e4
    have B4 := bounds_i64 b4
    obtain ⟨v5, a5, p5, e5, f5, l5, _, _, q5⟩ := ints13_read g5 (fun q hq => hs q (by
      simp only [DataW.weights, Try.underlying34]
      exact DataW.weights_mem_each (j := 5) rfl rfl q hq))
    subst e5
    unfold reachBytes at l5
    exact ⟨⟨v0, v1, v2, v3, v4, a5, p5, v5⟩, rfl, ⟨f5, by show v5.length ≤ maxLen; unfold maxLen; omega⟩, ⟨⟨B0.1, by show v0 < _; omega⟩, ⟨B1.1, by show v1 < _; omega⟩, ⟨B2.1, by show v2 < _; omega⟩, ⟨B3.1, by show v3 < _; omega⟩, ⟨B4.1, by show v4 < _; omega⟩, q5⟩⟩
set_option maxRecDepth 100000 in
set_option maxHeartbeats 4000000 in
theorem mg_open {fuel : Nat} {cs : List Value} {x : DataW H × List MemPlace} (h : DataW.trod enc_ Try.prog w base (fun _ => true) held fuel 41 cs = some x) (hs : ∀ n ∈ x.1.weights Try.prog 41, n ≤ reachBytes) :
    ∃ m : Mg, cs = mgL m ∧ MgIn w m := by
  obtain ⟨xs, n, _, rfl, hlen, hxl, hf⟩ := DataW.trod_struct Try.underlying41 h
  rw [cells17_msg] at hlen
  match xs, hxl, cs, hlen with
  | y0 :: y1 :: y2 :: y3 :: y4 :: y5 :: y6 :: y7 :: y8 :: y9 :: y10 :: y11 :: y12 :: y13 :: y14 :: y15 :: y16 :: y17 :: y18 :: y19 :: y20 :: y21 :: y22 :: y23 :: [], _, c0 :: c1 :: c2 :: c3 :: c4 :: c5 :: c6 :: c7 :: c8 :: c9 :: c10 :: c11 :: c12 :: c13 :: c14 :: c15 :: c16 :: c17 :: c18 :: c19 :: c20 :: c21 :: c22 :: c23 :: c24 :: c25 :: c26 :: c27 :: c28 :: c29 :: c30 :: c31 :: c32 :: c33 :: c34 :: c35 :: c36 :: c37 :: c38 :: c39 :: c40 :: c41 :: c42 :: c43 :: c44 :: c45 :: c46 :: c47 :: c48 :: c49 :: c50 :: c51 :: c52 :: c53 :: c54 :: c55 :: c56 :: c57 :: c58 :: [], _ =>
    have g0 := hf 0 _ rfl
    have g1 := hf 1 _ rfl
    have g2 := hf 2 _ rfl
    have g3 := hf 3 _ rfl
    have g4 := hf 4 _ rfl
    have g5 := hf 5 _ rfl
    have g6 := hf 6 _ rfl
    have g7 := hf 7 _ rfl
    have g8 := hf 8 _ rfl
    have g9 := hf 9 _ rfl
    have g10 := hf 10 _ rfl
    have g11 := hf 11 _ rfl
    have g12 := hf 12 _ rfl
    have g13 := hf 13 _ rfl
    have g14 := hf 14 _ rfl
    have g15 := hf 15 _ rfl
    have g16 := hf 16 _ rfl
    have g17 := hf 17 _ rfl
    have g18 := hf 18 _ rfl
    have g19 := hf 19 _ rfl
    have g20 := hf 20 _ rfl
    have g21 := hf 21 _ rfl
    have g22 := hf 22 _ rfl
    have g23 := hf 23 _ rfl
    simp [cells7_int, cells17_err, cells17_raft, cells17_fetch, cells17_fetched, cells17_cmd, cells7_batch, cells7_u64, cells7_bool, cells17_ints, cells17_bas, cells17_abs] at g0 g1 g2 g3 g4 g5 g6 g7 g8 g9 g10 g11 g12 g13 g14 g15 g16 g17 g18 g19 g20 g21 g22 g23
    obtain ⟨v0, e0, _, b0⟩ := DataW.trod_int Try.underlying3 g0
    cases e0
    have B0 := bounds_i64 b0
    obtain ⟨v1, e1, _, b1⟩ := DataW.trod_int Try.underlying3 g1
    cases e1
    have B1 := bounds_i64 b1
    obtain ⟨v2, e2, _, b2⟩ := DataW.trod_int Try.underlying3 g2
    cases e2
    have B2 := bounds_i64 b2
    obtain ⟨v3, e3, _, b3⟩ := DataW.trod_int Try.underlying3 g3
    cases e3
    have B3 := bounds_i64 b3
    obtain ⟨v4, e4, _, b4⟩ := DataW.trod_int Try.underlying22 g4
    cases e4
    have B4 := bounds_i64 b4
    have o5 := raft_open g5 (fun q hq => hs q (by
      simp only [DataW.weights, Try.underlying41]
      exact DataW.weights_mem_each (j := 5) rfl rfl q hq))
    have o6 := fetch_open g6 (fun q hq => hs q (by
      simp only [DataW.weights, Try.underlying41]
      exact DataW.weights_mem_each (j := 6) rfl rfl q hq))
    have o7 := fetched_open g7 (fun q hq => hs q (by
      simp only [DataW.weights, Try.underlying41]
      exact DataW.weights_mem_each (j := 7) rfl rfl q hq))
    have o8 := cmd_open g8 (fun q hq => hs q (by
      simp only [DataW.weights, Try.underlying41]
      exact DataW.weights_mem_each (j := 8) rfl rfl q hq))
    have o9 := ba_open g9 (fun q hq => hs q (by
      simp only [DataW.weights, Try.underlying41]
      exact DataW.weights_mem_each (j := 9) rfl rfl q hq))
    obtain ⟨v10, e10, _, b10⟩ := DataW.trod_int Try.underlying3 g10
    cases e10
    have B10 := bounds_i64 b10
    obtain ⟨v11, e11, _, b11⟩ := DataW.trod_int Try.underlying3 g11
    cases e11
    have B11 := bounds_i64 b11
    obtain ⟨v12, e12, _, b12⟩ := DataW.trod_int Try.underlying3 g12
    cases e12
    have B12 := bounds_i64 b12
    obtain ⟨v13, e13, _, b13⟩ := DataW.trod_int Try.underlying3 g13
    cases e13
    have B13 := bounds_i64 b13
    obtain ⟨u14, e14, _, b14⟩ := DataW.trod_int Try.underlying35 g14
    cases e14
    have B14 := bounds_u64 b14
    obtain ⟨v14, rfl⟩ := Int.eq_ofNat_of_zero_le B14.1
    obtain ⟨v15, e15, _, b15⟩ := DataW.trod_int Try.underlying3 g15
    cases e15
    have B15 := bounds_i64 b15
    obtain ⟨v16, e16, _⟩ := DataW.trod_bool Try.underlying4 g16
    cases e16
    obtain ⟨v17, e17, _, b17⟩ := DataW.trod_int Try.underlying3 g17
    cases e17
    have B17 := bounds_i64 b17
    obtain ⟨v18, e18, _, b18⟩ := DataW.trod_int Try.underlying3 g18
    cases e18
    have B18 := bounds_i64 b18
    obtain ⟨v19, e19, _, b19⟩ := DataW.trod_int Try.underlying3 g19
    cases e19
    have B19 := bounds_i64 b19
    obtain ⟨v20, a20, p20, e20, f20, l20, _, _, q20⟩ := ints13_read g20 (fun q hq => hs q (by
      simp only [DataW.weights, Try.underlying41]
      exact DataW.weights_mem_each (j := 20) rfl rfl q hq))
    subst e20
    unfold reachBytes at l20
    obtain ⟨v21, a21, p21, e21, l21, f21, q21⟩ := bas_read g21 (fun q hq => hs q (by
      simp only [DataW.weights, Try.underlying41]
      exact DataW.weights_mem_each (j := 21) rfl rfl q hq))
    subst e21
    unfold reachBytes at l21
    obtain ⟨v22, a22, p22, e22, l22, f22, q22⟩ := abs_read g22 (fun q hq => hs q (by
      simp only [DataW.weights, Try.underlying41]
      exact DataW.weights_mem_each (j := 22) rfl rfl q hq))
    subst e22
    unfold reachBytes at l22
    obtain ⟨v23, e23, _, b23⟩ := DataW.trod_int Try.underlying3 g23
    cases e23
    have B23 := bounds_i64 b23
    obtain ⟨r1, r2, r3, r4, r5, r6, r7, rj, en, ea, ec, sn, sa, sc, er, hr1, hr2, hr3, hr4, hr5, hr6⟩ := o5
    obtain ⟨f1_, f2_, f3_, f4_, f5_, ef, hf1⟩ := o6
    obtain ⟨g1_, g2_, g3_, g4_, gd, g5_, g6_, g7_, g8_, gb, ga, gc, eg, hg1, hg2, hg3, hg4⟩ := o7
    obtain ⟨c, ec_, hc1, hc2⟩ := o8
    obtain ⟨B, eB, hB⟩ := o9
    simp only [List.cons.injEq, and_true] at er ef eg ec_
    obtain ⟨rfl, rfl, rfl, rfl, rfl, rfl, rfl, rfl, rfl, rfl⟩ := er
    obtain ⟨rfl, rfl, rfl, rfl, rfl⟩ := ef
    obtain ⟨rfl, rfl, rfl, rfl, rfl, rfl, rfl, rfl, rfl, rfl⟩ := eg
    obtain ⟨rfl, rfl, rfl, rfl, rfl, rfl⟩ := ec_
    unfold cellsBa at eB
    simp only [List.cons.injEq, and_true] at eB
    obtain ⟨rfl, rfl, rfl, rfl, rfl, rfl, rfl, rfl, rfl⟩ := eB
    refine ⟨⟨v0, v1, v2, v3, v4, r1, r2, r3, r4, r5, r6, r7, rj, en, ea, ec, sn, sa, sc, f1_, f2_, f3_, f4_, f5_, g1_, g2_, g3_, g4_, gd, g5_, g6_, g7_, g8_, gb, ga, gc, c, B.b, B.a, B.c, v10, v11, v12, v13, v14, v15, v16, v17, v18, v19, v20, a20, p20, v21, a21, p21, v22, a22, p22, v23⟩, rfl, ?_⟩
    refine ⟨?_, hr1, hr2, hr3, hr4, hr5, hr6, hf1, hg1, hg2, hg3, hg4, hc1, hc2, hB.1, hB.2, ?_, ?_, f20, q20, ?_, f21, q21, ?_, f22, q22, ?_⟩
    · intro x hx
      simp only [List.mem_cons, List.not_mem_nil, or_false] at hx
      rcases hx with h | h | h | h | h
      · rw [h]; exact ⟨B0.1, by omega⟩
      · rw [h]; exact ⟨B1.1, by omega⟩
      · rw [h]; exact ⟨B2.1, by omega⟩
      · rw [h]; exact ⟨B3.1, by omega⟩
      · rw [h]; exact ⟨B4.1, by omega⟩
    · intro x hx
      simp only [List.mem_cons, List.not_mem_nil, or_false] at hx
      rcases hx with h | h | h | h | h | h | h | h | h
      · rw [h]; exact ⟨B10.1, by omega⟩
      · rw [h]; exact ⟨B11.1, by omega⟩
      · rw [h]; exact ⟨B12.1, by omega⟩
      · rw [h]; exact ⟨B13.1, by omega⟩
      · rw [h]; exact ⟨B15.1, by omega⟩
      · rw [h]; exact ⟨B17.1, by omega⟩
      · rw [h]; exact ⟨B18.1, by omega⟩
      · rw [h]; exact ⟨B19.1, by omega⟩
      · rw [h]; exact ⟨B23.1, by omega⟩
    · show v14 < _; omega
    · show v20.length ≤ _; omega
    · show v21.length ≤ _; omega
    · show v22.length ≤ _; omega
theorem mg_read {fuel : Nat} {v : Value} {x : DataW H × List MemPlace} (h : DataW.trod enc_ Try.prog w base (fun _ => true) held fuel 41 v.cells.toList = some x) (hs : ∀ n ∈ x.1.weights Try.prog 41, n ≤ reachBytes) :
    ∃ m : Mg, v = .agg (mgL m).toArray ∧ MgIn w m := by
  obtain ⟨m, hcs, hp⟩ := mg_open h hs
  refine ⟨m, ?_, hp⟩
  cases v with
  | agg q =>
    have e' : q.toList = _ := hcs
    show Value.agg q = Value.agg _
    congr 1
    exact Array.ext' e'
  | _ => have := congrArg List.length hcs; simp [Value.cells, mgL] at this
end
end Go.Proofs.Ytblmondkdcpkaaa


namespace Go.Proofs.Ytblmondkdcpkaaa
set_option linter.unusedVariables false

theorem bulk_one {H : Type} (d : DataW H) : 1 ≤ Rows.uptoBulk d := by
  cases d with
  | lit l => cases l <;> simp [Rows.uptoBulk]
  | nil => simp [Rows.uptoBulk]
  | ptr d => simp [Rows.uptoBulk]
  | slice elems spare => simp [Rows.uptoBulk]
  | agg parts => simp [Rows.uptoBulk]
  | iface t d => simp [Rows.uptoBulk]
  | map entries => simp [Rows.uptoBulk]
  | held h => simp [Rows.uptoBulk]
theorem bulk_part {H : Type} {d : DataW H} {l : List (DataW H)} (h : d ∈ l) : Rows.uptoBulk d ≤ Rows.uptoBulkAll l := by
  induction l with
  | nil => cases h
  | cons x r ih =>
    simp only [Rows.uptoBulkAll]
    cases List.mem_cons.1 h with
    | inl e => subst e; omega
    | inr e => have := ih e; omega
theorem bulk_len {H : Type} (l : List (DataW H)) : l.length ≤ Rows.uptoBulkAll l := by
  induction l with
  | nil => simp [Rows.uptoBulkAll]
  | cons x r ih => have := bulk_one x; simp only [Rows.uptoBulkAll, List.length_cons]; omega

end Go.Proofs.Ytblmondkdcpkaaa
