/-
  A batch as it is read: its fields, its values, and how much they are at most. No conditions beyond the reading and the sizes that the reach allows.
-/
import Derived.Test.YtcekleconjmfjaaRows
import Derived.Test.YtcekleconjmfjaaCp7
import Derived.Deep.Slices
import Derived.ChangeArms
import Derived.ChangeSlices
import Derived.SizedLaws
namespace Go.Proofs.Ytcekleconjmfjaa
open Go.RowKit Go.Deep Go.ChangeShapes
set_option linter.unusedVariables false

set_option maxRecDepth 100000 in
theorem cells7_u8 : Try.prog.cellsOf 5 = 1 := by kernel_rfl
set_option maxRecDepth 100000 in
theorem cells7_sl : Try.prog.cellsOf 24 = 1 := by kernel_rfl
set_option maxRecDepth 100000 in
theorem cells7_sls : Try.prog.cellsOf 36 = 1 := by kernel_rfl
set_option maxRecDepth 100000 in
theorem cells7_int : Try.prog.cellsOf 3 = 1 := by kernel_rfl
set_option maxRecDepth 100000 in
theorem cells7_u64 : Try.prog.cellsOf 35 = 1 := by kernel_rfl
set_option maxRecDepth 100000 in
theorem cells7_bool : Try.prog.cellsOf 4 = 1 := by kernel_rfl
set_option maxRecDepth 100000 in
theorem cells7_batch : Try.prog.cellsOf 38 = 9 := by kernel_rfl
set_option maxRecDepth 100000 in
theorem bytes7_u8 : Try.prog.bytesOf 5 = 1 := by kernel_rfl
set_option maxRecDepth 100000 in
theorem bytes7_sl : Try.prog.bytesOf 24 = 24 := by kernel_rfl

theorem mem_weightsAll {H : Type} {P : Program} {e : TypeId} {d : DataW H} {l : List (DataW H)} (hd : d ∈ l) {n : Nat} (hn : n ∈ d.weights P e) : n ∈ DataW.weightsAll P e l := by
  induction l with
  | nil => cases hd
  | cons x r ih =>
    simp only [DataW.weightsAll, List.mem_append]
    rcases List.mem_cons.1 hd with h | h
    · subst h; exact .inl hn
    · exact .inr (ih h)

section
variable {H : Type} {enc_ : TypeId × Value → H} {w : World} {base : Nat} {held : Bool}

/-- A slice of bytes. -/
theorem bytes7_read {fuel : Nat} {c : Value} {x : DataW H × List MemPlace} (h : DataW.trod enc_ Try.prog w base (fun _ => true) held fuel 24 [c] = some x) (hs : ∀ n ∈ x.1.weights Try.prog 24, n ≤ reachBytes) :
    ∃ (l : List Nat) (a : Option Addr) (cap : Nat), c = .slice a l.length cap ∧ LAt w a l ∧ (a = none → cap = 0) ∧ l.length ≤ cap ∧ cap ≤ reachBytes := by
  rcases open_ints Try.underlying24 Try.underlying5 cells7_u8 h with ⟨hcs, hx⟩ | ⟨a, l, cap, zs, hcs, _, hl, hm, hz, hx, hcell, hwz⟩
  · cases hcs
    exact ⟨[], none, 0, rfl, (fun i hi => by cases hi), fun _ => rfl, Nat.le_refl _, Nat.zero_le _⟩
  · cases hcs
    have hz' : zs.length = cap := by simpa using hz
    have hR := RowOf.of (k := .u8) (cap := cap) (len := l) (zs := zs) (.inr ⟨_, rfl, hl, hm, hz', hcell, hwz⟩)
    obtain ⟨bs, e1, e2⟩ := hR.1.bytes.list
    subst e1
    refine ⟨bs, some a, cap, rfl, e2, (fun h => by cases h), hl, ?_⟩
    rw [hx] at hs
    have := hs ((lits .u8 (zs.take bs.length) (H := H)).length * Try.prog.bytesOf 5 + (lits .u8 (zs.drop bs.length) (H := H)).length * Try.prog.bytesOf 5) (by simp [DataW.weights, Try.underlying24, Nat.add_mul])
    rw [bytes7_u8] at this
    simp only [lits, List.length_map, List.length_take, List.length_drop] at this
    omega

set_option maxRecDepth 100000 in
/-- A list of slices of bytes. -/
theorem pays7_read {fuel : Nat} {c : Value} {x : DataW H × List MemPlace} (h : DataW.trod enc_ Try.prog w base (fun _ => true) held fuel 36 [c] = some x) (hs : ∀ n ∈ x.1.weights Try.prog 36, n ≤ reachBytes) :
    ∃ (ls : List (List Nat)) (a : Option Addr) (cap : Nat), c = .slice a ls.length cap ∧ RAt w a ls ∧ (a = none → cap = 0) ∧ ls.length * 24 ≤ reachBytes ∧ (∀ l ∈ ls, l.length ≤ reachBytes) := by
  rcases open_slice Try.underlying36 h with ⟨hcs, hx⟩ | ⟨a', len, cap, m, n, D, Pl, hcs, _, hl, hm, hmm, rfl, hel⟩
  · cases hcs
    exact ⟨[], none, 0, rfl, (fun i hi => by cases hi), fun _ => rfl, by simp, (fun l hl => by cases hl)⟩
  · cases hcs
    have hmc : m = cap := by simpa using hmm
    have hs1 : len * 24 ≤ reachBytes := by
      have := hs _ (by simp only [DataW.weights, Try.underlying36]; exact List.mem_cons_self ..)
      rw [bytes7_sl] at this
      simp only [List.length_map, List.length_range, Nat.add_mul] at this
      omega
    have hs2 : ∀ i, i < len → ∀ k ∈ (D i).weights Try.prog 24, k ≤ reachBytes := fun i hi k hk => by
      refine hs k ?_
      simp only [DataW.weights, Try.underlying36]
      refine List.mem_cons_of_mem _ (List.mem_append_left _ (mem_weightsAll (d := D i) ?_ hk))
      exact List.mem_map.2 ⟨i, List.mem_range.2 hi, rfl⟩
    have each : ∀ i, i < len → ∃ l : List Nat, (∃ b off u, a' = ⟨b, off, none⟩ ∧ b < w.heap.size ∧ w.cell? ⟨b, off + i, none⟩ = some u ∧ Elem w u l) ∧ l.length ≤ reachBytes := by
      intro i hi
      obtain ⟨cs', h1, h2⟩ := hel i (by omega)
      rw [cells7_sl] at h1
      obtain ⟨_, hlen, hcell⟩ := World.cells?_some h1
      match cs', hlen with
      | [u], _ =>
        obtain ⟨l, x, c, e1, e2, e3, e4, e5⟩ := bytes7_read h2 (hs2 i hi)
        refine ⟨l, ?_, by omega⟩
        have h00 := hcell 0 (by omega)
        simp only [Nat.mul_one, List.getElem?_cons_zero] at h00
        obtain ⟨b, off, spot⟩ := a'
        have hspot : spot = none := by
          obtain ⟨cs0, f1, f2⟩ := hel 0 (by omega)
          rw [cells7_sl] at f1
          obtain ⟨_, flen, fcell⟩ := World.cells?_some f1
          match cs0, flen with
          | [u0], _ =>
            have f0 := fcell 0 (by omega)
            simp only [Nat.mul_one, List.getElem?_cons_zero] at f0
            have := World.cell?_spot (a := (Addr.add ⟨b, off, spot⟩ 0).add 0) (v := u0) f0
            simpa [Addr.add] using this
        subst hspot
        have add0 : ∀ x : Addr, x.add 0 = x := fun x => by simp [Addr.add]
        have hadd : (Addr.add ⟨b, off, none⟩ i).add 0 = ⟨b, off + i, none⟩ := by
          rw [add0]
          unfold Addr.add
          split
          · rename_i h0; subst h0; rfl
          · rfl
        rw [hadd] at h00
        exact ⟨b, off, u, rfl, lt_of_cell h00, h00, ⟨x, c, e1, e2, e3⟩⟩
    have hch : ∃ q : Nat → List Nat, ∀ i, i < len → (∃ b off u, a' = ⟨b, off, none⟩ ∧ b < w.heap.size ∧ w.cell? ⟨b, off + i, none⟩ = some u ∧ Elem w u (q i)) ∧ (q i).length ≤ reachBytes := by
      refine ⟨fun i => if hi : i < len then (each i hi).choose else [], fun i hi => ?_⟩
      simp only [dif_pos hi]
      exact (each i hi).choose_spec
    obtain ⟨q, hq⟩ := hch
    refine ⟨(List.range len).map q, some a', cap, by simp, fun i hi => ?_, (fun h => by cases h), by simpa using hs1, fun l hl => ?_⟩
    · have hi' : i < len := by simpa using hi
      obtain ⟨⟨b, off, u, e, h1, h2, h3⟩, _⟩ := hq i hi'
      have e2 : ((List.range len).map q).getD i [] = q i := by simp [List.getD, hi']
      exact ⟨b, off, u, by rw [e], h1, h2, by rw [e2]; exact h3⟩
    · obtain ⟨i, hi, rfl⟩ := List.mem_map.1 hl
      exact (hq i (List.mem_range.1 hi)).2

/-- What is known of a batch that was handed in. -/
structure BIn (w : World) (b : Bt) (a : Option Addr) (cap : Nat) : Prop where
  at_ : RAt w a b.vs
  fits : b.Fits
  len : b.vs.length * 24 ≤ reachBytes
  each : ∀ l ∈ b.vs, l.length ≤ reachBytes
set_option maxRecDepth 100000 in
theorem batch_read {fuel : Nat} {v : Value} {x : DataW H × List MemPlace} (h : DataW.trod enc_ Try.prog w base (fun _ => true) held fuel 38 v.cells.toList = some x) (hs : ∀ n ∈ x.1.weights Try.prog 38, n ≤ reachBytes) :
    ∃ (b : Bt) (a : Option Addr) (cap : Nat), v = bv b a cap ∧ BIn w b a cap := by
  obtain ⟨xs, n, _, rfl, hlen, hxl, hf⟩ := DataW.trod_struct Try.underlying38 h
  rw [cells7_batch] at hlen
  generalize hcs : v.cells.toList = cs at *
  match xs, hxl, cs, hlen with
  | [y0, y1, y2, y3, y4, y5, y6, y7, y8], _, [c0, c1, c2, c3, c4, c5, c6, c7, c8], _ =>
    have g0 := hf 0 _ rfl
    have g1 := hf 1 _ rfl
    have g2 := hf 2 _ rfl
    have g3 := hf 3 _ rfl
    have g4 := hf 4 _ rfl
    have g5 := hf 5 _ rfl
    have g6 := hf 6 _ rfl
    have g7 := hf 7 _ rfl
    have g8 := hf 8 _ rfl
    simp [cells7_int, cells7_u64, cells7_bool, cells7_sls] at g0 g1 g2 g3 g4 g5 g6 g7 g8
    obtain ⟨v0, e0, _, b0⟩ := DataW.trod_int Try.underlying3 g0
    obtain ⟨v1, e1, _, b1⟩ := DataW.trod_int Try.underlying3 g1
    obtain ⟨v2, e2, _, b2⟩ := DataW.trod_int Try.underlying35 g2
    obtain ⟨v3, e3, _, b3⟩ := DataW.trod_int Try.underlying3 g3
    obtain ⟨v4, e4, _, b4⟩ := DataW.trod_int Try.underlying3 g4
    obtain ⟨v5, e5, _⟩ := DataW.trod_bool Try.underlying4 g5
    obtain ⟨v6, e6, _⟩ := DataW.trod_bool Try.underlying4 g6
    obtain ⟨v7, e7, _⟩ := DataW.trod_bool Try.underlying4 g7
    have hs8 : ∀ n ∈ y8.1.weights Try.prog 36, n ≤ reachBytes := fun k hk => hs k (by
      simp only [DataW.weights, Try.underlying38]
      exact DataW.weights_mem_each (j := 8) rfl rfl k hk)
    obtain ⟨ls, a, cap, e8, r8, n8, l8, w8⟩ := pays7_read g8 hs8
    cases e0
    cases e1
    cases e2
    cases e3
    cases e4
    cases e5
    cases e6
    cases e7
    subst e8
    have B0 := bounds_i64 b0
    have B1 := bounds_i64 b1
    have B2 := bounds_u64 b2
    have B3 := bounds_i64 b3
    have B4 := bounds_i64 b4
    obtain ⟨p2, rfl⟩ := Int.eq_ofNat_of_zero_le B2.1
    refine ⟨⟨v0, v1, p2, v3, v4, v5, v6, v7, ls⟩, a, cap, ?_, r8, ⟨⟨B0.1, by show v0 < _; omega⟩, ⟨B1.1, by show v1 < _; omega⟩, by show p2 < _; omega, ⟨B3.1, by show v3 < _; omega⟩, ⟨B4.1, by show v4 < _; omega⟩⟩, l8, w8⟩
    cases v with
    | agg q =>
      have e' : q.toList = _ := hcs
      show Value.agg q = Value.agg _
      congr 1
      exact Array.ext' e'
    | _ => have := congrArg List.length hcs; simp [Value.cells] at this
end
end Go.Proofs.Ytcekleconjmfjaa
