/-
  How long a message's lists and pieces are at most, by how much is read. No conditions beyond the reading.
-/
import Derived.Test.YtblmondkdcpkaaaZ31
import Derived.Test.YtblmondkdcpkaaaZ35

namespace Go.Proofs.Ytblmondkdcpkaaa
open Go.RowKit Go.Deep Go.ChangeShapes
set_option linter.unusedVariables false

section
variable {H : Type} {enc_ : TypeId × Value → H} {w : World} {base : Nat} {held : Bool}
theorem rows_bulk {α : Type} [Inhabited α] (cells : α → List Value) (sz : Nat) (In : α → Prop) (len_ : α → Nat) (tE tS : TypeId) (hU : Try.prog.underlying tS = some (.slice tE)) (hC : Try.prog.cellsOf tE = sz) (h0 : 0 < sz) (hlen : ∀ o, (cells o).length = sz)
    (hopen : ∀ {fuel : Nat} {cs : List Value} {x : DataW H × List MemPlace}, DataW.trod enc_ Try.prog w base (fun _ => true) held fuel tE cs = some x → ∃ o, cs = cells o ∧ In o ∧ len_ o ≤ Rows.uptoBulk x.1)
    {fuel : Nat} {c : Value} {x : DataW H × List MemPlace} (h : DataW.trod enc_ Try.prog w base (fun _ => true) held fuel tS [c] = some x) :
    ∃ (os : List α) (a : Option Addr) (cap : Nat), c = .slice a os.length cap ∧ os.length ≤ Rows.uptoBulk x.1 ∧ RowsAt cells sz w a os ∧ ∀ o ∈ os, In o ∧ len_ o ≤ Rows.uptoBulk x.1 := by
  rcases open_slice hU h with ⟨hcs, hx⟩ | ⟨a', len, cap, m, n, D, Pl, hcs, _, hl, hm, hmm, rfl, hel⟩
  · cases hcs
    exact ⟨[], none, 0, rfl, Nat.zero_le _, (fun i hi => by cases hi), (fun o ho => by cases ho)⟩
  · cases hcs
    have hmc : m = cap := by simpa using hmm
    have hb1 : len ≤ Rows.uptoBulk (DataW.slice ((List.range len).map D) ((List.range (m - len)).map fun i => D (len + i))) := by
      simp only [Rows.uptoBulk]
      have := bulk_len (H := H) ((List.range len).map D)
      simp only [List.length_map, List.length_range] at this
      omega
    have hb2 : ∀ i, i < len → Rows.uptoBulk (D i) ≤ Rows.uptoBulk (DataW.slice ((List.range len).map D) ((List.range (m - len)).map fun i => D (len + i))) := fun i hi => by
      simp only [Rows.uptoBulk]
      have := bulk_part (H := H) (d := D i) (l := (List.range len).map D) (List.mem_map.2 ⟨i, List.mem_range.2 hi, rfl⟩)
      omega
    have each : ∀ i, i < len → ∃ q : α, (∃ b off, a' = ⟨b, off, none⟩ ∧ b < w.heap.size ∧ ∀ j, j < sz → w.cell? ⟨b, off + i * sz + j, none⟩ = (cells q)[j]?) ∧ In q ∧ len_ q ≤ Rows.uptoBulk (D i) := by
      intro i hi
      obtain ⟨cs', h1, h2⟩ := hel i (by omega)
      rw [hC] at h1
      obtain ⟨_, _, hcell⟩ := World.cells?_some h1
      obtain ⟨q, e1, e2, e3⟩ := hopen h2
      subst e1
      refine ⟨q, ?_, e2, e3⟩
      obtain ⟨b, off, spot⟩ := a'
      have h00 := hcell 0 (by omega)
      have some_at : ∀ (q : α), ∃ u, (cells q)[0]? = some u := fun q => ⟨_, List.getElem?_eq_getElem (by rw [hlen]; exact h0)⟩
      have hspot : spot = none := by
        obtain ⟨cs0, f1, f2⟩ := hel 0 (by omega)
        rw [hC] at f1
        obtain ⟨_, _, fcell⟩ := World.cells?_some f1
        obtain ⟨q0, g1, _⟩ := hopen f2
        subst g1
        obtain ⟨u, hu⟩ := some_at q0
        have := World.cell?_spot (a := (Addr.add ⟨b, off, spot⟩ (0 * sz)).add 0) (v := u) (by rw [fcell 0 (by omega)]; exact hu)
        simpa [Addr.add] using this
      subst hspot
      have hadd : ∀ j, (Addr.add ⟨b, off, none⟩ (i * sz)).add j = ⟨b, off + i * sz + j, none⟩ := fun j => by rw [Addr.add_mid, Addr.add_mid]
      refine ⟨b, off, rfl, ?_, fun j hj => ?_⟩
      · obtain ⟨u, hu⟩ := some_at q
        have := h00
        rw [hadd 0, hu] at this
        exact lt_of_cell (a := ⟨b, off + i * sz + 0, none⟩) (v := u) this
      · have := hcell j (by omega)
        rw [hadd j] at this
        exact this
    obtain ⟨q, hq⟩ := choose_lt (α := α) (n := len) (p := fun i q => (∃ b off, a' = ⟨b, off, none⟩ ∧ b < w.heap.size ∧ ∀ j, j < sz → w.cell? ⟨b, off + i * sz + j, none⟩ = (cells q)[j]?) ∧ In q ∧ len_ q ≤ Rows.uptoBulk (D i)) each
    refine ⟨(List.range len).map q, some a', cap, by simp, by simpa using hb1, fun i hi => ?_, fun o ho => ?_⟩
    · have hi' : i < len := by simpa using hi
      obtain ⟨⟨b, off, e1, e2, e3⟩, e4⟩ := hq i hi'
      simp only [List.getElem_map, List.getElem_range]
      exact ⟨b, off, by rw [e1], e2, e3⟩
    · obtain ⟨i, hi, rfl⟩ := List.mem_map.1 ho
      have hi' := List.mem_range.1 hi
      exact ⟨(hq i hi').2.1, Nat.le_trans (hq i hi').2.2 (hb2 i hi')⟩

theorem slice_bulk {fuel : Nat} {tS tE : TypeId} (hU : Try.prog.underlying tS = some (.slice tE)) {a : Option Addr} {n cap : Nat} {x : DataW H × List MemPlace} (h : DataW.trod enc_ Try.prog w base (fun _ => true) held fuel tS [.slice a n cap] = some x) : n ≤ Rows.uptoBulk x.1 := by
  rcases open_slice hU h with ⟨hcs, hx⟩ | ⟨a', len, cap', m, n', D, Pl, hcs, _, hl, hm, hmm, rfl, hel⟩
  · cases hcs
    exact Nat.zero_le _
  · cases hcs
    simp only [Rows.uptoBulk]
    have := bulk_len (H := H) ((List.range n).map D)
    simp only [List.length_map, List.length_range] at this
    omega
theorem bytes17_open {fuel : Nat} {c : Value} {x : DataW H × List MemPlace} (h : DataW.trod enc_ Try.prog w base (fun _ => true) held fuel 24 [c] = some x) :
    ∃ (l : List Nat) (a : Option Addr) (cap : Nat), c = .slice a l.length cap ∧ LAt w a l ∧ (a = none → cap = 0) := by
  rcases open_ints Try.underlying24 Try.underlying5 cells7_u8 h with ⟨hcs, hx⟩ | ⟨a, l, cap, zs, hcs, _, hl, hm, hz, hx, hcell, hwz⟩
  · cases hcs
    exact ⟨[], none, 0, rfl, (fun i hi => by cases hi), fun _ => rfl⟩
  · cases hcs
    have hz' : zs.length = cap := by simpa using hz
    have hR := RowOf.of (k := .u8) (cap := cap) (len := l) (zs := zs) (.inr ⟨_, rfl, hl, hm, hz', hcell, hwz⟩)
    obtain ⟨bs, e1, e2⟩ := hR.1.bytes.list
    subst e1
    exact ⟨bs, some a, cap, rfl, e2, (fun h => by cases h)⟩
set_option maxRecDepth 100000 in
theorem en17_bulk {fuel : Nat} {cs : List Value} {x : DataW H × List MemPlace} (h : DataW.trod enc_ Try.prog w base (fun _ => true) held fuel 65 cs = some x) :
    ∃ o : En, cs = cellsEn o ∧ EnIn w o ∧ o.d.length ≤ Rows.uptoBulk x.1 := by
  obtain ⟨xs, n, _, rfl, hlen, hxl, hf⟩ := DataW.trod_struct Try.underlying65 h
  rw [cells17_en] at hlen
  match xs, hxl, cs, hlen with
  | [y0, y1], _, [c0, c1], _ =>
    have g0 := hf 0 _ rfl
    have g1 := hf 1 _ rfl
    simp [cells7_int, cells7_sl] at g0 g1
    obtain ⟨v0, e0, _, b0⟩ := DataW.trod_int Try.underlying3 g0
    cases e0
    have B0 := bounds_i64 b0
    obtain ⟨l, a, cap, e1, f1, n1⟩ := bytes17_open g1
    subst e1
    have u := slice_bulk Try.underlying24 g1
    refine ⟨⟨v0, a, cap, l⟩, rfl, ⟨f1, n1, ⟨B0.1, by show v0 < _; omega⟩⟩, ?_⟩
    simp only [Rows.uptoBulk, List.map_cons, List.map_nil, Rows.uptoBulkAll]
    show l.length ≤ _
    omega
theorem ens17_bulk {fuel : Nat} {c : Value} {x : DataW H × List MemPlace} (h : DataW.trod enc_ Try.prog w base (fun _ => true) held fuel 23 [c] = some x) :
    ∃ (os : List En) (a : Option Addr) (cap : Nat), c = .slice a os.length cap ∧ os.length ≤ Rows.uptoBulk x.1 ∧ RowsAt cellsEn 2 w a os ∧ ∀ o ∈ os, EnIn w o ∧ o.d.length ≤ Rows.uptoBulk x.1 :=
  rows_bulk cellsEn 2 (EnIn w) (fun o => o.d.length) 65 23 Try.underlying23 cells17_en (by omega) (fun _ => rfl) (fun h => en17_bulk h) h
theorem rows_same {a : Option Addr} {os ps : List En} (h1 : RowsAt cellsEn 2 w a os) (h2 : RowsAt cellsEn 2 w a ps) (hl : ps.length = os.length) {B : Nat} (hB : ∀ o ∈ os, o.d.length ≤ B) : ∀ o ∈ ps, o.d.length ≤ B := by
  intro o ho
  obtain ⟨k, hk, rfl⟩ := List.getElem_of_mem ho
  obtain ⟨b1, f1, e1, _, c1⟩ := h1 k (by omega)
  obtain ⟨b2, f2, e2, _, c2⟩ := h2 k hk
  rw [e1] at e2
  cases e2
  have z1 := c1 1 (by omega)
  have z2 := c2 1 (by omega)
  rw [z1] at z2
  have z3 : (Value.slice (os[k]'(by omega)).a (os[k]'(by omega)).d.length (os[k]'(by omega)).c) = Value.slice ps[k].a ps[k].d.length ps[k].c := Option.some.inj z2
  injection z3 with _ z4 _
  rw [← z4]
  exact hB _ (List.getElem_mem _)
set_option maxRecDepth 100000 in
set_option maxHeartbeats 4000000 in
theorem raft17_bulk {fuel : Nat} {r1 r2 r3 r4 r5 r6 r7 : Int} {rj : Bool} {en : List En} {ea : Option Addr} {ec n : Nat} {sa : Option Addr} {sc : Nat} {x : DataW H × List MemPlace} (h : DataW.trod enc_ Try.prog w base (fun _ => true) held fuel 26 [.int .i64 r1, .int .i64 r2, .int .i64 r3, .int .i64 r4, .int .i64 r5, .int .i64 r6, .int .i64 r7, .bool rj, .slice ea en.length ec, .slice sa n sc] = some x) (hr : RowsAt cellsEn 2 w ea en) :
    en.length ≤ Rows.uptoBulk x.1 ∧ (∀ o ∈ en, o.d.length ≤ Rows.uptoBulk x.1) ∧ n ≤ Rows.uptoBulk x.1 := by
  obtain ⟨xs, n', _, rfl, hlen, hxl, hf⟩ := DataW.trod_struct Try.underlying26 h
  match xs, hxl with
  | [y0, y1, y2, y3, y4, y5, y6, y7, y8, y9], _ =>
    have g8 := hf 8 _ rfl
    have g9 := hf 9 _ rfl
    simp [cells17_ens, cells7_sl] at g8 g9
    have u9 := slice_bulk Try.underlying24 g9
    obtain ⟨os, a, cap, e, l8, ro, lo⟩ := ens17_bulk g8
    injection e with e1 e2 e3
    subst e1
    have hs := rows_same ro hr e2 (B := Rows.uptoBulk y8.1) (fun o ho => (lo o ho).2)
    simp only [Rows.uptoBulk, List.map_cons, List.map_nil, Rows.uptoBulkAll]
    refine ⟨by omega, fun o ho => ?_, by omega⟩
    have := hs o ho
    omega
set_option maxRecDepth 100000 in
set_option maxHeartbeats 4000000 in
theorem fetched17_bulk {fuel : Nat} {g1 g2 g3 g4 : Int} {gd : Bool} {g5 g6 g7 g8 : Int} {n : Nat} {ga : Option Addr} {gc : Nat} {x : DataW H × List MemPlace} (h : DataW.trod enc_ Try.prog w base (fun _ => true) held fuel 31 [.int .i64 g1, .int .i64 g2, .int .i64 g3, .int .i64 g4, .bool gd, .int .i64 g5, .int .i64 g6, .int .i64 g7, .int .i64 g8, .slice ga n gc] = some x) :
    n ≤ Rows.uptoBulk x.1 := by
  obtain ⟨xs, n', _, rfl, hlen, hxl, hf⟩ := DataW.trod_struct Try.underlying31 h
  match xs, hxl with
  | [y0, y1, y2, y3, y4, y5, y6, y7, y8, y9], _ =>
    have g9 := hf 9 _ rfl
    simp [cells17_bas] at g9
    have u9 := slice_bulk Try.underlying29 g9
    simp only [Rows.uptoBulk, List.map_cons, List.map_nil, Rows.uptoBulkAll]
    omega
set_option maxRecDepth 100000 in
set_option maxHeartbeats 4000000 in
theorem cmd17_bulk {fuel : Nat} {g1 g2 g3 g4 g5 : Int} {n : Nat} {ga : Option Addr} {gc : Nat} {x : DataW H × List MemPlace} (h : DataW.trod enc_ Try.prog w base (fun _ => true) held fuel 34 [.int .i64 g1, .int .i64 g2, .int .i64 g3, .int .i64 g4, .int .i64 g5, .slice ga n gc] = some x) :
    n ≤ Rows.uptoBulk x.1 := by
  obtain ⟨xs, n', _, rfl, hlen, hxl, hf⟩ := DataW.trod_struct Try.underlying34 h
  match xs, hxl with
  | [y0, y1, y2, y3, y4, y5], _ =>
    have g5 := hf 5 _ rfl
    simp [cells17_ints] at g5
    have u5 := slice_bulk Try.underlying32 g5
    simp only [Rows.uptoBulk, List.map_cons, List.map_nil, Rows.uptoBulkAll]
    omega
set_option maxRecDepth 100000 in
set_option maxHeartbeats 4000000 in
theorem mg_parts {fuel0 : Nat} {c0 c1 c2 c3 c4 c5 c6 c7 c8 c9 c10 c11 c12 c13 c14 c15 c16 c17 c18 c19 c20 c21 c22 c23 c24 c25 c26 c27 c28 c29 c30 c31 c32 c33 c34 c35 c36 c37 c38 c39 c40 c41 c42 c43 c44 c45 c46 c47 c48 c49 c50 c51 c52 c53 c54 c55 c56 c57 c58 : Value} {x : DataW H × List MemPlace} (h : DataW.trod enc_ Try.prog w base (fun _ => true) held fuel0 41 (c0 :: c1 :: c2 :: c3 :: c4 :: c5 :: c6 :: c7 :: c8 :: c9 :: c10 :: c11 :: c12 :: c13 :: c14 :: c15 :: c16 :: c17 :: c18 :: c19 :: c20 :: c21 :: c22 :: c23 :: c24 :: c25 :: c26 :: c27 :: c28 :: c29 :: c30 :: c31 :: c32 :: c33 :: c34 :: c35 :: c36 :: c37 :: c38 :: c39 :: c40 :: c41 :: c42 :: c43 :: c44 :: c45 :: c46 :: c47 :: c48 :: c49 :: c50 :: c51 :: c52 :: c53 :: c54 :: c55 :: c56 :: c57 :: c58 :: []) = some x) :
    ∃ (fuel : Nat) (y5 y7 y8 y20 y21 y22 : DataW H × List MemPlace), DataW.trod enc_ Try.prog w base (fun _ => true) held fuel 26 [c5, c6, c7, c8, c9, c10, c11, c12, c13, c14] = some y5 ∧ DataW.trod enc_ Try.prog w base (fun _ => true) held fuel 31 [c20, c21, c22, c23, c24, c25, c26, c27, c28, c29] = some y7 ∧ DataW.trod enc_ Try.prog w base (fun _ => true) held fuel 34 [c30, c31, c32, c33, c34, c35] = some y8 ∧ DataW.trod enc_ Try.prog w base (fun _ => true) held fuel 32 [c55] = some y20 ∧ DataW.trod enc_ Try.prog w base (fun _ => true) held fuel 29 [c56] = some y21 ∧ DataW.trod enc_ Try.prog w base (fun _ => true) held fuel 39 [c57] = some y22 ∧ Rows.uptoBulk y5.1 + Rows.uptoBulk y7.1 + Rows.uptoBulk y8.1 + Rows.uptoBulk y20.1 + Rows.uptoBulk y21.1 + Rows.uptoBulk y22.1 ≤ Rows.uptoBulk x.1 := by
  obtain ⟨xs, n', _, rfl, hlen, hxl, hf⟩ := DataW.trod_struct Try.underlying41 h
  match xs, hxl with
  | y0 :: y1 :: y2 :: y3 :: y4 :: y5 :: y6 :: y7 :: y8 :: y9 :: y10 :: y11 :: y12 :: y13 :: y14 :: y15 :: y16 :: y17 :: y18 :: y19 :: y20 :: y21 :: y22 :: y23 :: [], _ =>
    have g5 := hf 5 _ rfl
    have g7 := hf 7 _ rfl
    have g8 := hf 8 _ rfl
    have g20 := hf 20 _ rfl
    have g21 := hf 21 _ rfl
    have g22 := hf 22 _ rfl
    simp [cells17_raft, cells17_fetched, cells17_cmd, cells17_ints, cells17_bas, cells17_abs] at g5 g7 g8 g20 g21 g22
    refine ⟨_, y5, y7, y8, y20, y21, y22, g5, g7, g8, g20, g21, g22, ?_⟩
    simp only [Rows.uptoBulk, List.map_cons, List.map_nil, Rows.uptoBulkAll]
    omega
theorem mg_bulk {fuel : Nat} {m : Mg} {x : DataW H × List MemPlace} (h : DataW.trod enc_ Try.prog w base (fun _ => true) held fuel 41 (mgL m) = some x) (hm : MgIn w m) (hB : Rows.uptoBulk x.1 ≤ 1048576) : MgS m := by
  obtain ⟨f, y5, y7, y8, y20, y21, y22, g5, g7, g8, g20, g21, g22, hb⟩ := mg_parts h
  obtain ⟨p1, p2, p3⟩ := raft17_bulk g5 hm.en
  have p4 := fetched17_bulk g7
  have p5 := cmd17_bulk g8
  have p6 := slice_bulk Try.underlying32 g20
  have p7 := slice_bulk Try.underlying29 g21
  have p8 := slice_bulk Try.underlying39 g22
  exact ⟨⟨by omega, fun o ho => by have := p2 o ho; omega⟩, by omega, by omega, by omega, by omega, by omega, by omega⟩
end
end Go.Proofs.Ytblmondkdcpkaaa
