/-
  A script of layer 11 as it is read; what lies beside both nets. No conditions beyond the reading.
-/
import Derived.Test.YtgpfkedihgoohaaRd11
namespace Go.Proofs.Ytgpfkedihgoohaa
open Go.RowKit Go.Deep Go.ChangeShapes
set_option linter.unusedVariables false

/-- A call. -/
structure Op11 where
  k : Int
  i : Int
  j : Int
  p : Pk
instance : Inhabited Op11 := ⟨⟨0, 0, 0, pk0⟩⟩
abbrev opC (o : Op11) : List Value := [.int .i64 o.k, .int .i64 o.i, .int .i64 o.j, .int .i64 o.p.fr, .int .i64 o.p.to, .slice o.p.a o.p.l.length o.p.c]
abbrev opO (o : Op11) : Obj := .cells #[.int .i64 o.k, .int .i64 o.i, .int .i64 o.j, .int .i64 o.p.fr, .int .i64 o.p.to, .slice o.p.a o.p.l.length o.p.c] 35
structure OpIn (w : World) (o : Op11) : Prop where
  i : InR o.i
  j : InR o.j
  p : PIn w o.p
set_option maxRecDepth 100000 in
theorem cells11_op : Try.prog.cellsOf 35 = 6 := by kernel_rfl
set_option maxRecDepth 100000 in
theorem bytes11_op : Try.prog.bytesOf 35 = 64 := by kernel_rfl
section
variable {H : Type} {enc_ : TypeId × Value → H} {w : World} {base : Nat} {held : Bool}
set_option maxRecDepth 100000 in
theorem op11_open {fuel : Nat} {cs : List Value} {x : DataW H × List MemPlace} (h : DataW.trod enc_ Try.prog w base (fun _ => true) held fuel 35 cs = some x) (hs : ∀ n ∈ x.1.weights Try.prog 35, n ≤ reachBytes) :
    ∃ o : Op11, cs = opC o ∧ OpIn w o := by
  obtain ⟨xs, n, _, rfl, hlen, hxl, hf⟩ := DataW.trod_struct Try.underlying35 h
  rw [cells11_op] at hlen
  match xs, hxl, cs, hlen with
  | [y0, y1, y2, y3], _, [c0, c1, c2, c3, c4, c5], _ =>
    have g0 := hf 0 _ rfl
    have g1 := hf 1 _ rfl
    have g2 := hf 2 _ rfl
    have g3 := hf 3 _ rfl
    simp [cells11_int, cells11_pk] at g0 g1 g2 g3
    obtain ⟨v0, e0, _, b0⟩ := DataW.trod_int Try.underlying3 g0
    obtain ⟨v1, e1, _, b1⟩ := DataW.trod_int Try.underlying3 g1
    obtain ⟨v2, e2, _, b2⟩ := DataW.trod_int Try.underlying3 g2
    have hs3 : ∀ n ∈ y3.1.weights Try.prog 33, n ≤ reachBytes := fun k hk => hs k (by
      simp only [DataW.weights, Try.underlying35]
      exact DataW.weights_mem_each (j := 3) rfl rfl k hk)
    obtain ⟨p, e3, hp⟩ := pk_open g3 hs3
    cases e0
    cases e1
    cases e2
    have B1 := bounds_i64 b1
    have B2 := bounds_i64 b2
    unfold pkC at e3
    simp only [List.cons.injEq, and_true] at e3
    obtain ⟨rfl, rfl, rfl⟩ := e3
    exact ⟨⟨v0, v1, v2, p⟩, rfl, ⟨B1.1, by show v1 ≤ _; omega⟩, ⟨B2.1, by show v2 ≤ _; omega⟩, hp⟩
theorem ops11_read {fuel : Nat} {c : Value} {x : DataW H × List MemPlace} (h : DataW.trod enc_ Try.prog w base (fun _ => true) held fuel 22 [c] = some x) (hs : ∀ n ∈ x.1.weights Try.prog 22, n ≤ reachBytes) :
    ∃ (os : List Op11) (a : Option Addr) (cap : Nat), c = .slice a os.length cap ∧ os.length * 64 ≤ reachBytes ∧ RowsAt opC 6 w a os ∧ ∀ o ∈ os, OpIn w o :=
  rows_read opC 6 64 (OpIn w) 35 22 Try.underlying22 cells11_op bytes11_op (by omega) (fun _ => rfl) (fun h hs => op11_open h hs) h hs
end
/-- A block beside both nets. -/
structure Ex (W : World) (R Q : Nat → Prop) (b : Nat) (o : Obj) : Prop where
  heap : W.heap[b]? = some o
  nr : ¬ R b
  nq : ¬ Q b
/-- A packet of the law's own beside both nets. -/
structure Fr (w W : World) (R Q : Nat → Prop) (p : Pk) : Prop where
  row : PRow W p
  out : ∀ k, (pkS p).ownBlock = some k → ¬ R k ∧ ¬ Q k ∧ w.heap.size ≤ k
section
variable {w W W' : World} {R R' Q Q' X : Nat → Prop} {b : Nat} {o : Obj} {p : Pk}
theorem Ex.later (h : Ex W R Q b o) (hb : Below W.heap.size W W') : Ex W' R Q b o := ⟨below_keep hb h.heap, h.nr, h.nq⟩
theorem Ex.n (h : Ex W R Q b o) (t : Touch R W W') (hn : ∀ k, R' k → R k ∨ W.heap.size ≤ k) : Ex W' R' Q b o := ⟨t.keep h.heap h.nr, fun e => (hn b e).elim h.nr (fun e => by have := lt_of_heap h.heap; omega), h.nq⟩
theorem Ex.r (h : Ex W R Q b o) (t : Touch Q W W') (hn : ∀ k, Q' k → Q k ∨ X k ∨ W.heap.size ≤ k) (hX : ¬ X b) : Ex W' R Q' b o := ⟨t.keep h.heap h.nq, h.nr, fun e => (hn b e).elim h.nq (fun e => e.elim hX (fun e => by have := lt_of_heap h.heap; omega))⟩
theorem Fr.later (h : Fr w W R Q p) (hb : Below W.heap.size W W') : Fr w W' R Q p := ⟨h.row.later hb, h.out⟩
theorem Fr.n (h : Fr w W R Q p) (t : Touch R W W') (hn : ∀ k, R' k → R k ∨ W.heap.size ≤ k) : Fr w W' R' Q p := ⟨h.row.keep t (fun k hk => (h.out k hk).1), fun k hk => ⟨fun e => (hn k e).elim (h.out k hk).1 (fun e => by have := h.row.row.lt k hk; omega), (h.out k hk).2⟩⟩
theorem Fr.r (h : Fr w W R Q p) (t : Touch Q W W') (hn : ∀ k, Q' k → Q k ∨ X k ∨ W.heap.size ≤ k) (hX : ∀ k, (pkS p).ownBlock = some k → ¬ X k) : Fr w W' R Q' p := ⟨h.row.keep t (fun k hk => (h.out k hk).2.1), fun k hk => ⟨(h.out k hk).1, fun e => (hn k e).elim (h.out k hk).2.1 (fun e => e.elim (hX k hk) (fun e => by have := h.row.row.lt k hk; omega)), (h.out k hk).2.2⟩⟩
theorem Ex.new {nb rb : Nat} {qs qs2 : List Pa} {D D2 : Cts} (h : TwN w W nb rb R Q qs qs2 D D2) (o : Obj) : Ex (W.alloc o) R Q W.heap.size o := ⟨heap_new _ _, fun e => by have := h.net.lt _ e; omega, fun e => by have := h.ref.lt _ e; omega⟩
theorem Fr.new {W0 : World} {nb rb : Nat} {qs qs2 : List Pa} {D D2 : Cts} (h : TwN w W0 nb rb R Q qs qs2 D D2) (hr : PRow W p) (hn : New W0 (pkS p)) : Fr w W R Q p := ⟨hr, fun k hk => ⟨fun e => by have := h.net.lt _ e; have := hn k hk; omega, fun e => by have := h.ref.lt _ e; have := hn k hk; omega, Nat.le_trans h.below.size (hn k hk)⟩⟩
end
/-- A packet's body that the law writes over: the box and the body's row, whatever it holds. -/
structure Wr (w W : World) (R Q : Nat → Prop) (b : Nat) (p : Pk) (l' : List Nat) : Prop where
  box : Ex W R Q b (.cells #[.int .i64 p.fr, .int .i64 p.to, .slice p.a p.l.length p.c] 33)
  row : Row W (pkS p) l'
  len : l'.length = p.l.length
  out : ∀ k, (pkS p).ownBlock = some k → ¬ R k ∧ ¬ Q k ∧ w.heap.size ≤ k ∧ k ≠ b
theorem Wr.cell {w W : World} {R Q : Nat → Prop} {b : Nat} {p : Pk} {l' : List Nat} (h : Wr w W R Q b p l') {j : Nat} (hj : j < p.l.length) : ∃ g, p.a = some ⟨g, 0, none⟩ ∧ W.cell? ⟨g, j, none⟩ = some (.int .u8 (l'.getD j 0 : Nat)) ∧ W.frozen? ⟨g, j, none⟩ = false := by
  obtain ⟨a, cap, e1, h1, _, _, _, _, h6⟩ := h.row.parts
  injection e1 with e1 _ _
  obtain ⟨g, hg, hf⟩ := h6 j (by rw [h.len]; exact hj)
  obtain ⟨b', off, hb, _, hc, _⟩ := h1.cell (i := j) (by rw [h.len]; exact hj)
  rw [hg] at hb
  cases hb
  refine ⟨g, by rw [e1, hg], ?_, hf⟩
  rw [Nat.zero_add] at hc
  exact hc
theorem Wr.set {w W : World} {R Q : Nat → Prop} {b : Nat} {p : Pk} {l' : List Nat} {nb rb : Nat} {qs qs2 : List Pa} {D D2 : Cts} (h : Wr w W R Q b p l') (t : TwN w W nb rb R Q qs qs2 D D2) {g : Nat} (hg : p.a = some ⟨g, 0, none⟩) (j : Nat) {x : Nat} (hx : x < 256) : Wr w (W.setCell ⟨g, j, none⟩ (.int .u8 (x : Int))) R Q b p (l'.set j x) ∧ TwN w (W.setCell ⟨g, j, none⟩ (.int .u8 (x : Int))) nb rb R Q qs qs2 D D2 := by
  have hob : (pkS p).ownBlock = some g := by show (Value.slice p.a p.l.length p.c).ownBlock = some g; rw [hg]; rfl
  obtain ⟨o1, o2, o3, o4⟩ := h.out g hob
  have ts := touch_set W g j (.int .u8 (x : Int))
  refine ⟨⟨⟨ts.keep h.box.heap (fun e => o4 e.symm), h.box.nr, h.box.nq⟩, ?_, by rw [List.length_set]; exact h.len, h.out⟩, t.keep ts (fun k hk e => o1 (by rw [← e]; exact hk)) (fun k hk e => o2 (by rw [← e]; exact hk)) (fun k hk => by rw [hk]; exact o3)⟩
  have hr := h.row
  have e : pkS p = .slice (some ⟨g, 0, none⟩) p.l.length p.c := by show Value.slice p.a p.l.length p.c = _; rw [hg]
  rw [e] at hr ⊢
  exact hr.set j hx
end Go.Proofs.Ytgpfkedihgoohaa
