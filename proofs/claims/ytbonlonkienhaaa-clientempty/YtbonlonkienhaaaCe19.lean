/-
  What a client has seen that only ends transactions, in plain words. No conditions.
-/
import Derived.Test.YtbonlonkienhaaaCs15
namespace Go.Proofs.Ytbonlonkienhaaa
open Go.RowKit
set_option linter.unusedVariables false

theorem sn_eq2 (i : Nat) (h : i < 64) (w : World) : (binOp .neq 43 (.agg #[.int .i64 2, .int .i64 0, .int .i64 (i : Int), .int .i64 0, .int .i64 0, .string ByteArray.empty, .int .i64 0]) (.agg #[.int .i64 2, .int .i64 0, .int .i64 (i : Int), .int .i64 0, .int .i64 0, .string ByteArray.empty, .int .i64 0])).run Try.prog w = .ok (.bool false) w :=
  match i, h with
  | 0, _ => by kernel_rfl
  | 1, _ => by kernel_rfl
  | 2, _ => by kernel_rfl
  | 3, _ => by kernel_rfl
  | 4, _ => by kernel_rfl
  | 5, _ => by kernel_rfl
  | 6, _ => by kernel_rfl
  | 7, _ => by kernel_rfl
  | 8, _ => by kernel_rfl
  | 9, _ => by kernel_rfl
  | 10, _ => by kernel_rfl
  | 11, _ => by kernel_rfl
  | 12, _ => by kernel_rfl
  | 13, _ => by kernel_rfl
  | 14, _ => by kernel_rfl
  | 15, _ => by kernel_rfl
  | 16, _ => by kernel_rfl
  | 17, _ => by kernel_rfl
  | 18, _ => by kernel_rfl
  | 19, _ => by kernel_rfl
  | 20, _ => by kernel_rfl
  | 21, _ => by kernel_rfl
  | 22, _ => by kernel_rfl
  | 23, _ => by kernel_rfl
  | 24, _ => by kernel_rfl
  | 25, _ => by kernel_rfl
  | 26, _ => by kernel_rfl
  | 27, _ => by kernel_rfl
  | 28, _ => by kernel_rfl
  | 29, _ => by kernel_rfl
  | 30, _ => by kernel_rfl
  | 31, _ => by kernel_rfl
  | 32, _ => by kernel_rfl
  | 33, _ => by kernel_rfl
  | 34, _ => by kernel_rfl
  | 35, _ => by kernel_rfl
  | 36, _ => by kernel_rfl
  | 37, _ => by kernel_rfl
  | 38, _ => by kernel_rfl
  | 39, _ => by kernel_rfl
  | 40, _ => by kernel_rfl
  | 41, _ => by kernel_rfl
  | 42, _ => by kernel_rfl
  | 43, _ => by kernel_rfl
  | 44, _ => by kernel_rfl
  | 45, _ => by kernel_rfl
  | 46, _ => by kernel_rfl
  | 47, _ => by kernel_rfl
  | 48, _ => by kernel_rfl
  | 49, _ => by kernel_rfl
  | 50, _ => by kernel_rfl
  | 51, _ => by kernel_rfl
  | 52, _ => by kernel_rfl
  | 53, _ => by kernel_rfl
  | 54, _ => by kernel_rfl
  | 55, _ => by kernel_rfl
  | 56, _ => by kernel_rfl
  | 57, _ => by kernel_rfl
  | 58, _ => by kernel_rfl
  | 59, _ => by kernel_rfl
  | 60, _ => by kernel_rfl
  | 61, _ => by kernel_rfl
  | 62, _ => by kernel_rfl
  | 63, _ => by kernel_rfl
  | n + 64, h => absurd h (by omega)
theorem sn_eq3 (i : Nat) (h : i < 64) (w : World) : (binOp .neq 43 (.agg #[.int .i64 3, .int .i64 0, .int .i64 (i : Int), .int .i64 0, .int .i64 0, .string ByteArray.empty, .int .i64 0]) (.agg #[.int .i64 3, .int .i64 0, .int .i64 (i : Int), .int .i64 0, .int .i64 0, .string ByteArray.empty, .int .i64 0])).run Try.prog w = .ok (.bool false) w :=
  match i, h with
  | 0, _ => by kernel_rfl
  | 1, _ => by kernel_rfl
  | 2, _ => by kernel_rfl
  | 3, _ => by kernel_rfl
  | 4, _ => by kernel_rfl
  | 5, _ => by kernel_rfl
  | 6, _ => by kernel_rfl
  | 7, _ => by kernel_rfl
  | 8, _ => by kernel_rfl
  | 9, _ => by kernel_rfl
  | 10, _ => by kernel_rfl
  | 11, _ => by kernel_rfl
  | 12, _ => by kernel_rfl
  | 13, _ => by kernel_rfl
  | 14, _ => by kernel_rfl
  | 15, _ => by kernel_rfl
  | 16, _ => by kernel_rfl
  | 17, _ => by kernel_rfl
  | 18, _ => by kernel_rfl
  | 19, _ => by kernel_rfl
  | 20, _ => by kernel_rfl
  | 21, _ => by kernel_rfl
  | 22, _ => by kernel_rfl
  | 23, _ => by kernel_rfl
  | 24, _ => by kernel_rfl
  | 25, _ => by kernel_rfl
  | 26, _ => by kernel_rfl
  | 27, _ => by kernel_rfl
  | 28, _ => by kernel_rfl
  | 29, _ => by kernel_rfl
  | 30, _ => by kernel_rfl
  | 31, _ => by kernel_rfl
  | 32, _ => by kernel_rfl
  | 33, _ => by kernel_rfl
  | 34, _ => by kernel_rfl
  | 35, _ => by kernel_rfl
  | 36, _ => by kernel_rfl
  | 37, _ => by kernel_rfl
  | 38, _ => by kernel_rfl
  | 39, _ => by kernel_rfl
  | 40, _ => by kernel_rfl
  | 41, _ => by kernel_rfl
  | 42, _ => by kernel_rfl
  | 43, _ => by kernel_rfl
  | 44, _ => by kernel_rfl
  | 45, _ => by kernel_rfl
  | 46, _ => by kernel_rfl
  | 47, _ => by kernel_rfl
  | 48, _ => by kernel_rfl
  | 49, _ => by kernel_rfl
  | 50, _ => by kernel_rfl
  | 51, _ => by kernel_rfl
  | 52, _ => by kernel_rfl
  | 53, _ => by kernel_rfl
  | 54, _ => by kernel_rfl
  | 55, _ => by kernel_rfl
  | 56, _ => by kernel_rfl
  | 57, _ => by kernel_rfl
  | 58, _ => by kernel_rfl
  | 59, _ => by kernel_rfl
  | 60, _ => by kernel_rfl
  | 61, _ => by kernel_rfl
  | 62, _ => by kernel_rfl
  | 63, _ => by kernel_rfl
  | n + 64, h => absurd h (by omega)
theorem all_good' {α : Type} {l : List α} {f : α → Bool} (h : ∀ x ∈ l, f x = true) : l.any (fun x => !(f x)) = false := by
  refine Bool.eq_false_iff.2 (fun e => ?_)
  obtain ⟨x, hx, hf⟩ := List.any_eq_true.1 e
  rw [h x hx] at hf
  cases hf
/-- What is seen of an end. -/
def sE (i : Nat) (q : Bool) : Sn := ⟨if q = true then 2 else 3, 0, i, 0, 0, ByteArray.empty, 0⟩
def evs (qs : List Bool) (j : Nat) : List Sn := (List.range j).map (fun i => sE i (qs.getD i false))
theorem evs_len (qs : List Bool) (j : Nat) : (evs qs j).length = j := by simp [evs]
theorem evs_succ (qs : List Bool) (j : Nat) : evs qs (j + 1) = evs qs j ++ [sE j (qs.getD j false)] := by simp [evs, List.range_succ]
theorem evs_at {qs : List Bool} {n i : Nat} (h : i < n) : (evs qs n)[i]? = some (sE i (qs.getD i false)) := by simp [evs, h]
/-- Behind j ticks, all of which saw an end. -/
structure StA (qs : List Bool) (j : Nat) (c : Cl) : Prop where
  n : c.n = 0
  ic : c.ic = 0
  os : c.os = qs.map pE
  pl : c.pl = (j : Int)
  tr : c.tr = evs qs j
  en : c.en = false
/-- All is done. -/
structure StB (qs : List Bool) (c : Cl) : Prop where
  ic : c.ic = 0
  pl : c.pl = (qs.length : Int)
  tr : c.tr = evs qs qs.length ++ [⟨7, 0, (qs.length : Int), 0, 0, ByteArray.empty, 0⟩]
  en : c.en = true
theorem StA.next {qs : List Bool} {j : Nat} {c : Cl} (h : StA qs j c) (hj : j < qs.length) (a : Option Addr) (k : Nat) : StA qs (j + 1) (goC c qs[j] a k) := by
  refine ⟨h.n, h.ic, h.os, ?_, ?_, h.en⟩
  · show c.pl + 1 = _
    rw [h.pl]
    omega
  · show c.tr ++ [_] = _
    rw [h.tr, evs_succ, h.n, h.pl, List.getD_eq_getElem?_getD, List.getElem?_eq_getElem hj]
    rfl
theorem StA.last {qs : List Bool} {c : Cl} (h : StA qs qs.length c) (a : Option Addr) (k : Nat) : StB qs (endC c a k) := by
  refine ⟨h.ic, h.pl, ?_, rfl⟩
  show c.tr ++ [_] = _
  rw [h.tr]
  unfold endS
  rw [h.n, h.pl]
theorem StA.op {qs : List Bool} {j : Nat} {c : Cl} (h : StA qs j c) (hj : j < qs.length) : c.os[j]? = some (pE qs[j]) := by rw [h.os]; simp [hj]
/-- The row of operations stays while the client writes. -/
theorem wide_apart {w : World} {b : Nat} {c : Cl} {v : Value} {n : Nat} {xs : List Value} (h : Wide w 36 5 v n xs) (hc : ClAt w b c) : ∀ k, v.ownBlock = some k → ¬ Mine b c k := fun k hk hm => by
  obtain ⟨cs, h1⟩ := h.heap hk
  rcases hm with e | e
  · subst e
    rw [hc.cl] at h1
    exact absurd (Obj.cells.inj (Option.some.inj h1)).2.1 (by decide)
  · obtain ⟨cs2, h2⟩ := hc.tr.heap e
    rw [h2] at h1
    exact absurd (Obj.cells.inj (Option.some.inj h1)).2.1 (by decide)
theorem pE_ok (q : Bool) : opB (pE q) 1 = true := by cases q <;> decide
theorem st_ends {g k : Nat} {a : Option Addr} {qs : List Bool} (h : qs.length ≤ 64) : stB (oneC g a k (qs.map pE)) = true := by
  have e : (qs.map pE).any (fun o => !(opB o 1)) = false := by
    refine all_good' (fun x hx => ?_)
    obtain ⟨q, _, rfl⟩ := List.mem_map.1 hx
    exact pE_ok q
  have e2 : prB 1 ⟨0, a, k, qs.map pE⟩ = true := by
    simp only [prB, e, List.length_map]
    simp
    omega
  simp only [stB, oneC, List.any_cons, e2, List.any_nil, List.length_cons, List.length_nil]
  simp
/-- The operations that k of the ends make. -/
def oE (qs : List Bool) (k : Nat) : List Po := ((qs.take k).take 64).map pE
theorem oE_len {qs : List Bool} {k : Nat} (h : k ≤ qs.length) : (oE qs k).length = min k 64 := by
  simp only [oE, List.length_map, List.length_take]
  omega
theorem oE_succ {qs : List Bool} {k : Nat} (h : k < qs.length) (h64 : k < 64) : oE qs (k + 1) = oE qs k ++ [pE qs[k]] := by
  have e1 : (qs.take (k + 1)).take 64 = qs.take (k + 1) := List.take_of_length_le (by rw [List.length_take]; omega)
  have e2 : (qs.take k).take 64 = qs.take k := List.take_of_length_le (by rw [List.length_take]; omega)
  unfold oE
  rw [e1, e2, List.take_succ_eq_append_getElem h, List.map_append]
  rfl
theorem oE_over {qs : List Bool} {k : Nat} (h64 : 64 ≤ k) : oE qs (k + 1) = oE qs k := by
  unfold oE
  rw [List.take_take, List.take_take, Nat.min_eq_left (by omega), Nat.min_eq_left (by omega)]
/-- One operation more. -/
theorem ends_grow {w wr w2 : World} {ends : List Bool} {k : Nat} {q : Bool} {v v2 : Value} {cs : Array Value} (hb : Below w.heap.size w wr) (hv : New w v)
    (o2 : Wide w2 36 5 v2 ((oE ends k).length + 1) ((oE ends k).flatMap cellsPo ++ cellsPo (pE q))) (t2 : Touch (fun k => v.ownBlock = some k) (wr.alloc (.cells cs 36)) w2) (m2 : Moved (wr.alloc (.cells cs 36)) v v2) (hk : k < ends.length) (h64 : k < 64) (hq : ends[k] = q) :
    Hid (Wide w2 36 5 v2 (oE ends (k + 1)).length ((oE ends (k + 1)).flatMap cellsPo)) ∧ Hid (New w v2) ∧ Hid (Below w.heap.size w w2) := by
  have b1 : Below w.heap.size w (wr.alloc (.cells cs 36)) := hb.alloc hb.size _
  refine ⟨hide ?_, hide (hv.moved m2 b1.size), hide (below_touch b1 t2 b1.size (fun k hk => hv k hk))⟩
  rw [oE_succ hk h64, hq, List.length_append, List.flatMap_append]
  simpa using o2
theorem oE_nil (qs : List Bool) : oE qs 0 = [] := by simp [oE]
/-- What stands while the client ticks. -/
structure EI (w : World) (b : Nat) (v : Value) (qs : List Bool) (j : Nat) (wr : World) (c : Cl) : Prop where
  st : (j ≤ qs.length ∧ StA qs j c) ∨ (qs.length < j ∧ StB qs c)
  cl : ClAt wr b c
  nw : New w (trV c)
  bl : Below w.heap.size w wr
  hb : w.heap.size ≤ b
  row : Wide wr 36 5 v qs.length ((qs.map pE).flatMap cellsPo)
theorem EI.step {w wr w' : World} {b : Nat} {v : Value} {qs : List Bool} {j : Nat} {c c' : Cl} (h : EI w b v qs j wr c) (hc : ClAt w' b c') (t : Touch (Mine b c) wr w') (m : Moved wr (trV c) (trV c')) (st : (j + 1 ≤ qs.length ∧ StA qs (j + 1) c') ∨ (qs.length < j + 1 ∧ StB qs c')) : EI w b v qs (j + 1) w' c' :=
  ⟨st, hc, h.nw.moved m h.bl.size, below_touch h.bl t h.bl.size (fun k hk => hk.elim (fun e => by rw [e]; exact h.hb) (fun e => h.nw k e)), h.hb, h.row.keep t (wide_apart h.row h.cl)⟩
theorem tick_EI {w wr : World} {b : Nat} {v : Value} {qs : List Bool} {j : Nat} {c : Cl} (h : EI w b v qs j wr c) (hq : qs.length ≤ 64) :
    Calls Try.prog 11 #[.pointer (some ⟨b, 0, none⟩)] wr fun e w' => e = .returned (.slice none 0 0) ∧ ∃ c', EI w b v qs (j + 1) w' c' := by
  rcases h.st with ⟨hj, st⟩ | ⟨hj, st⟩
  · by_cases hlt : j < qs.length
    · refine (tick_sees qs[j] h.cl st.en (st.op hlt) st.pl (by rw [st.tr, evs_len]; omega) (by omega)).mono ?_
      rintro e w' ⟨rfl, a, k, hc, t, m⟩
      exact ⟨rfl, _, h.step hc t m (.inl ⟨hlt, st.next hlt a k⟩)⟩
    · obtain rfl : j = qs.length := by omega
      refine (tick_end h.cl (by rw [st.tr, evs_len]; omega) (by rw [st.pl, st.os, List.length_map]) st.en).mono ?_
      rintro e w' ⟨rfl, a, k, hc, t, m⟩
      exact ⟨rfl, _, h.step hc t m (.inr ⟨by omega, st.last a k⟩)⟩
  · refine (tick_over h.cl.cl st.en).mono ?_
    rintro e w' ⟨rfl, rfl⟩
    exact ⟨rfl, c, .inr ⟨by omega, st⟩, h.cl, h.nw, h.bl, h.hb, h.row⟩
theorem st_zero {g k k2 : Nat} {a a2 : Option Addr} {qs : List Bool} : StA qs 0 (newC (oneC g a k (qs.map pE)) 0 ⟨0, a, k, qs.map pE⟩ a2 k2) := ⟨rfl, rfl, rfl, rfl, rfl, rfl⟩
end Go.Proofs.Ytbonlonkienhaaa
