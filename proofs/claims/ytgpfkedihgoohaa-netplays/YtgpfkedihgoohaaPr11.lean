/-
  Pairs of numbers: two held against each other; a list of pairs as it is read. No conditions beyond the reading.
-/
import Derived.Test.YtgpfkedihgoohaaLd11
import Derived.OpenShut
import Derived.DeepKeys
namespace Go.Proofs.Ytgpfkedihgoohaa
open Go.RowKit Go.Maps Go.Deep Go.ChangeShapes
set_option linter.unusedVariables false

set_option maxRecDepth 100000 in
theorem two_arr : WideMaps.ArrKey Try.prog 46 3 2 := ⟨Try.underlying46, by kernel_rfl, by kernel_rfl, by kernel_rfl⟩
theorem two_key {a b : Int} (ha : InR a) (hb : InR b) : keyOf Try.prog 46 (pairV a b) = some (pairL a b) := WideMaps.keyOf_pair two_arr Try.underlying3 types_some ha.wf hb.wf
theorem eql_pair {a b c d : Int} (ha : InR a) (hb : InR b) (hc : InR c) (hd : InR d) (w : World) : (binOp .eql 46 (pairV a b) (pairV c d)).run Try.prog w = .ok (.bool (decide (a = c ∧ b = d))) w := by
  obtain ⟨r, hr, hiff⟩ := Go.run_equal_deep w (m := 2) (by omega) (two_arr.at 0) two_arr.wide (two_key ha hb) (two_key hc hd)
  have : r = decide (a = c ∧ b = d) := by
    by_cases h : a = c ∧ b = d
    · obtain ⟨rfl, rfl⟩ := h
      rw [hiff.2 rfl]; simp
    · rw [decide_eq_false h]
      cases r with
      | false => rfl
      | true => exact absurd (pair_inj ha hb hc hd (hiff.1 rfl)) h
  rw [← this]
  simp [binOp, hr]
abbrev prC (x : Int × Int) : List Value := [.int .i64 x.1, .int .i64 x.2]
set_option maxRecDepth 100000 in
theorem cells11_two : Try.prog.cellsOf 46 = 2 := by kernel_rfl
set_option maxRecDepth 100000 in
theorem bytes11_two : Try.prog.bytesOf 46 = 16 := by kernel_rfl
section
variable {H : Type} {enc_ : TypeId × Value → H} {w : World} {base : Nat} {held : Bool}
set_option maxRecDepth 100000 in
theorem two_open {fuel : Nat} {cs : List Value} {x : DataW H × List MemPlace} (h : DataW.trod enc_ Try.prog w base (fun _ => true) held fuel 46 cs = some x) (hs : ∀ n ∈ x.1.weights Try.prog 46, n ≤ reachBytes) :
    ∃ o : Int × Int, cs = prC o ∧ (InR o.1 ∧ InR o.2) := by
  obtain ⟨xs, n, _, rfl, hlen, hxl, hf⟩ := DataW.trod_array Try.underlying46 h
  rw [cells11_two] at hlen
  match xs, hxl, cs, hlen with
  | [y0, y1], _, [c0, c1], _ =>
    have g0 := hf 0 (by omega)
    have g1 := hf 1 (by omega)
    simp [cells11_int] at g0 g1
    obtain ⟨v0, e0, _, b0⟩ := DataW.trod_int Try.underlying3 g0
    obtain ⟨v1, e1, _, b1⟩ := DataW.trod_int Try.underlying3 g1
    cases e0
    cases e1
    have B0 := bounds_i64 b0
    have B1 := bounds_i64 b1
    exact ⟨(v0, v1), rfl, ⟨B0.1, by show v0 ≤ _; omega⟩, ⟨B1.1, by show v1 ≤ _; omega⟩⟩
theorem pairs_read {fuel : Nat} {c : Value} {x : DataW H × List MemPlace} (h : DataW.trod enc_ Try.prog w base (fun _ => true) held fuel 27 [c] = some x) (hs : ∀ n ∈ x.1.weights Try.prog 27, n ≤ reachBytes) :
    ∃ (ps : List (Int × Int)) (a : Option Addr) (cap : Nat), c = .slice a ps.length cap ∧ ps.length * 16 ≤ reachBytes ∧ RowsAt prC 2 w a ps ∧ ∀ p ∈ ps, InR p.1 ∧ InR p.2 :=
  rows_read prC 2 16 (fun p => InR p.1 ∧ InR p.2) 46 27 Try.underlying27 cells11_two bytes11_two (by omega) (fun _ => rfl) (fun h hs => two_open h hs) h hs
end
/-- What is cut behind the first k. -/
def Ck (xs : List (Int × Int)) (k : Nat) : Cts := (xs.take k).filter (fun x => decide (x.1 ≠ x.2))
theorem Ck_len (xs : List (Int × Int)) (k : Nat) : (Ck xs k).length ≤ k := by
  unfold Ck
  refine Nat.le_trans (List.length_filter_le _ _) ?_
  rw [List.length_take]; omega
theorem Ck_step {xs : List (Int × Int)} {k : Nat} (h : k < xs.length) : cutE (Ck xs k) xs[k].1 xs[k].2 = Ck xs (k + 1) := by
  unfold Ck cutE
  have e : xs.take (k + 1) = xs.take k ++ [xs[k]] := by rw [List.take_add_one, List.getElem?_eq_getElem h]; rfl
  rw [e, List.filter_append]
  by_cases h2 : xs[k].1 = xs[k].2
  · rw [if_pos h2]
    simp [h2]
  · rw [if_neg h2]
    simp [h2]
theorem isC_cut (D : Cts) (x y a b : Int) : isC (cutE D x y) a b = (isC D a b || (decide (x ≠ y) && (decide (x = a ∧ y = b) || decide (x = b ∧ y = a)))) := by
  unfold cutE
  by_cases h : x = y
  · rw [if_pos h]; simp [h]
  · rw [if_neg h]
    unfold isC
    rw [List.any_append]
    simp [h]
end Go.Proofs.Ytgpfkedihgoohaa
