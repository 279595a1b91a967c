/-
  A cluster's settings as they lie: operations, programs; is that an operation; searches over them. Conditions: lengths as memory allows them.
-/
import Derived.Test.YtbonlonkienhaaaLst
import Derived.Deep.LoopGhost
import Derived.BigQuiet
import Derived.Deep.CutBlock
import Derived.Deep.RegionHeld3
import Derived.Deep.MidRow
import Derived.Shelf.Abstract
namespace Go.Proofs.Ytbonlonkienhaaa
open Go.RowKit
set_option linter.unusedVariables false

/-- What is told of a slice of things of sz cells each. -/
def RowsP {α : Type} (cells : α → List Value) (sz : Nat) (w : World) (a : Option Addr) (os : List α) : Prop :=
  ∀ i (hi : i < os.length), ∃ b off, a = some ⟨b, off, none⟩ ∧ b < w.heap.size ∧ ∀ j, j < sz → w.cell? ⟨b, off + i * sz + j, none⟩ = (cells os[i])[j]?
theorem RowsP.keep {α : Type} {cells : α → List Value} {sz : Nat} {w w' : World} {a : Option Addr} {os : List α} (h : RowsP cells sz w a os) (t : Touch (fun _ => False) w w') : RowsP cells sz w' a os := fun i hi => by
  obtain ⟨b, off, e1, e2, e3⟩ := h i hi
  refine ⟨b, off, e1, Nat.lt_of_lt_of_le e2 t.size, fun j hj => ?_⟩
  have hb := t.block b e2 (fun h => h)
  rw [← e3 j hj]
  exact World.cell?_of_block hb
theorem RowsP.at_ {α : Type} {cells : α → List Value} {sz : Nat} {w : World} {a : Option Addr} {os : List α} (h : RowsP cells sz w a os) {k : Nat} (hk : k < os.length) {o : α} (ho : os[k] = o) : ∃ b off, a = some ⟨b, off, none⟩ ∧ b < w.heap.size ∧ ∀ j, j < sz → w.cell? ⟨b, off + k * sz + j, none⟩ = (cells o)[j]? := by
  subst ho
  exact h k hk
theorem any_hit {α : Type} {os : List α} {p : α → Bool} {k : Nat} (hk : k < os.length) (h : p os[k] = true) : os.any p = true := List.any_eq_true.2 ⟨os[k], List.getElem_mem hk, h⟩
theorem any_none {α : Type} {os : List α} {p : α → Bool} (h : ∀ j (hj : j < os.length), p os[j] = false) : os.any p = false := by
  rw [List.any_eq_false]
  intro x hx
  obtain ⟨j, hj, rfl⟩ := List.getElem_of_mem hx
  rw [h j hj]
  decide
/-- An operation. -/
structure Po where
  kd : Int
  pt : Int
  tt : Int
  ct : Int
  s : ByteArray
def cellsPo (o : Po) : List Value := [.int .i64 o.kd, .int .i64 o.pt, .int .i64 o.tt, .int .i64 o.ct, .string o.s]
def opB (o : Po) (n : Int) : Bool := decide (1 ≤ o.kd) && (decide (o.kd ≤ 5) && (decide (0 ≤ o.pt) && (decide (o.pt < n) && (decide (0 ≤ o.tt) && (decide (o.tt < n) && (decide (0 ≤ o.ct) && (decide (o.ct ≤ 16) && decide ((o.s.size : Int) ≤ 64))))))))
/-- A program. -/
structure Pg where
  g : Int
  a : Option Addr
  c : Nat
  os : List Po
def cellsPg (p : Pg) : List Value := [.int .i64 p.g, .slice p.a p.os.length p.c]
def prB (n : Int) (p : Pg) : Bool := decide (0 ≤ p.g) && (decide (p.g ≤ 7) && (decide ((p.os.length : Int) ≤ 64) && !(p.os.any (fun o => !(opB o n)))))
set_option maxHeartbeats 2000000 in
theorem po_index {w : World} {a : Option Addr} {os : List Po} {c g : Nat} {pre lb : Array Value} {p : Po → Bool} (eg : ∀ args w, (callFunc g args).run Try.prog w = .ok (.enter g args) w) (h : RowsP cellsPo 5 w a os) (hl : os.length ≤ maxLen)
    (hp : ∀ o ∈ os, ∀ W, Touch (fun _ => False) w W → Calls Try.prog g (pre ++ #[.agg (cellsPo o).toArray] ++ lb) W fun e W' => e = .returned (.bool (p o)) ∧ Touch (fun _ => False) W W') :
    Calls Try.prog 50 #[.slice a os.length c, .func (.func g) pre lb] w fun e w' => ∃ r : Int, e = .returned (.int .i64 r) ∧ decide (0 ≤ r) = os.any p ∧ Touch (fun _ => False) w w' := by
  have H := hide h
  have HP := hide hp
  have HL := hide hl
  generalize hn : os.length = n
  have HN := hide hn
  clear h hp hl hn
  go_enter Try.func50, Try.ntmps50
  go_wp2
  go_loopg [5, 8] n (fun gg _ s8 wr => ∃ kk : Nat, kk ≤ n ∧ n - kk ≤ gg ∧ s8 = .int .i64 kk ∧ Hid (Touch (fun _ => False) w wr) ∧ Hid (∀ j (hj : j < os.length), j < kk → p os[j] = false))
  case atStart => exact ⟨0, Nat.zero_le _, by omega, rfl, hide (Touch.refl _ _), hide (fun j _ hj => absurd hj (Nat.not_lt_zero _))⟩
  case round =>
    obtain ⟨kk, hkk, hg, rfl, T, A⟩ := hrel
    by_cases hlt : kk < n
    · have hltz : (kk : Int) < (n : Int) := by omega
      have hk' : kk < os.length := by rw [unhide HN]; exact hlt
      have hbig : n ≤ 9223372036854775807 := by have := unhide HL; rw [unhide HN] at this; unfold maxLen at this; omega
      have HK := hide hk'
      obtain ⟨o, ho⟩ : ∃ o, os[kk] = o := ⟨_, rfl⟩
      have HO := hide ho
      obtain ⟨b, off, rfl, hb0, hcell⟩ := (RowsP.keep (unhide H) (unhide T)).at_ hk' ho
      have x0 := hcell 0 (by omega)
      have x1 := hcell 1 (by omega)
      have x2 := hcell 2 (by omega)
      have x3 := hcell 3 (by omega)
      have x4 := hcell 4 (by omega)
      rw [Nat.add_zero] at x0
      simp only [cellsPo, List.getElem?_cons_zero, List.getElem?_cons_succ] at x0 x1 x2 x3 x4
      have hcall := hide (unhide HP o (by rw [← ho]; exact List.getElem_mem hk') _ (unhide T))
      unfold cellsPo at hcall
      clear hk' hcell hb0 ho
      cases hq : p o with
      | true =>
        rw [hq] at hcall
        go_wp2_with (go_at_fn g; refine (unhide hcall).mono ?_; rintro e w' ⟨rfl, t2⟩)
        go_ret
        exact ⟨_, rfl, by rw [any_hit (unhide HK) ((congrArg p (unhide HO)).trans hq)]; simp, (unhide T).trans t2⟩
      | false =>
        rw [hq] at hcall
        go_wp2_with (go_at_fn g; refine (unhide hcall).mono ?_; rintro e w' ⟨rfl, t2⟩; have T2 := hide t2; clear t2)
        go_roundg (n - (kk + 1))
        case measure => omega
        case rel =>
          refine ⟨kk + 1, by omega, by omega, by go_num, hide ((unhide T).trans (unhide T2)), hide (fun j hj hl => ?_)⟩
          by_cases e : j = kk
          · subst e
            exact (congrArg p (unhide HO)).trans hq
          · exact unhide A j hj (by omega)
    · have hltz : ¬ (kk : Int) < (n : Int) := by omega
      go_wp2
      go_ret
      refine ⟨_, rfl, ?_, unhide T⟩
      have e : kk = n := by omega
      rw [any_none (fun j hj => unhide A j hj (by rw [unhide HN] at hj; omega))]
      rfl
theorem po_contains {w : World} {a : Option Addr} {os : List Po} {c g : Nat} {pre lb : Array Value} {p : Po → Bool} (eg : ∀ args w, (callFunc g args).run Try.prog w = .ok (.enter g args) w) (h : RowsP cellsPo 5 w a os) (hl : os.length ≤ maxLen)
    (hp : ∀ o ∈ os, ∀ W, Touch (fun _ => False) w W → Calls Try.prog g (pre ++ #[.agg (cellsPo o).toArray] ++ lb) W fun e W' => e = .returned (.bool (p o)) ∧ Touch (fun _ => False) W W') :
    Calls Try.prog 38 #[.slice a os.length c, .func (.func g) pre lb] w fun e w' => e = .returned (.bool (os.any p)) ∧ Touch (fun _ => False) w w' := by
  have K := hide (po_index (c := c) eg h hl hp)
  clear h hl hp
  generalize os.length = n at *
  generalize os.any p = q at *
  go_enter Try.func38, Try.ntmps38
  go_wp2_with (go_at_call 50; refine (unhide K).mono ?_; rintro e w' ⟨r, rfl, hr, t2⟩)
  go_ret
  exact ⟨rfl, t2⟩
set_option maxHeartbeats 2000000 in
theorem pg_index {w : World} {a : Option Addr} {os : List Pg} {c g : Nat} {pre lb : Array Value} {p : Pg → Bool} (eg : ∀ args w, (callFunc g args).run Try.prog w = .ok (.enter g args) w) (h : RowsP cellsPg 2 w a os) (hl : os.length ≤ maxLen)
    (hp : ∀ o ∈ os, ∀ W, Touch (fun _ => False) w W → Calls Try.prog g (pre ++ #[.agg (cellsPg o).toArray] ++ lb) W fun e W' => e = .returned (.bool (p o)) ∧ Touch (fun _ => False) W W') :
    Calls Try.prog 39 #[.slice a os.length c, .func (.func g) pre lb] w fun e w' => ∃ r : Int, e = .returned (.int .i64 r) ∧ decide (0 ≤ r) = os.any p ∧ Touch (fun _ => False) w w' := by
  have H := hide h
  have HP := hide hp
  have HL := hide hl
  generalize hn : os.length = n
  have HN := hide hn
  clear h hp hl hn
  go_enter Try.func39, Try.ntmps39
  go_wp2
  go_loopg [5, 8] n (fun gg _ s8 wr => ∃ kk : Nat, kk ≤ n ∧ n - kk ≤ gg ∧ s8 = .int .i64 kk ∧ Hid (Touch (fun _ => False) w wr) ∧ Hid (∀ j (hj : j < os.length), j < kk → p os[j] = false))
  case atStart => exact ⟨0, Nat.zero_le _, by omega, rfl, hide (Touch.refl _ _), hide (fun j _ hj => absurd hj (Nat.not_lt_zero _))⟩
  case round =>
    obtain ⟨kk, hkk, hg, rfl, T, A⟩ := hrel
    by_cases hlt : kk < n
    · have hltz : (kk : Int) < (n : Int) := by omega
      have hk' : kk < os.length := by rw [unhide HN]; exact hlt
      have hbig : n ≤ 9223372036854775807 := by have := unhide HL; rw [unhide HN] at this; unfold maxLen at this; omega
      have HK := hide hk'
      obtain ⟨o, ho⟩ : ∃ o, os[kk] = o := ⟨_, rfl⟩
      have HO := hide ho
      obtain ⟨b, off, rfl, hb0, hcell⟩ := (RowsP.keep (unhide H) (unhide T)).at_ hk' ho
      have x0 := hcell 0 (by omega)
      have x1 := hcell 1 (by omega)
      rw [Nat.add_zero] at x0
      simp only [cellsPg, List.getElem?_cons_zero, List.getElem?_cons_succ] at x0 x1
      have hcall := hide (unhide HP o (by rw [← ho]; exact List.getElem_mem hk') _ (unhide T))
      unfold cellsPg at hcall
      clear hk' hcell hb0 ho
      cases hq : p o with
      | true =>
        rw [hq] at hcall
        go_wp2_with (go_at_fn g; refine (unhide hcall).mono ?_; rintro e w' ⟨rfl, t2⟩)
        go_ret
        exact ⟨_, rfl, by rw [any_hit (unhide HK) ((congrArg p (unhide HO)).trans hq)]; simp, (unhide T).trans t2⟩
      | false =>
        rw [hq] at hcall
        go_wp2_with (go_at_fn g; refine (unhide hcall).mono ?_; rintro e w' ⟨rfl, t2⟩; have T2 := hide t2; clear t2)
        go_roundg (n - (kk + 1))
        case measure => omega
        case rel =>
          refine ⟨kk + 1, by omega, by omega, by go_num, hide ((unhide T).trans (unhide T2)), hide (fun j hj hl => ?_)⟩
          by_cases e : j = kk
          · subst e
            exact (congrArg p (unhide HO)).trans hq
          · exact unhide A j hj (by omega)
    · have hltz : ¬ (kk : Int) < (n : Int) := by omega
      go_wp2
      go_ret
      refine ⟨_, rfl, ?_, unhide T⟩
      have e : kk = n := by omega
      rw [any_none (fun j hj => unhide A j hj (by rw [unhide HN] at hj; omega))]
      rfl
theorem pg_contains {w : World} {a : Option Addr} {os : List Pg} {c g : Nat} {pre lb : Array Value} {p : Pg → Bool} (eg : ∀ args w, (callFunc g args).run Try.prog w = .ok (.enter g args) w) (h : RowsP cellsPg 2 w a os) (hl : os.length ≤ maxLen)
    (hp : ∀ o ∈ os, ∀ W, Touch (fun _ => False) w W → Calls Try.prog g (pre ++ #[.agg (cellsPg o).toArray] ++ lb) W fun e W' => e = .returned (.bool (p o)) ∧ Touch (fun _ => False) W W') :
    Calls Try.prog 28 #[.slice a os.length c, .func (.func g) pre lb] w fun e w' => e = .returned (.bool (os.any p)) ∧ Touch (fun _ => False) w w' := by
  have K := hide (pg_index (c := c) eg h hl hp)
  clear h hl hp
  generalize os.length = n at *
  generalize os.any p = q at *
  go_enter Try.func28, Try.ntmps28
  go_wp2_with (go_at_call 39; refine (unhide K).mono ?_; rintro e w' ⟨r, rfl, hr, t2⟩)
  go_ret
  exact ⟨rfl, t2⟩
end Go.Proofs.Ytbonlonkienhaaa
