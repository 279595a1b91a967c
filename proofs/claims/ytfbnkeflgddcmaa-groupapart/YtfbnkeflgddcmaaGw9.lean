/-
  GroupWaits in plain words. Conditions: as each says.
-/
import Derived.Test.YtfbnkeflgddcmaaGw8
namespace Go.Proofs.Ytfbnkeflgddcmaa
open Go.RowKit Go.Maps
set_option linter.unusedVariables false

def RowsP {α : Type} (cells : α → List Value) (sz : Nat) (w : World) (a : Option Addr) (os : List α) : Prop :=
  ∀ i (hi : i < os.length), ∃ b off, a = some ⟨b, off, none⟩ ∧ b < w.heap.size ∧ ∀ j, j < sz → w.cell? ⟨b, off + i * sz + j, none⟩ = (cells os[i])[j]?
theorem RowsP.keep {α : Type} {cells : α → List Value} {sz : Nat} {w w' : World} {a : Option Addr} {os : List α} (h : RowsP cells sz w a os) (t : Touch (fun _ => False) w w') : RowsP cells sz w' a os := fun i hi => by
  obtain ⟨b, off, e1, e2, e3⟩ := h i hi
  refine ⟨b, off, e1, Nat.lt_of_lt_of_le e2 t.size, fun j hj => ?_⟩
  have hb := t.block b e2 (fun h => h)
  rw [← e3 j hj]
  exact World.cell?_of_block hb
theorem RowsP.at_ {α : Type} {cells : α → List Value} {sz : Nat} {w : World} {a : Option Addr} {os : List α} (h : RowsP cells sz w a os) {k : Nat} (hk : k < os.length) {o : α} (ho : os[k] = o) : ∃ b off, a = some ⟨b, off, none⟩ ∧ b < w.heap.size ∧ ∀ j, j < sz → w.cell? ⟨b, off + k * sz + j, none⟩ = (cells o)[j]? := by
  subst ho
  exact h k hk
theorem off_free {B : Nat} {w : World} {sb : Nat} {mv1 mv2 : Value} {m1 : List (Int × Tm)} {W : List (Int × Sl)} (part : Int) (hp : 0 ≤ part ∧ part ≤ 4) (h : GS B w sb mv1 mv2 m1 W) (hw : ∀ w1, Below w.heap.size w w1 → Calls Try.prog 20 #[.pointer (some ⟨sb, 0, none⟩), .int .i64 1, .int .i64 part] w1 fun e w' => e = .returned (.bool false) ∧ Below w1.heap.size w1 w') :
    Calls Try.prog 9 #[.pointer (some ⟨sb, 0, none⟩), .int .i64 1, .int .i64 part] w fun e w' => e = .returned (.tuple #[.int .i64 (oAt (tOf m1) part), .int .i64 0]) ∧ Below w.heap.size w w' := by
  rcases (show part = 0 ∨ part = 1 ∨ part = 2 ∨ part = 3 ∨ part = 4 by omega) with rfl | rfl | rfl | rfl | rfl
  · exact off_at0 h hw
  · exact off_at1 h hw
  · exact off_at2 h hw
  · exact off_at3 h hw
  · exact off_at4 h hw
/-- The record by which a group has come to x in a partition. -/
def gR (kk : Nat) (x : Int) : Rx := ⟨2, 1, 0, [], (kk : Int), x⟩
theorem gR_fit {kk : Nat} {x : Int} (hk : kk < 4) (h0 : 0 ≤ x) (h1 : x ≤ 65535) : RFit (gR kk x) := by
  refine ⟨?_, ?_, ?_, ?_, ?_, ?_⟩ <;> simp [gR, J64] <;> omega
theorem gR_is {kk : Nat} {x : Int} (hk : kk < 4) (h0 : 0 ≤ x) : isR (gR kk x) = true := by
  simp [isR, gR, rises]
  exact ⟨decide_eq_true (by omega), decide_eq_true h0⟩
theorem gR_len {kk : Nat} {x : Int} (hk : kk < 4) (h0 : 0 ≤ x) (h1 : x ≤ 65535) : (encR (gR kk x)).length ≤ 4096 := by
  have hf := gR_fit hk h0 h1
  have l0 := enc_len10 (zig_lt hf.kd.1 hf.kd.2)
  have l1 := enc_len10 (zig_lt hf.gr.1 hf.gr.2)
  have l2 := enc_len10 (zig_lt hf.gen.1 hf.gen.2)
  have l3 := enc_len10 (zig_lt hf.pt.1 hf.pt.2)
  have l4 := enc_len10 (zig_lt hf.off.1 hf.off.2)
  have l5 : (enc (gR kk x).l.length ++ encL (gR kk x).l).length ≤ 10 := by
    show (enc 0 ++ encL []).length ≤ 10
    have := enc_len10 (n := 0) (by omega)
    simpa [encL] using this
  unfold encR
  simp only [List.length_append] at *
  omega
theorem put_put {kk : Nat} {mo x : Int} (h0 : 0 ≤ mo) : tPut kk x (tPut kk mo tm0) = tPut kk (max mo x) tm0 := by
  unfold tPut tm0
  simp only [Tm.mk.injEq, true_and]
  refine ⟨?_, ?_, ?_, ?_⟩ <;> (split <;> first | rfl | (simp only [if_true]; omega) | omega)
theorem at_put {kk : Nat} {mo : Int} (hk : kk < 4) (h0 : 0 ≤ mo) : oAt (tPut kk mo tm0) (kk : Int) = mo := by
  match kk, hk with
  | 0, _ => simp [oAt, tPut, tm0]; omega
  | 1, _ => simp [oAt, tPut, tm0]; omega
  | 2, _ => simp [oAt, tPut, tm0]; omega
  | 3, _ => simp [oAt, tPut, tm0]; omega
  | n + 4, h => exact absurd h (by omega)
theorem put_zero (kk : Nat) : tPut kk 0 tm0 = tm0 := by
  unfold tPut tm0
  simp
theorem gs_new (w : World) : GS w.heap.size (w.alloc (.cells #[.map none, .map none] 52)) w.heap.size (.map none) (.map none) [] [] :=
  ⟨heap_new _ _, .inl ⟨rfl, rfl⟩, .inl ⟨rfl, rfl⟩, (fun b e => by cases e), .inl rfl, Nat.le_refl _⟩
end Go.Proofs.Ytfbnkeflgddcmaa
