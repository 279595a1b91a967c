/-
  Slices of bytes in memory, as they are read and cut. Plain lemmas, no conditions.
-/
import Derived.Test.YtfbnkeflgddcmaaBase
import Derived.Test.YtfbnkeflgddcmaaChecked
import Derived.OpenShut
namespace Go.Proofs.Ytfbnkeflgddcmaa
open Go.RowKit
set_option linter.unusedVariables false

/-- What is told of a slice of bytes in memory: g i is byte i. -/
def BytesAt (w : World) (a : Option Addr) (len : Nat) (g : Nat → Nat) : Prop :=
  ∀ i, i < len → ∃ b off, a = some ⟨b, off, none⟩ ∧ b < w.heap.size ∧ w.cell? ⟨b, off + i, none⟩ = some (.int .u8 (g i)) ∧ g i < 256

theorem BytesAt.later {w w' : World} {a : Option Addr} {len : Nat} {g : Nat → Nat} {B : Nat} (h : BytesAt w a len g) (hb : Below B w w') (ha : ∀ x, a = some x → x.block < B) : BytesAt w' a len g := by
  intro i hi
  obtain ⟨b, off, h1, h2, h3, h4⟩ := h i hi
  exact ⟨b, off, h1, Nat.lt_of_lt_of_le h2 hb.size, (hb.cell (p := ⟨b, off + i, none⟩) (show b < B from ha ⟨b, off, none⟩ h1)).trans h3, h4⟩

theorem cell_of' {w : World} {b : Nat} {cs : Array Value} {t : TypeId} {fr : Nat × Nat} (h : w.heap[b]? = some (.cells cs t fr)) (i : Nat) : w.cell? ⟨b, i, none⟩ = cs[i]? := by
  unfold World.cell?; rw [h]; rfl

theorem RowOf.bytes {w : World} {a : Option Addr} {len : Nat} {f : Nat → Int} (h : RowOf .u8 w a len f) : BytesAt w a len (fun i => (f i).toNat) := by
  intro i hi
  obtain ⟨b, off, h1, h2, h3, h4⟩ := h i hi
  have := bounds_u8 h4
  refine ⟨b, off, h1, h2, ?_, ?_⟩
  · rw [h3]
    show _ = some (Value.int .u8 ((f i).toNat : Int))
    rw [Int.toNat_of_nonneg this.1]
  · show (f i).toNat < 256
    omega

theorem arg_later {w x : World} {a : Option Addr} {len : Nat} {g : Nat → Nat} (hg : BytesAt w a len g) (hb : Below w.heap.size w x) : BytesAt x a len g := fun i hi => by
  obtain ⟨b, off, h1, h2, h3, h4⟩ := hg i hi
  exact ⟨b, off, h1, Nat.lt_of_lt_of_le h2 hb.size, (hb.cell (p := ⟨b, off + i, none⟩) h2).trans h3, h4⟩

/-- b[k:]. -/
def cut (a : Option Addr) (k cap : Nat) : Option Addr := if cap = k then a else a.map (·.add k)
theorem slice_h (a : Option Addr) (len cap k : Nat) (hk : k ≤ cap) (w : World) : (Instr.slice 41 (.slice a len cap) none (some (.int .i64 (k : Int))) none).run Try.prog w = .ok (.slice a k cap) w := by
  have hel : Try.prog.underlying 41 = some (.slice (Try.prog.elem 41)) := by kernel_rfl
  have hsz : ∀ w, (sizeOf (Try.prog.elem 41)).run Try.prog w = .ok 1 w := fun _ => by kernel_rfl
  rw [run_slice_h w 41 a len cap hel .i64 (k : Int) (by omega) (by omega), hsz]
  have e : ∀ a : Option Addr, a.map (fun x => x.add 0) = a := fun a => by cases a <;> simp [Addr.add]
  simp [Result.andThen, sliced, e]
theorem slice_l (a : Option Addr) (len cap k : Nat) (hk : k ≤ len) (w : World) : (Instr.slice 41 (.slice a len cap) (some (.int .i64 (k : Int))) none none).run Try.prog w = .ok (.slice (cut a k cap) (len - k) (cap - k)) w := by
  have hel : Try.prog.underlying 41 = some (.slice (Try.prog.elem 41)) := by kernel_rfl
  have hsz : ∀ w, (sizeOf (Try.prog.elem 41)).run Try.prog w = .ok 1 w := fun _ => by kernel_rfl
  rw [run_slice_l w 41 a len cap hel .i64 (k : Int) (by omega) (by omega), hsz]
  simp [Result.andThen, sliced, cut]
theorem cut_bytes {w : World} {a : Option Addr} {len cap k : Nat} {g : Nat → Nat} (h : BytesAt w a len g) (hc : len ≤ cap) : BytesAt w (cut a k cap) (len - k) (fun i => g (k + i)) := by
  intro i hi
  obtain ⟨b, off, h1, h2, h3, h4⟩ := h (k + i) (by omega)
  refine ⟨b, off + k, ?_, h2, by rw [Nat.add_assoc]; exact h3, h4⟩
  unfold cut
  rw [if_neg (by omega), h1]
  simp only [Option.map_some]
  congr 1
  unfold Addr.add
  split
  · rename_i h0; subst h0; rfl
  · rfl
theorem head_bytes {w : World} {a : Option Addr} {len k : Nat} {g : Nat → Nat} (h : BytesAt w a len g) (hk : k ≤ len) : BytesAt w a k g := fun i hi => h i (by omega)
end Go.Proofs.Ytfbnkeflgddcmaa
