/-
  The statements' own helpers of layer 2: 'own' hands back new bytes alike, and penstockref02.More is the sum of the text on CRC-32C. Conditions: the bytes are at most 2^47.
-/
import Derived.Test.YtfdpnfeaagijhaaWCrcDo
import Derived.OpenShut
import Derived.Laws.MakeOwn
import Derived.Laws.CopyOwn

namespace Go.Proofs.Ytfdpnfeaagijhaa
variable {Xo : Outer}
open Go.RowKit

/-- A block of bytes that the call made: its first n bytes are g's. -/
def OwnAt (w : World) (b n : Nat) (g : Nat → Nat) : Prop :=
  ∃ cs : Array Value, w.heap[b]? = some (.cells cs 5) ∧ n ≤ cs.size ∧ ∀ i, i < n → cs[i]? = some (.int .u8 (g i)) ∧ g i < 256

theorem OwnAt.lt {w : World} {b n : Nat} {g : Nat → Nat} (h : OwnAt w b n g) : b < w.heap.size := by obtain ⟨cs, h1, _⟩ := h; exact lt_of_heap h1
theorem OwnAt.keep {w w' : World} {b n : Nat} {g : Nat → Nat} {S : Nat → Prop} (h : OwnAt w b n g) (t : Touch S w w') (hs : ¬ S b) : OwnAt w' b n g := by
  obtain ⟨cs, h1, h2⟩ := h; exact ⟨cs, t.keep h1 hs, h2⟩
theorem OwnAt.bytes {w : World} {b n : Nat} {g : Nat → Nat} (h : OwnAt w b n g) : BytesAt w (some ⟨b, 0, none⟩) n g := by
  obtain ⟨cs, h1, h2, h3⟩ := h
  intro i hi
  refine ⟨b, 0, rfl, lt_of_heap h1, ?_, (h3 i hi).2⟩
  rw [cell_of h1, Nat.zero_add]; exact (h3 i hi).1
theorem OwnAt.cell {w : World} {b n : Nat} {g : Nat → Nat} (h : OwnAt w b n g) {i : Nat} (hi : i < n) : w.cell? ⟨b, i, none⟩ = some (.int .u8 (g i)) := by
  obtain ⟨cs, h1, h2, h3⟩ := h
  rw [cell_of h1]; exact (h3 i hi).1
theorem OwnAt.frozen {w : World} {b n : Nat} {g : Nat → Nat} (h : OwnAt w b n g) (i : Nat) : w.frozen? ⟨b, i, none⟩ = false := by
  obtain ⟨cs, h1, _⟩ := h; exact frozen_of h1 i
theorem OwnAt.set {w : World} {b n : Nat} {g : Nat → Nat} (h : OwnAt w b n g) {i : Nat} (hi : i < n) {x : Nat} (hx : x < 256) : OwnAt (w.setCell ⟨b, i, none⟩ (.int .u8 x)) b n (upn g i x) := by
  obtain ⟨cs, h1, h2, h3⟩ := h
  refine ⟨_, heap_set h1 i _, by simpa using h2, fun j hj => ?_⟩
  rw [Array.getElem?_setIfInBounds]
  unfold upn
  by_cases e : j = i
  · subst e; rw [if_pos rfl, if_pos (by omega), if_pos rfl]; exact ⟨rfl, hx⟩
  · rw [if_neg (by omega), if_neg e]; exact h3 j hj
theorem OwnAt.congr {w : World} {b n : Nat} {g h : Nat → Nat} (m : OwnAt w b n g) (e : ∀ i, i < n → g i = h i) : OwnAt w b n h := by
  obtain ⟨cs, h1, h2, h3⟩ := m
  exact ⟨cs, h1, h2, fun i hi => by rw [← e i hi]; exact h3 i hi⟩

theorem info_u8 : ∃ i, Try.prog.info? 5 = some i ∧ i.zero = some (.int .u8 0) ∧ i.size = 1 ∧ i.bytes = 1 := by
  have h : (Try.prog.info? 5).map (fun i => (i.zero, i.size, i.bytes)) = some (some (.int .u8 0), 1, 1) := by kernel_rfl
  obtain ⟨i, hi, hz⟩ := Option.map_eq_some_iff.1 h
  simp only [Prod.mk.injEq] at hz
  exact ⟨i, hi, hz⟩

theorem make_own (len : Nat) (hlen : len ≤ 140737488351232) (w : World) :
    (Instr.makeSlice 32 (.int .i64 (len : Int)) (.int .i64 ((len : Int) + 9))).run Try.prog w = .ok (.slice (some ⟨w.heap.size, 0, none⟩) len (len + 9)) (w.alloc (.cells (madeCells #[.int .u8 0] (len + 9)) 5)) := by
  obtain ⟨i, hi, hz, hs, hb⟩ := info_u8
  have h := run_make (P := Try.prog) w 32 5 i _ Try.underlying32 hi hz .i64 .i64 (len : Int) ((len : Int) + 9) (by omega) (by omega) (by rw [hb]; omega) (by omega)
  have e1 : ((len : Int) + 9).toNat = len + 9 := by omega
  rw [Int.toNat_natCast, e1, hs, Nat.mul_one] at h
  exact h

theorem copy_own (a : Option Addr) (len cap : Nat) (g : Nat → Nat) (w : World) (hg : BytesAt w a len g) :
    ∃ w', (Builtin.copy_ #[32, 32] 3 #[.slice (some ⟨w.heap.size, 0, none⟩) len (len + 9), .slice a len cap]).run Try.prog (w.alloc (.cells (madeCells #[.int .u8 0] (len + 9)) 5)) = .ok (.int .i64 (len : Int)) w' ∧
      OwnAt w' w.heap.size len g ∧ Below w.heap.size w w' := by
  have hsz : (Try.prog.info? 5).map (·.size) = some 1 := by kernel_rfl
  have b0 : Below w.heap.size w (w.alloc (.cells (madeCells #[.int .u8 0] (len + 9)) 5)) := (Below.refl _ _).alloc (Nat.le_refl _) _
  by_cases h0 : len = 0
  · subst h0
    refine ⟨_, run_copy_none (P := Try.prog) _ 32 32 3 5 _ a 0 (0 + 9) 0 cap Try.underlying32 hsz rfl, ⟨_, heap_new _ _, Nat.zero_le _, fun i hi => by omega⟩, b0⟩
  · obtain ⟨b, off, rfl, hb, _, _⟩ := hg 0 (by omega)
    have hcl : ((List.range len).map (fun i => Value.int .u8 (g i))).length = len := by simp
    have hrun := run_copy_row (P := Try.prog) (w.alloc (.cells (madeCells #[.int .u8 0] (len + 9)) 5)) 32 32 3 5 w.heap.size 0 len (len + 9) ⟨b, off, none⟩ len cap (madeCells #[.int .u8 0] (len + 9)) 5 ((List.range len).map (fun i => Value.int .u8 (g i)))
      Try.underlying32 hsz (heap_new _ _) (by rw [hcl]; exact (Nat.min_self len).symm) (fun j v hj => by
        have hjl : j < len := by
          have := (List.getElem?_eq_some_iff.1 hj).1
          rw [hcl] at this; exact this
        obtain ⟨b', off', ha', hb', hc', _⟩ := hg j hjl
        simp at ha'
        obtain ⟨rfl, rfl⟩ := ha'
        have ev : v = .int .u8 (g j) := by
          simp [hjl] at hj
          exact hj.symm
        have hadd : Addr.add ⟨b, off, none⟩ j = ⟨b, off + j, none⟩ := by
          unfold Addr.add
          split
          · rename_i h0; subst h0; rfl
          · rfl
        rw [hadd, ev, b0.cell (p := ⟨b, off + j, none⟩) hb']
        exact hc') (by rw [hcl, size_madeCells]; omega) (fun v hv => by
        obtain ⟨i, _, rfl⟩ := List.mem_map.1 hv
        rfl)
    rw [hcl] at hrun
    refine ⟨_, hrun, ⟨_, setRow_heap _ _ _ _ _ _ (heap_new _ _), ?_, fun i hi => ?_⟩, below_setRow b0 (Nat.le_refl _) _⟩
    · simp [size_madeCells]
    · obtain ⟨_, _, _, _, _, h256⟩ := hg i hi
      refine ⟨?_, h256⟩
      rw [List.getElem?_toArray, List.take_zero, List.nil_append, List.getElem?_append_left (by rw [hcl]; exact hi)]
      simp [hi]


theorem shr_bit (x j : Nat) : x / 2 ^ j % 2 = (x.testBit j).toNat := by
  rw [Nat.testBit_eq_decide_div_mod_eq]
  have := Nat.mod_two_eq_zero_or_one (x / 2 ^ j)
  rcases this with h | h <;> simp [h]

theorem bit_div (b : Bool) : b.toNat / 2 = 0 := by cases b <;> rfl
theorem bit_mod (b : Bool) : b.toNat % 2 = b.toNat := by cases b <;> rfl
theorem stp_bit1 (q : Nat) (b : Bool) (h : q % 2 + b.toNat = 1) : stp (q ^^^ b.toNat) = (q / 2) ^^^ pol := by
  unfold stp
  rw [xor_mod2, xor_div2, bit_div, bit_mod, Nat.xor_zero, h, if_pos rfl]
theorem stp_bit0 (q : Nat) (b : Bool) (h : (q % 2 + b.toNat) % 2 = 0) : stp (q ^^^ b.toNat) = q / 2 := by
  unfold stp
  rw [xor_mod2, xor_div2, bit_div, bit_mod, Nat.xor_zero, h, if_neg (by omega), Nat.xor_zero]
theorem and_bit (x j : Nat) (hx : x < 256) : bits .and .u32 ((x : Int) / 2 ^ j % 4294967296) 1 = (((x.testBit j).toNat : Nat) : Int) := by
  have h1 : ((x : Int) / 2 ^ j % 4294967296) = ((x / 2 ^ j : Nat) : Int) := by
    have e : ((x : Int) / 2 ^ j) = ((x / 2 ^ j : Nat) : Int) := by simp
    rw [e]
    have : x / 2 ^ j ≤ x := Nat.div_le_self _ _
    generalize x / 2 ^ j = y at *
    omega
  rw [h1, and1 _ (by have : x / 2 ^ j ≤ x := Nat.div_le_self _ _
                     omega), shr_bit]

end Go.Proofs.Ytfdpnfeaagijhaa
