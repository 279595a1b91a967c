/-
  Slices of bytes, and lists of them, as they are read: what they hold, and how much at most. No conditions beyond the reading.
-/
import Derived.Test.YtfdpnfeaagijhaaRows
import Derived.Test.YtfdpnfeaagijhaaWSc1
import Derived.Deep.Slices
import Derived.ChangeArms
import Derived.ChangeSlices

namespace Go.Proofs.Ytfdpnfeaagijhaa
variable {Xo : Outer}
open Go.RowKit Go.Deep Go.ChangeShapes
set_option linter.unusedVariables false

theorem bulk_one {H : Type} (d : DataW H) : 1 ≤ Rows.uptoBulk d := by
  cases d with
  | lit l => cases l <;> simp [Rows.uptoBulk]
  | nil => simp [Rows.uptoBulk]
  | ptr d => simp [Rows.uptoBulk]
  | slice elems spare => simp [Rows.uptoBulk]
  | agg parts => simp [Rows.uptoBulk]
  | iface t d => simp [Rows.uptoBulk]
  | map entries => simp [Rows.uptoBulk]
  | held h => simp [Rows.uptoBulk]
theorem bulk_part {H : Type} {d : DataW H} {l : List (DataW H)} (h : d ∈ l) : Rows.uptoBulk d ≤ Rows.uptoBulkAll l := by
  induction l with
  | nil => cases h
  | cons x r ih =>
    simp only [Rows.uptoBulkAll]
    cases List.mem_cons.1 h with
    | inl e => subst e; omega
    | inr e => have := ih e; omega
theorem bulk_len {H : Type} (l : List (DataW H)) : l.length ≤ Rows.uptoBulkAll l := by
  induction l with
  | nil => simp [Rows.uptoBulkAll]
  | cons x r ih => have := bulk_one x; simp only [Rows.uptoBulkAll, List.length_cons]; omega

set_option maxRecDepth 100000 in
theorem cells_u8 : Try.prog.cellsOf 5 = 1 := by kernel_rfl
set_option maxRecDepth 100000 in
theorem cells_sl : Try.prog.cellsOf 32 = 1 := by kernel_rfl

section
variable {H : Type} {enc_ : TypeId × Value → H} {w : World} {base : Nat} {held : Bool}

/-- A slice of bytes. -/
theorem bytes_read {fuel : Nat} {c : Value} {x : DataW H × List MemPlace} (h : DataW.trod enc_ Try.prog w base (fun _ => true) held fuel 32 [c] = some x) :
    ∃ (l : List Nat) (a : Option Addr) (cap : Nat), c = .slice a l.length cap ∧ LAt w a l ∧ (a = none → cap = 0) ∧ l.length ≤ cap ∧ l.length + 1 ≤ Rows.uptoBulk x.1 := by
  rcases open_ints Try.underlying32 Try.underlying5 cells_u8 h with ⟨hcs, hx⟩ | ⟨a, l, cap, zs, hcs, _, hl, hm, hz, hx, hcell, hwz⟩
  · cases hcs
    exact ⟨[], none, 0, rfl, (fun i hi => by cases hi), fun _ => rfl, Nat.le_refl _, by rw [hx]; simp [Rows.uptoBulk]⟩
  · cases hcs
    have hz' : zs.length = cap := by simpa using hz
    have hR := RowOf.of (k := .u8) (cap := cap) (len := l) (zs := zs) (.inr ⟨_, rfl, hl, hm, hz', hcell, hwz⟩)
    obtain ⟨bs, e1, e2⟩ := hR.1.bytes.list
    subst e1
    refine ⟨bs, some a, cap, rfl, e2, (fun h => by cases h), hl, ?_⟩
    rw [hx]
    simp only [Rows.uptoBulk]
    have := bulk_len (H := H) (lits .u8 (zs.take bs.length))
    simp only [lits, List.length_map, List.length_take] at this ⊢
    omega

set_option maxRecDepth 100000 in
/-- A list of slices of bytes. -/
theorem pays_read {fuel : Nat} {c : Value} {x : DataW H × List MemPlace} (h : DataW.trod enc_ Try.prog w base (fun _ => true) held fuel 22 [c] = some x) :
    ∃ (ls : List (List Nat)) (a : Option Addr) (cap : Nat), c = .slice a ls.length cap ∧ RAt w a ls ∧ (a = none → cap = 0) ∧ ls.length ≤ cap ∧ ls.length + 1 ≤ Rows.uptoBulk x.1 ∧ (∀ l ∈ ls, l.length ≤ Rows.uptoBulk x.1) ∧ Caps w a ls ∧ cap ≤ maxLen := by
  rcases open_slice Try.underlying22 h with ⟨hcs, hx⟩ | ⟨a', len, cap, m, n, D, Pl, hcs, _, hl, hm, hmm, rfl, hel⟩
  · cases hcs
    exact ⟨[], none, 0, rfl, (fun i hi => by cases hi), fun _ => rfl, Nat.le_refl _, by rw [hx]; simp [Rows.uptoBulk], (fun l hl => by cases hl), (fun i hi => by cases hi), Nat.zero_le _⟩
  · cases hcs
    have hmc : m = cap := by simpa using hmm
    have each : ∀ i, i < len → ∃ l : List Nat, (∃ b off u, a' = ⟨b, off, none⟩ ∧ b < w.heap.size ∧ w.cell? ⟨b, off + i, none⟩ = some u ∧ Elem w u l ∧ ∀ x n c, u = .slice x n c → n ≤ c) ∧ l.length + 1 ≤ Rows.uptoBulk (D i) := by
      intro i hi
      obtain ⟨cs', h1, h2⟩ := hel i (by omega)
      rw [cells_sl] at h1
      obtain ⟨_, hlen, hcell⟩ := World.cells?_some h1
      match cs', hlen with
      | [u], _ =>
        obtain ⟨l, x, c, e1, e2, e3, e4, e5⟩ := bytes_read h2
        refine ⟨l, ?_, e5⟩
        have h00 := hcell 0 (by omega)
        simp only [Nat.mul_one, List.getElem?_cons_zero] at h00
        obtain ⟨b, off, spot⟩ := a'
        have hspot : spot = none := by
          obtain ⟨cs0, f1, f2⟩ := hel 0 (by omega)
          rw [cells_sl] at f1
          obtain ⟨_, flen, fcell⟩ := World.cells?_some f1
          match cs0, flen with
          | [u0], _ =>
            have f0 := fcell 0 (by omega)
            simp only [Nat.mul_one, List.getElem?_cons_zero] at f0
            have := World.cell?_spot (a := (Addr.add ⟨b, off, spot⟩ 0).add 0) (v := u0) f0
            simpa [Addr.add] using this
        subst hspot
        have add0 : ∀ x : Addr, x.add 0 = x := fun x => by simp [Addr.add]
        have hadd : (Addr.add ⟨b, off, none⟩ i).add 0 = ⟨b, off + i, none⟩ := by
          rw [add0]
          unfold Addr.add
          split
          · rename_i h0; subst h0; rfl
          · rfl
        rw [hadd] at h00
        exact ⟨b, off, u, rfl, lt_of_cell h00, h00, ⟨x, c, e1, e2, e3⟩, fun x' n' c' e => by rw [e1] at e; cases e; exact e4⟩
    have hch : ∃ q : Nat → List Nat, ∀ i, i < len → (∃ b off u, a' = ⟨b, off, none⟩ ∧ b < w.heap.size ∧ w.cell? ⟨b, off + i, none⟩ = some u ∧ Elem w u (q i) ∧ ∀ x n c, u = .slice x n c → n ≤ c) ∧ (q i).length + 1 ≤ Rows.uptoBulk (D i) := by
      refine ⟨fun i => if hi : i < len then (each i hi).choose else [], fun i hi => ?_⟩
      simp only [dif_pos hi]
      exact (each i hi).choose_spec
    obtain ⟨q, hq⟩ := hch
    have hbulk : ∀ i, i < len → Rows.uptoBulk (D i) ≤ Rows.uptoBulkAll ((List.range len).map D) := fun i hi => bulk_part (List.mem_map.2 ⟨i, List.mem_range.2 hi, rfl⟩)
    have hlb := bulk_len ((List.range len).map D)
    rw [List.length_map, List.length_range] at hlb
    refine ⟨(List.range len).map q, some a', cap, by simp, fun i hi => ?_, (fun h => by cases h), by simpa using hl, ?_, fun l hl => ?_, fun i hi => ?_, hm⟩
    · have hi' : i < len := by simpa using hi
      obtain ⟨⟨b, off, u, e, h1, h2, h3, _⟩, _⟩ := hq i hi'
      have e2 : ((List.range len).map q).getD i [] = q i := by simp [List.getD, hi']
      exact ⟨b, off, u, by rw [e], h1, h2, by rw [e2]; exact h3⟩
    · simp only [Rows.uptoBulk, List.length_map, List.length_range]; omega
    · obtain ⟨i, hi, rfl⟩ := List.mem_map.1 hl
      have := (hq i (List.mem_range.1 hi)).2
      have := hbulk i (List.mem_range.1 hi)
      simp only [Rows.uptoBulk]; omega
    · have hi' : i < len := by simpa using hi
      obtain ⟨⟨b, off, u, e, h1, h2, ⟨x, c, e1, e2, e3⟩, h4⟩, _⟩ := hq i hi'
      have e5 : ((List.range len).map q).getD i [] = q i := by simp [List.getD, hi']
      rw [e5]
      exact ⟨b, off, x, c, by rw [e], by rw [h2, e1], h4 _ _ _ e1⟩
end
end Go.Proofs.Ytfdpnfeaagijhaa
