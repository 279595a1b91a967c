/-
  WalBytes. Conditions: the payloads are at most 2^63 - 1.
-/
import Derived.Test.YtfdpnfeaagijhaaWt0

namespace Go.Proofs.Ytfdpnfeaagijhaa
open Go.RowKit
set_option linter.unusedVariables false

def isLong (ls : List (List Nat)) : Bool := ls.any (fun p => decide (4096 < p.length))
theorem isLong_no {ls : List (List Nat)} (h : isLong ls = false) : ∀ p ∈ ls, p.length ≤ 4096 := fun p hp => by
  unfold isLong at h
  rw [List.any_eq_false] at h
  have := h p hp
  simp at this
  exact this
theorem isLong_no' {ls : List (List Nat)} (h : ∀ p ∈ ls, p.length ≤ 4096) : isLong ls = false := by
  unfold isLong
  rw [List.any_eq_false]
  intro p hp
  have := h p hp
  simp; omega
theorem isLong_yes {ls : List (List Nat)} {k : Nat} (hk : k < ls.length) (h : 4096 < (ls.getD k []).length) : isLong ls = true := by
  unfold isLong
  rw [List.any_eq_true]
  exact ⟨_, getD_mem_l hk, by simpa using h⟩

set_option maxRecDepth 100000 in
theorem long_any (w : World) (a : Option Addr) (cap : Nat) (ls : List (List Nat)) (hp : RAt w a ls) (hl : ls.length ≤ 9223372036854775807) :
    Calls Try.prog 7 #[.slice a ls.length cap] w fun e w' => e = .returned (.bool (isLong ls)) ∧ w' = w := by
  have HP := hide hp
  clear hp
  go_enter Try.func7, Try.ntmps7
  go_wp2_with fail
  go_loopw [7] (fun pl wr => ∃ k : Nat, k ≤ ls.length ∧ pl = .int .i64 k ∧ (∀ i, i < k → (ls.getD i []).length ≤ 4096) ∧ wr = w) (fun pl _ => ls.length - (intOf pl).toNat)
  case atStart => exact ⟨0, Nat.zero_le _, rfl, (fun i hi => by omega), rfl⟩
  case round =>
    obtain ⟨k, hk, rfl, hall, rfl⟩ := hrel
    have HALL := hide hall
    clear hall
    by_cases hkc : k < ls.length
    · have hkc' : (k : Int) < (ls.length : Int) := by omega
      obtain ⟨b, off, x, c, rfl, _, hcell, lx, hnx⟩ := (unhide HP).cell hkc
      by_cases h4 : 4096 < (ls.getD k []).length
      · have h4' : (4096 : Int) < ((ls.getD k []).length : Int) := by omega
        have YES := hide (isLong_yes hkc h4)
        clear lx hnx
        generalize (ls.getD k []).length = L at *
        go_wp2
        go_returns
        rw [unhide YES]
        exact ⟨rfl, rfl⟩
      · have h4' : ¬ (4096 : Int) < ((ls.getD k []).length : Int) := by omega
        have HA2 : Hid (∀ i, i < k + 1 → (ls.getD i []).length ≤ 4096) := fun i hi => by
          by_cases e : i = k
          · rw [e]; omega
          · exact unhide HALL i (by omega)
        clear lx hnx
        generalize (ls.getD k []).length = L at *
        go_wp2
        go_roundw
        case rel => exact ⟨k + 1, by omega, by go_num, unhide HA2, trivial⟩
        case measure => simp [intOf]; omega
    · have hkc' : ¬ (k : Int) < (ls.length : Int) := by omega
      obtain rfl : k = ls.length := by omega
      have NO : Hid (isLong ls = false) := isLong_no' (fun p hp => by
        obtain ⟨i, hi, rfl⟩ := List.getElem_of_mem hp
        have := unhide HALL i hi
        simpa [List.getD, hi] using this)
      go_wp2
      go_returns
      rw [unhide NO]
      exact ⟨rfl, rfl⟩

theorem below_drew7 (w : World) (n : Nat) : Below w.heap.size w (w.drewN n) := ⟨rfl, rfl, rfl, Nat.le_refl _, fun _ _ => rfl⟩

/-- What the loop has behind k payloads. -/
structure Laid (w wr : World) (wb db : Nat) (S : Nat → Prop) (v : Value) (T : List Nat) (k : Nat) : Prop where
  z : Wz w wr wb db S (one nmW T 0) nmW (T.length : Nat) (k : Nat)
  row : Row wr v T
  new : New w v
  off : ∀ j, v.ownBlock = some j → ¬ S j ∧ j ≠ wb
theorem Wz.apart {w0 w w' : World} {wb db : Nat} {S T : Nat → Prop} {d : Dk} {s : ByteArray} {n c : Int} (h : Wz w0 w wb db S d s n c) (t : Touch T w w') (h1 : ¬ T wb) (h2 : ∀ k, S k → ¬ T k) (h3 : ∀ k, T k → w0.heap.size ≤ k) : Wz w0 w' wb db S d s n c :=
  ⟨⟨h.wl.ready.keep t h1, h.wl.disk.keep t h2, h.wl.ne⟩, h.base, h.wbase, below_touch h.below t h.below.size h3⟩

end Go.Proofs.Ytfdpnfeaagijhaa
