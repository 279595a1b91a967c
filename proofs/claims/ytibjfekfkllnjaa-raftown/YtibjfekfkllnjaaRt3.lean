/-
  raft's behind, allOwn, lookAtCommits and feedOthers. Conditions: the node is alone.
-/
import Derived.Test.YtibjfekfkllnjaaRt2
namespace Go.Proofs.Ytibjfekfkllnjaa
open Go.RowKit Go.Maps
set_option linter.unusedVariables false

theorem wrap64_i64 (n : Int) : wrap64 n = IntKind.i64.wrap n := by
  have e : IntKind.i64.wrap n = if n % 18446744073709551616 ≥ 9223372036854775808 then n % 18446744073709551616 - 18446744073709551616 else n % 18446744073709551616 := by
    simp [IntKind.wrap, IntKind.bits, IntKind.signed]
  rw [e]; unfold wrap64; split <;> omega
set_option maxRecDepth 100000 in
theorem behind_any {w : World} {rb g k cap d m : Nat} {base num : Int} (h4 : w.cell? ⟨rb, 4, none⟩ = some (.int .i64 base)) (h7 : w.cell? ⟨rb, 7, none⟩ = some (.slice (some ⟨g, 0, none⟩) k cap)) (hd : wrap64 (num - base) = (d : Int)) (hk : d < k) (hc : k ≤ cap) (hm : m ≤ k - d) (hx : cap ≤ maxLen) :
    Calls Try.prog 44 #[.pointer (some ⟨rb, 0, none⟩), .int .i64 num, .int .i64 (m : Int)] w fun e w' => e = .returned (.slice (some ⟨g, d * 2, none⟩) m (cap - d)) ∧ ∃ n, w' = w.drewN n := by
  go_enter Try.func44, Try.ntmps44
  go_wp2_with fail
  go_quiet (fail)
  go_wp2
  go_returns
  exact ⟨rfl, _, rfl⟩
set_option maxRecDepth 100000 in
theorem behind_all {w : World} {rb g k cap d m : Nat} {base num : Int} (h4 : w.cell? ⟨rb, 4, none⟩ = some (.int .i64 base)) (h7 : w.cell? ⟨rb, 7, none⟩ = some (.slice (some ⟨g, 0, none⟩) k cap)) (hd : wrap64 (num - base) = (d : Int)) (hk : d < k) (hc : k ≤ cap) (hm : k - d ≤ m) (hx : cap ≤ maxLen) :
    Calls Try.prog 44 #[.pointer (some ⟨rb, 0, none⟩), .int .i64 num, .int .i64 (m : Int)] w fun e w' => e = .returned (.slice (some ⟨g, d * 2, none⟩) (k - d) (cap - d)) ∧ ∃ n, w' = w.drewN n := by
  go_enter Try.func44, Try.ntmps44
  go_wp2_with fail
  go_quiet (fail)
  go_wp2
  · go_returns
    exact ⟨rfl, _, rfl⟩
  · have e : m = k - d := by omega
    subst e
    go_returns
    exact ⟨rfl, _, rfl⟩
  

set_option maxRecDepth 100000 in
set_option maxHeartbeats 1000000 in
theorem allOwn1 {w : World} {rb g K k cap n c : Nat} {T : Int} {a : Option Addr} (hK : K = k + 1) (h2 : w.cell? ⟨rb, 2, none⟩ = some (.int .i64 T)) (h4 : w.cell? ⟨rb, 4, none⟩ = some (.int .i64 0)) (h7 : w.cell? ⟨rb, 7, none⟩ = some (.slice (some ⟨g, 0, none⟩) K cap)) (hc : K ≤ cap) (hx : cap ≤ maxLen)
    (y0 : w.cell? ⟨g, k * 2, none⟩ = some (.int .i64 T)) (y1 : w.cell? ⟨g, k * 2 + 1, none⟩ = some (.slice a n c)) :
    Calls Try.prog 59 #[.pointer (some ⟨rb, 0, none⟩), .int .i64 (K : Int)] w fun e w' => e = .returned (.bool true) ∧ Below w.heap.size w w' := by
  have hrb := lt_of_cell h2
  have hg := lt_of_cell y0
  simp only at hrb hg
  have hwk : IntKind.i64.wrap ((K : Int) - 1) = (k : Int) := by unfold maxLen at hx; rw [show (K : Int) - 1 = k by omega]; exact wrap_low (by omega) (by omega)
  have hwk2 : wrap64 ((k : Int) - 0) = (k : Int) := by
    have := wrap_low (i := (k : Int)) (by omega) (by unfold maxLen at hx; omega)
    rw [Int.sub_zero, wrap64_i64]; exact this
  have BK : Hid (Calls Try.prog 44 #[.pointer (some ⟨rb, 0, none⟩), .int .i64 (k : Int), .int .i64 (K : Int)] w fun e w' => e = .returned (.slice (some ⟨g, k * 2, none⟩) (K - k) (cap - k)) ∧ ∃ n, w' = w.drewN n) := behind_all h4 h7 hwk2 (by omega) hc (by omega) hx
  rw [show K - k = 1 by omega] at BK
  clear hK
  go_enter Try.func59, Try.ntmps59
  go_wp2_with fail
  refine (unhide BK).mono ?_
  rintro e w1 ⟨rfl, nq, rfl⟩
  clear BK
  go_wp2_with fail
  go_loopw [18] (fun pl wr => ∃ j : Nat, j ≤ 1 ∧ pl = .int .i64 (j : Int) ∧ Below w.heap.size w wr) (fun pl _ => 1 - (intOf pl).toNat)
  case atStart => exact ⟨0, Nat.zero_le _, rfl, below_drewN3 (Below.refl _ _) _⟩
  case round =>
    obtain ⟨j, hj, rfl, br⟩ := hrel
    have BR := hide br
    have x0 := (br.cell (p := ⟨g, k * 2, none⟩) hg).trans y0
    have x1 := (br.cell (p := ⟨g, k * 2 + 1, none⟩) hg).trans y1
    have x2 := (br.cell (p := ⟨rb, 2, none⟩) hrb).trans h2
    clear br y0 y1 h2 h4 h7
    rcases Nat.lt_or_ge j 1 with hj1 | hj1
    · obtain rfl : j = 0 := by omega
      have hA : Hid (∀ X, Below w.heap.size w (wr.alloc X)) := fun X => (unhide BR).alloc (by have := (unhide BR).size; omega) X
      have xA : ∀ X, (wr.alloc X).cell? ⟨rb, 2, none⟩ = some (.int .i64 T) := fun X => (((Below.refl wr.heap.size wr).alloc (Nat.le_refl _) X).cell (p := ⟨rb, 2, none⟩) (lt_of_cell x2)).trans x2
      go_wp2_with fail
      go_quiet (fail)
      go_wp2
      go_roundw
      case rel => exact ⟨1, by omega, by go_num, below_drewN3 (unhide hA _) _⟩
      case measure => simp [intOf]
    · obtain rfl : j = 1 := by omega
      go_wp2
      go_returns
      exact ⟨rfl, unhide BR⟩

set_option maxRecDepth 100000 in
theorem feedOthers1 {w : World} {rb : Nat} (h0 : w.cell? ⟨rb, 0, none⟩ = some (.int .i64 0)) (h1 : w.cell? ⟨rb, 1, none⟩ = some (.int .i64 1)) : Calls Try.prog 27 #[.pointer (some ⟨rb, 0, none⟩)] w fun e w' => e = .returned (.tuple #[]) ∧ w' = w := by
  go_enter Try.func27, Try.ntmps27
  go_wp2_with fail
  go_loopw [7] (fun pl wr => ∃ j : Nat, j ≤ 1 ∧ pl = .int .i64 (j : Int) ∧ wr = w) (fun pl _ => 1 - (intOf pl).toNat)
  case atStart => exact ⟨0, Nat.zero_le _, rfl, rfl⟩
  case round =>
    obtain ⟨j, hj, rfl, rfl⟩ := hrel
    rcases Nat.lt_or_ge j 1 with hj1 | hj1
    · obtain rfl : j = 0 := by omega
      go_wp2
      go_roundw
      case rel => exact ⟨1, by omega, by go_num, by first | rfl | trivial⟩
      case measure => simp [intOf]
    · obtain rfl : j = 1 := by omega
      go_wp2
      go_returns
      exact ⟨rfl, rfl⟩
end Go.Proofs.Ytibjfekfkllnjaa
