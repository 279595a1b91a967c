/-
  Has: is a number in a list? Conditions: the list as it lies.
-/
import Derived.Test.YthaedepnglincaaIg3
namespace Go.Proofs.Ythaedepnglincaa
open Go.RowKit Go.Maps
set_option linter.unusedVariables false

set_option maxHeartbeats 1000000 in
theorem has_any {w : World} {a : Option Addr} {l : List Int} {c : Nat} (x : Int) (hl : IAt w a l) (hm : l.length ≤ maxLen) :
    Calls Try.prog 11 #[.slice a l.length c, .int .i64 x] w fun e w' => e = .returned (.bool (l.contains x)) ∧ w' = w := by
  have HI := hide hl
  have HM := hide hm
  generalize hn : l.length = n
  have HN := hide hn
  clear hl hm hn
  go_enter Try.func11, Try.ntmps11
  go_wp2
  go_loopg [5] n (fun gg s5 wr => ∃ kk : Nat, kk ≤ n ∧ n - kk ≤ gg ∧ s5 = .int .i64 kk ∧ wr = w ∧ Hid ((l.take kk).contains x = false))
  case atStart => exact ⟨0, Nat.zero_le _, by omega, rfl, rfl, hide (by simp)⟩
  case round =>
    obtain ⟨kk, hkk, hg, rfl, rfl, A⟩ := hrel
    by_cases hlt : kk < n
    · have hltz : (kk : Int) < (n : Int) := by omega
      have hk' : kk < l.length := by rw [unhide HN]; exact hlt
      have hbig : n ≤ 9223372036854775807 := by have := unhide HM; rw [unhide HN] at this; unfold maxLen at this; omega
      obtain ⟨b, off, rfl, hb0, hcell⟩ := (unhide HI) kk hk'
      have HS := hide (take_snoc hk')
      have HE : Hid (l.getD kk 0 ∈ l) := hide (by rw [show l.getD kk 0 = l[kk] by simp [List.getD, hk']]; exact List.getElem_mem hk')
      clear hk' hb0
      generalize l.getD kk 0 = y at *
      by_cases hy : y = x
      · subst hy
        go_wp2
        go_ret
        exact ⟨by have := unhide HE; simp [this], rfl⟩
      · have hyb : (y == x) = false := by simpa using hy
        go_wp2
        go_roundg (n - (kk + 1))
        case measure => omega
        case rel =>
          refine ⟨kk + 1, by omega, by omega, by go_num, rfl, hide ?_⟩
          rw [unhide HS]
          have := unhide A
          simp only [List.contains_append, this, Bool.false_or]
          simpa using fun e => hy e.symm
    · have hltz : ¬ (kk : Int) < (n : Int) := by omega
      have e : kk = n := by omega
      have A' := unhide A
      rw [e, ← unhide HN, List.take_length] at A'
      have A2 := hide A'
      clear A'
      go_wp2
      go_ret
      exact ⟨by have h := unhide A2; simp at h; simp [h], rfl⟩
end Go.Proofs.Ythaedepnglincaa
