/-
  SameInts of any two lists of ints. Conditions: the lists as they lie.
-/
import Derived.Test.YtfbnkeflgddcmaaIl0
import Derived.Deep.LoopGhost
namespace Go.Proofs.Ytfbnkeflgddcmaa
open Go.RowKit Go.Maps
set_option linter.unusedVariables false

theorem take_snoc {l : List Int} {k : Nat} (h : k < l.length) : l.take (k + 1) = l.take k ++ [l.getD k 0] := by
  rw [List.take_succ_eq_append_getElem h]
  simp [List.getD, h]
theorem take_eq_snoc {l r : List Int} {k : Nat} (hl : k < l.length) (hr : k < r.length) (h : l.take k = r.take k) (e : l.getD k 0 = r.getD k 0) : l.take (k + 1) = r.take (k + 1) := by
  rw [take_snoc hl, take_snoc hr, h, e]
set_option maxHeartbeats 1000000 in
theorem samei_any (w : World) (a c : Option Addr) (ca cc : Nat) (l r : List Int) (ha : IAt w a l) (hc : IAt w c r) (hl : l.length ≤ maxLen) (hr : r.length ≤ maxLen) :
    Calls Try.prog 13 #[.slice a l.length ca, .slice c r.length cc] w fun e w' => e = .returned (.bool (decide (l = r))) ∧ ∃ n, w' = w.drewN n := by
  have HA := hide ha
  have HC := hide hc
  unfold maxLen at hl hr
  by_cases hlen : l.length = r.length
  · have HLR := hide hlen
    rw [← hlen]
    have hb : l.length ≤ 9223372036854775807 := by omega
    clear ha hc hl hr hlen
    generalize hn : l.length = n at *
    have HN := hide hn
    clear hn
    go_enter Try.func13, Try.ntmps13
    go_wp2_with fail
    go_loopg [5] n (fun gg s5 wr => ∃ k m : Nat, k ≤ n ∧ n - k ≤ gg ∧ s5 = .int .i64 k ∧ wr = w.drewN m ∧ Hid (l.take k = r.take k))
    case atStart => exact ⟨0, 0, Nat.zero_le _, by omega, rfl, rfl, hide rfl⟩
    case round =>
      obtain ⟨k, m, hk, hg, rfl, rfl, TK⟩ := hrel
      by_cases h8 : k < n
      · have k1 : k < l.length := by rw [unhide HN]; exact h8
        have k2 : k < r.length := by rw [← unhide HLR]; exact h8
        obtain ⟨b1, o1, rfl, _, e1⟩ := (unhide HA) k k1
        obtain ⟨b2, o2, rfl, _, e2⟩ := (unhide HC) k k2
        have h8' : (k : Int) < (n : Int) := by omega
        have NX := hide (fun e => take_eq_snoc k1 k2 (unhide TK) e)
        have NO : Hid (l.getD k 0 ≠ r.getD k 0 → ¬ l = r) := hide (fun h e => h (by rw [e]))
        clear k1 k2 TK
        generalize l.getD k 0 = x at *
        generalize r.getD k 0 = y at *
        by_cases hxy : x = y
        · subst hxy
          have NX2 := hide (unhide NX rfl)
          clear NX NO
          go_wp2_with fail
          go_quiet (fail)
          go_wp2
          go_roundg (n - (k + 1))
          case measure => omega
          case rel => exact ⟨k + 1, m + nq, by omega, by omega, by go_num, by simp, NX2⟩
        · have hx1 : (x != y) = true := by simpa using hxy
          have NE := hide (unhide NO hxy)
          clear hxy
          go_wp2_with fail
          go_quiet (fail)
          go_wp2
          go_returns
          exact ⟨by have h := unhide NE; simp [h], m + nq, by simp⟩
      · have e : k = n := by omega
        have h8' : ¬ (k : Int) < (n : Int) := by omega
        have EQ : Hid (l = r) := hide (by
          have := unhide TK
          rw [e] at this
          have h1 : l.take n = l := by rw [← unhide HN, List.take_length]
          have h2 : r.take n = r := by rw [unhide HLR, List.take_length]
          rw [h1, h2] at this
          exact this)
        clear e TK
        go_wp2
        go_returns
        exact ⟨by have h := unhide EQ; simp [h], m, rfl⟩
  · have hne : ¬ l = r := fun e => hlen (by rw [e])
    have NE := hide hne
    have h1 : ((l.length : Int) != (r.length : Int)) = true := by simpa using (fun e : (l.length : Int) = (r.length : Int) => hlen (by omega))
    have h2 : ¬ (l.length : Int) = (r.length : Int) := by omega
    clear ha hc hl hr hne hlen
    generalize l.length = n at *
    generalize r.length = p at *
    go_enter Try.func13, Try.ntmps13
    go_wp2
    go_returns
    exact ⟨by have h := unhide NE; simp [h], 0, rfl⟩
end Go.Proofs.Ytfbnkeflgddcmaa
