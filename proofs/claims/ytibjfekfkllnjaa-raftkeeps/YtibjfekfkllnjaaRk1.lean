/-
  raft's New that is refused; a node that has just begun, asked. Conditions: what is kept is handed in whole; a log of at most 2^42 - 128 entries.
-/
import Derived.Test.YtibjfekfkllnjaaRtf
import Derived.Test.YtibjfekfkllnjaaRtg
import Derived.Test.YtibjfekfkllnjaaRth
import Derived.Test.YtibjfekfkllnjaaRtj
import Derived.Test.YtibjfekfkllnjaaRk0
namespace Go.Proofs.Ytibjfekfkllnjaa
open Go.RowKit Go.Maps
set_option linter.unusedVariables false

/-- Where New refuses: the first that is wrong. -/
def Bad12 (i n T vo base : Int) : Prop :=
  n < 1 ∨ (¬ n < 1 ∧ 5 < n) ∨ (¬ n < 1 ∧ ¬ 5 < n ∧ i < 0) ∨ (¬ n < 1 ∧ ¬ 5 < n ∧ ¬ i < 0 ∧ n ≤ i) ∨ (¬ n < 1 ∧ ¬ 5 < n ∧ ¬ i < 0 ∧ ¬ n ≤ i ∧ T < 0) ∨ (¬ n < 1 ∧ ¬ 5 < n ∧ ¬ i < 0 ∧ ¬ n ≤ i ∧ ¬ T < 0 ∧ base < 0) ∨ (¬ n < 1 ∧ ¬ 5 < n ∧ ¬ i < 0 ∧ ¬ n ≤ i ∧ ¬ T < 0 ∧ ¬ base < 0 ∧ vo < -1) ∨ (¬ n < 1 ∧ ¬ 5 < n ∧ ¬ i < 0 ∧ ¬ n ≤ i ∧ ¬ T < 0 ∧ ¬ base < 0 ∧ ¬ vo < -1 ∧ n ≤ vo)
theorem bad12_or (i n T vo base : Int) : Bad12 i n T vo base ∨ (¬ n < 1 ∧ ¬ 5 < n ∧ ¬ i < 0 ∧ ¬ n ≤ i ∧ ¬ T < 0 ∧ ¬ base < 0 ∧ ¬ vo < -1 ∧ ¬ n ≤ vo) := by
  by_cases h1 : n < 1
  · exact .inl (.inl h1)
  by_cases h2 : 5 < n
  · exact .inl (.inr (.inl ⟨h1, h2⟩))
  by_cases h3 : i < 0
  · exact .inl (.inr (.inr (.inl ⟨h1, h2, h3⟩)))
  by_cases h4 : n ≤ i
  · exact .inl (.inr (.inr (.inr (.inl ⟨h1, h2, h3, h4⟩))))
  by_cases h5 : T < 0
  · exact .inl (.inr (.inr (.inr (.inr (.inl ⟨h1, h2, h3, h4, h5⟩)))))
  by_cases h6 : base < 0
  · exact .inl (.inr (.inr (.inr (.inr (.inr (.inl ⟨h1, h2, h3, h4, h5, h6⟩))))))
  by_cases h7 : vo < -1
  · exact .inl (.inr (.inr (.inr (.inr (.inr (.inr (.inl ⟨h1, h2, h3, h4, h5, h6, h7⟩)))))))
  by_cases h8 : n ≤ vo
  · exact .inl (.inr (.inr (.inr (.inr (.inr (.inr (.inr (⟨h1, h2, h3, h4, h5, h6, h7, h8⟩))))))))
  exact .inr ⟨h1, h2, h3, h4, h5, h6, h7, h8⟩
set_option maxRecDepth 100000 in
set_option maxHeartbeats 2000000 in
theorem new_bad {w : World} {i n T vo base bt : Int} {u v : Value} (hu : ∃ a l c, u = .slice a l c) (hv : ∃ a l c, v = .slice a l c) (h : Bad12 i n T vo base) :
    Calls Try.prog 16 #[.int .i64 i, .int .i64 n, .agg #[.int .i64 T, .int .i64 vo, .int .i64 base, .int .i64 bt, u, v]] w fun e w' => e = .returned (.tuple #[.pointer none, .int .i64 1]) ∧ Below w.heap.size w w' := by
  obtain ⟨ua, ul, uc, rfl⟩ := hu
  obtain ⟨va, vl, vc, rfl⟩ := hv
  have hA : Hid (Below w.heap.size w (w.alloc (.cells #[.int .i64 T, .int .i64 vo, .int .i64 base, .int .i64 bt, .slice ua ul uc, .slice va vl vc] 52))) := (Below.refl _ _).alloc (Nat.le_refl _) _
  rcases h with h1 | ⟨h1, h2⟩ | ⟨h1, h2, h3⟩ | ⟨h1, h2, h3, h4⟩ | ⟨h1, h2, h3, h4, h5⟩ | ⟨h1, h2, h3, h4, h5, h6⟩ | ⟨h1, h2, h3, h4, h5, h6, h7⟩ | ⟨h1, h2, h3, h4, h5, h6, h7, h8⟩
  all_goals
    go_enter Try.func16, Try.ntmps16
    go_wp2
    go_returns
    exact ⟨rfl, unhide hA⟩
set_option maxRecDepth 100000 in
theorem behind_zero {w : World} {rb k cap : Nat} {base : Int} {a : Option Addr} (h4 : w.cell? ⟨rb, 4, none⟩ = some (.int .i64 base)) (h7 : w.cell? ⟨rb, 7, none⟩ = some (.slice a k cap)) (hc : k ≤ cap) (hn : a = none → cap = 0) :
    Calls Try.prog 44 #[.pointer (some ⟨rb, 0, none⟩), .int .i64 base, .int .i64 0] w fun e w' => e = .returned (.slice a 0 cap) ∧ ∃ n, w' = w.drewN n := by
  have hw : IntKind.i64.wrap (base - base) = 0 := by rw [Int.sub_self]; rfl
  have hw2 : wrap64 (base - base) = 0 := by rw [wrap64_i64]; exact hw
  have hm : min 0 k = 0 := by omega
  cases a with
  | none =>
    obtain rfl := hn rfl
    obtain rfl : k = 0 := by omega
    go_enter Try.func44, Try.ntmps44
    go_wp2_with fail
    go_quiet (fail)
    go_wp2
    go_returns
    exact ⟨rfl, _, rfl⟩
  | some x =>
    obtain ⟨b, off, spot⟩ := x
    go_enter Try.func44, Try.ntmps44
    go_wp2_with fail
    go_quiet (fail)
    go_wp2
    all_goals go_returns
    all_goals exact ⟨rfl, _, rfl⟩
end Go.Proofs.Ytibjfekfkllnjaa
