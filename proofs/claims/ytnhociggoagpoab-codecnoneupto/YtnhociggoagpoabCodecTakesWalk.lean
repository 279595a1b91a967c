/-
  CodecTakes walked: it answers true. Conditions: the bytes are at most 2^47.
-/
import Derived.Test.YtnhociggoagpoabTake3
import Derived.Test.YtnhociggoagpoabWc
namespace Go.Proofs.Ytnhociggoagpoab
open Go.RowKit
set_option linter.unusedVariables false

theorem RowOf.ints {w : World} {a : Option Addr} {len : Nat} {f : Nat → Int} (h : RowOf .i64 w a len f) : ∃ ls : List Int, ls.length = len ∧ IAt w a ls ∧ ∀ x ∈ ls, -9223372036854775808 ≤ x ∧ x < 9223372036854775808 := by
  refine ⟨(List.range len).map f, by simp, fun i hi => ?_, fun x hx => ?_⟩
  · have hi' : i < len := by simpa using hi
    obtain ⟨b, off, h1, h2, h3, _⟩ := h i hi'
    refine ⟨b, off, h1, h2, ?_⟩
    have e : ((List.range len).map f).getD i 0 = f i := by simp [List.getD, hi']
    rw [e]; exact h3
  · obtain ⟨i, hi, rfl⟩ := List.mem_map.1 hx
    obtain ⟨b, off, _, _, _, h4⟩ := h i (List.mem_range.1 hi)
    have := bounds_i64 h4
    omega

/-- append([]byte{}, b...): a new row, alike. -/
theorem fresh_copy {w w' : World} {v : Value} {l : List Nat} (r : Row w' v l) (t : Touch (fun k => (Value.slice (some ⟨w.heap.size, 0, none⟩) 0 0).ownBlock = some k) (w.alloc (.cells #[] 5)) w') (m : Moved (w.alloc (.cells #[] 5)) (.slice (some ⟨w.heap.size, 0, none⟩) 0 0) v) : Row w' v l ∧ New w v ∧ Below w.heap.size w w' := by
  refine ⟨r, fun k hk => ?_, ?_⟩
  · rcases m k hk with e | e
    · simp [Value.ownBlock] at e; omega
    · simp at e; omega
  · exact below_touch ((Below.refl _ w).alloc (Nat.le_refl _) _) t (by simp) (fun k hk => by simp [Value.ownBlock] at hk; omega)

theorem mem_lt {w : World} {a : Option Addr} {t : List Nat} (h : LAt w a t) (h0 : 0 < t.length) {x : Addr} (hx : a = some x) : x.block < w.heap.size := by
  obtain ⟨b, off, e1, e2, _⟩ := h.cell h0
  rw [hx] at e1; cases e1; exact e2

end Go.Proofs.Ytnhociggoagpoab
