/-
  penstocklaw05's many: so many bytes. No conditions.
-/
import Derived.Test.YtcnmenfianeakabDk4
namespace Go.Proofs.Ytcnmenfianeakab
open Go.RowKit
set_option linter.unusedVariables false

def manyN (n : Int) : Nat := if n ≤ 4194305 then n.toNat else 4194305
def manyL (k : Nat) : List Nat := (List.range k).map (fun i => i % 256)
theorem manyL_len (k : Nat) : (manyL k).length = k := by simp [manyL]
theorem manyL_succ (k : Nat) : manyL (k + 1) = manyL k ++ [k % 256] := by simp [manyL, List.range_succ]

set_option maxRecDepth 100000 in
theorem many_any (n : Int) (w : World) (hlo : -9223372036854775808 ≤ n) (hhi : n ≤ 9223372036854775807) :
    Calls Try.prog 18 #[.int .i64 n] w fun e w' => ∃ v, e = .returned v ∧ Fresh5 w w' v (manyL (manyN n)) := by
  have hmn : manyN n ≤ 4194305 := by unfold manyN; split <;> omega
  go_enter Try.func18, Try.ntmps18
  go_wp2_with fail
  go_loopw [3, 4] (fun pv ix wr => ∃ (v1 : Value) (k : Nat), v1 = pv ∧ ix = .int .i64 k ∧ k ≤ manyN n ∧ Fresh5 w wr v1 (manyL k)) (fun _ ix _ => 4194306 - (intOf ix).toNat)
  case atStart => exact ⟨_, 0, rfl, rfl, Nat.zero_le _, Row.nil _, New.nil _, Below.refl _ _⟩
  case round =>
    obtain ⟨v1, k, rfl, rfl, hk, fr⟩ := hrel
    have FR := hide fr
    clear fr
    by_cases hkc : k < manyN n
    · have h1 : (k : Int) < n := by unfold manyN at hkc; split at hkc <;> omega
      have h2 : (k : Int) ≤ 4194304 := by omega
      have hw : IntKind.u8.wrap (k : Int) = ((k % 256 : Nat) : Int) := by simp [IntKind.wrap, IntKind.bits, IntKind.signed]
      have hw2 : (k : Int) % 256 = ((k % 256 : Nat) : Int) := by simp
      have hA : Below wr.heap.size wr (wr.alloc (.cells #[.int .u8 ((k : Int) % 256)] 5)) := (Below.refl _ _).alloc (Nat.le_refl _) _
      have RA := hide ((unhide FR).1.later hA)
      have LA := hide (LAt.lit wr [k % 256] (by intro x hx; rw [List.mem_singleton] at hx; omega) #[.int .u8 ((k : Int) % 256)] (by simp [vals]))
      have hl : (manyL k).length + 1 ≤ 140737488355328 := by rw [manyL_len]; omega
      have HA := hide hA
      have EM := hide (manyL_succ k)
      clear hA hw2
      generalize hm : manyL k = M at *
      clear hm
      obtain ⟨a1, n1, c1, rfl⟩ := (unhide FR).1.shape
      go_wp2_with (at_builtin; refine wpList_row _ rfl (.tmp 14) (.tmp 17) rfl _ M rfl (unhide RA) (some ⟨wr.heap.size, 0, none⟩) 1 [k % 256] rfl (unhide LA) (fun h => by cases h) hl ?_)
      intro v2 w2 r2 t2 m2
      have F : Hid (Fresh5 w w2 v2 (manyL (k + 1))) := by
        have h4 : Below w.heap.size w (wr.alloc (.cells #[.int .u8 ((k : Int) % 256)] 5)) := (unhide FR).2.2.trans ((unhide HA).mono (unhide FR).2.2.size)
        refine ⟨by rw [unhide EM]; exact r2, (unhide FR).2.1.moved m2 h4.size, below_touch h4 t2 h4.size (fun k hk => (unhide FR).2.1 k hk)⟩
      obtain ⟨a2, n2, c2, rfl⟩ := r2.shape
      clear r2 t2 m2 RA LA HA FR
      go_wp2
      go_roundw
      case rel => exact ⟨_, k + 1, rfl, by go_num, by omega, unhide F⟩
      case measure => simp [intOf]; omega
    · obtain rfl : k = manyN n := by omega
      obtain ⟨a1, n1, c1, rfl⟩ := (unhide FR).1.shape
      by_cases h1 : (manyN n : Int) < n
      · have h2 : ¬ (manyN n : Int) ≤ 4194304 := by unfold manyN at h1 ⊢; split at h1 <;> split <;> omega
        go_wp2
        go_returns
        exact ⟨_, rfl, unhide FR⟩
      · go_wp2
        go_returns
        exact ⟨_, rfl, unhide FR⟩
end Go.Proofs.Ytcnmenfianeakab
