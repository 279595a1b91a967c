/-
  penstockref03.Reader's calls are the same plain functions on lists. Conditions: the bytes are at most 2^47.
-/
import Derived.Test.YtcnmenfianeakabRd3
namespace Go.Proofs.Ytcnmenfianeakab
open Go.RowKit
set_option linter.unusedVariables false

section
variable {a : Option Addr} {cap b : Nat} {t : List Nat} {s : Rst}

theorem fail_any (w : World) (e : Nat) (he7 : e ≤ 7) (h : RdAt 123 w b a cap t s) (he : s.er = 0) :
    Calls Try.prog 77 #[.pointer (some ⟨b, 0, none⟩), .int .i64 (e : Nat)] w fun x w' => x = .returned (.tuple #[]) ∧ RdAt 123 w' b a cap t ⟨s.pl, e⟩ ∧ Touch (· = b) w w' := by
  have c2 := h.c2
  rw [he] at c2
  have z2 := h.fz 2
  have F := hide (And.intro (h.setEr he7) (touch_set w b 2 (.int .i64 ((e : Nat) : Int))))
  clear h
  go_enter Try.func77, Try.ntmps77
  go_wp2
  go_returns
  exact ⟨rfl, unhide F⟩

theorem add_step {acc x k : Nat} (hk : k ≤ 9) (hacc : acc < 128 ^ k) (h9 : k = 9 → x ≤ 1) : IntKind.u64.wrap ((acc : Int) + IntKind.u64.wrap ((x : Int) % 128 * 2 ^ (7 * k))) = ((acc + x % 128 * 128 ^ k : Nat) : Int) := by
  have h := sum_fits (x := x) hk hacc h9
  rw [sh_wrap hk h9, IntKind.wrap_u64]
  omega

end
end Go.Proofs.Ytcnmenfianeakab
