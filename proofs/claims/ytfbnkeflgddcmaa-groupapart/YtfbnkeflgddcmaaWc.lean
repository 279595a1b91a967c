/-
  A writer of the call's own, and a reader of the call's own, each call told in one form. Conditions: what is laid together has at most 2^47 bytes.
-/
import Derived.Test.YtfbnkeflgddcmaaLaw3
namespace Go.Proofs.Ytfbnkeflgddcmaa
open Go.RowKit
set_option linter.unusedVariables false

/-- A reader that the call has made; nothing old has turned. -/
structure Rc (w0 w : World) (b : Nat) (a : Option Addr) (cap : Nat) (t : List Nat) (s : Rst) : Prop where
  rd : RdAt 87 w b a cap t s
  below : Below w0.heap.size w0 w
  hb : w0.heap.size ≤ b
theorem Rc.step {w0 w w' : World} {b : Nat} {a : Option Addr} {cap : Nat} {t : List Nat} {s s' : Rst} (h : Rc w0 w b a cap t s) (hr : RdAt 87 w' b a cap t s') (tc : Touch (· = b) w w') : Rc w0 w' b a cap t s' :=
  ⟨hr, below_touch h.below tc h.below.size (fun k hk => by rw [hk]; exact h.hb), h.hb⟩
theorem Rc.drewN {w0 w : World} {b : Nat} {a : Option Addr} {cap : Nat} {t : List Nat} {s : Rst} (h : Rc w0 w b a cap t s) (n : Nat) : Rc w0 (w.drewN n) b a cap t s := ⟨h.rd.drewN n, below_drewN' h.below n, h.hb⟩
theorem reader_c {w0 w : World} (hb : Below w0.heap.size w0 w) (a : Option Addr) (cap : Nat) (t : List Nat) (h : LAt w a t) (hn : a = none → cap = 0) (hl : t.length ≤ 140737488355328) :
    Calls Try.prog 36 #[.slice a t.length cap] w fun e w' => ∃ b a' cap', e = .returned (.pointer (some ⟨b, 0, none⟩)) ∧ Rc w0 w' b a' cap' t ⟨0, 0⟩ ∧ Below w.heap.size w w' ∧ w.heap.size ≤ b ∧ ∀ x, a' = some x → w.heap.size ≤ x.block :=
  (newreader_any w a cap t h hn hl).mono fun _ _ ⟨b, a', cap', he, hr, hbl, hbb, ha⟩ => ⟨b, a', cap', he, ⟨hr, hb.trans (hbl.mono hb.size), Nat.le_trans hb.size hbb⟩, hbl, hbb, ha⟩
theorem ruint_c {w0 w : World} {b : Nat} {a : Option Addr} {cap : Nat} {t : List Nat} {s : Rst} (h : Rc w0 w b a cap t s) {n : Nat} {s' : Rst} (e : rU t s = (n, s')) :
    Calls Try.prog 44 #[.pointer (some ⟨b, 0, none⟩)] w fun x w' => x = .returned (.int .u64 (n : Nat)) ∧ Rc w0 w' b a cap t s' := by
  have := ruint_any w h.rd
  rw [e] at this
  exact this.mono fun _ _ ⟨he, hr, tc⟩ => ⟨he, h.step hr tc⟩
theorem rint_c {w0 w : World} {b : Nat} {a : Option Addr} {cap : Nat} {t : List Nat} {s : Rst} (h : Rc w0 w b a cap t s) {n : Int} {s' : Rst} (e : rI t s = (n, s')) :
    Calls Try.prog 37 #[.pointer (some ⟨b, 0, none⟩)] w fun x w' => x = .returned (.int .i64 n) ∧ Rc w0 w' b a cap t s' := by
  have := rint_any w h.rd
  rw [e] at this
  exact this.mono fun _ _ ⟨he, hr, tc⟩ => ⟨he, h.step hr tc⟩
theorem end_c {w0 w : World} {b : Nat} {a : Option Addr} {cap : Nat} {t : List Nat} {s : Rst} (h : Rc w0 w b a cap t s) {n : Nat} (e : rE t s = n) :
    Calls Try.prog 39 #[.pointer (some ⟨b, 0, none⟩)] w fun x w' => x = .returned (.int .i64 (n : Nat)) ∧ Rc w0 w' b a cap t s := by
  have := end_any w h.rd
  rw [e] at this
  exact this.mono fun _ _ ⟨he, k, hk⟩ => ⟨he, by rw [hk]; exact h.drewN k⟩
end Go.Proofs.Ytfbnkeflgddcmaa
