/-
  penstockref03.Reader's other calls. Conditions: the bytes are at most 2^47.
-/
import Derived.Test.YtbbcbmlkbdmdfaaRf
import Derived.Test.YtbbcbmlkbdmdfaaRd4
import Derived.Test.YtbbcbmlkbdmdfaaRfe
namespace Go.Proofs.Ytbbcbmlkbdmdfaa
open Go.RowKit
set_option linter.unusedVariables false

theorem zag_any (n : Nat) (w : World) (hn : n < 18446744073709551616) :
    Calls Try.prog 32 #[.int .u64 n] w fun e w' => e = .returned (.int .i64 (zag n)) ∧ w' = w := by
  rcases Nat.mod_two_eq_zero_or_one n with h | h
  · have h' : (n : Int) % 2 = 0 := by omega
    have e := zag_even h
    go_enter Try.func32, Try.ntmps32
    go_wp2
    go_returns
    refine ⟨?_, rfl⟩
    show Ending.returned (Value.int .i64 _) = _
    congr 2
    rw [e]; omega
  · have h' : (n : Int) % 2 = 1 := by omega
    have e := zag_odd h
    go_enter Try.func32, Try.ntmps32
    go_wp2
    go_returns
    refine ⟨?_, rfl⟩
    show Ending.returned (Value.int .i64 _) = _
    congr 2
    rw [e]; omega

/-- The upper bytes of four. -/
def upf (t : List Nat) (p : Nat) : Nat → Nat
  | 0 => 0
  | j + 1 => 256 * upf t p j + t.getD (p + (3 - j)) 0
theorem upf_lt {t : List Nat} (h : ∀ x ∈ t, x < 256) {p : Nat} (hp : p + 4 ≤ t.length) (j : Nat) (hj : j ≤ 4) : upf t p j < 256 ^ j := by
  induction j with
  | zero => simp [upf]
  | succ j ih =>
    have h1 := ih (by omega)
    have h2 : t.getD (p + (3 - j)) 0 < 256 := h _ (getD_mem (by omega))
    rw [upf, Nat.pow_succ]
    omega
theorem upf_four (t : List Nat) (p : Nat) : upf t p 4 = unfix t p := by
  simp only [upf, unfix, Nat.sub_self, Nat.add_zero, show 3 - 1 = 2 from rfl, show 3 - 2 = 1 from rfl, show 3 - 0 = 3 from rfl]
  omega

section
variable {a : Option Addr} {cap b : Nat} {t : List Nat} {s : Rst}

theorem fint_any (w : World) (h : RdAt 45 w b a cap t s) :
    Calls Try.prog 15 #[.pointer (some ⟨b, 0, none⟩)] w fun e w' => e = .returned (.int .i64 (rI t s).1) ∧ RdAt 45 w' b a cap t (rI t s).2 ∧ Touch (· = b) w w' := by
  have K := hide (fuint_any w h)
  have hf := rU_fits (t := t) (s := s) h.text.bytes
  clear h
  unfold rI
  generalize rU t s = q at *
  obtain ⟨n, q⟩ := q
  go_enter Try.func15, Try.ntmps15
  go_wp2_with fail
  refine (unhide K).mono ?_
  rintro e w' ⟨rfl, h1⟩
  have H1 := hide h1
  clear h1 K
  go_wp2_with fail
  refine (zag_any n w' hf).mono ?_
  rintro e w'' ⟨rfl, rfl⟩
  go_wp2
  go_returns
  exact ⟨rfl, unhide H1⟩

set_option maxRecDepth 100000 in
theorem fend_any (w : World) (h : RdAt 45 w b a cap t s) :
    Calls Try.prog 17 #[.pointer (some ⟨b, 0, none⟩)] w fun e w' => e = .returned (.int .i64 (rE t s : Nat)) ∧ ∃ n, w' = w.drewN n := by
  have c0 := h.c0
  have c1 := h.c1
  have c2 := h.c2
  clear h
  by_cases he : s.er = 0
  · rw [he] at c2
    by_cases hl : s.pl < t.length
    · have E : Hid (rE t s = 6) := by show _ = _; unfold rE; rw [if_pos ⟨he, hl⟩]
      have hl' : (s.pl : Int) < (t.length : Int) := by omega
      go_enter Try.func17, Try.ntmps17
      go_wp2_with fail
      go_quiet (fail)
      go_wp2
      go_returns
      exact ⟨by rw [unhide E]; rfl, _, rfl⟩
    · have E : Hid (rE t s = 0) := by show _ = _; unfold rE; rw [if_neg (by omega), he]
      have hl' : ¬ (s.pl : Int) < (t.length : Int) := by omega
      go_enter Try.func17, Try.ntmps17
      go_wp2_with fail
      go_quiet (fail)
      go_wp2
      go_returns
      exact ⟨by rw [unhide E]; rfl, _, rfl⟩
  · have E : Hid (rE t s = s.er) := by show _ = _; unfold rE; rw [if_neg (by omega)]
    generalize s.er = z at *
    have he' : ((z : Int) == 0) = false := by simp; omega
    go_enter Try.func17, Try.ntmps17
    go_wp2_with fail
    go_quiet (fail)
    go_wp2
    go_returns
    exact ⟨by rw [unhide E]; rfl, _, rfl⟩
end
end Go.Proofs.Ytbbcbmlkbdmdfaa
