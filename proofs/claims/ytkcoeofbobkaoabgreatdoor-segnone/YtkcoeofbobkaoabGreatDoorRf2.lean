/-
  penstockref03.Reader's other calls. Conditions: the bytes are at most 2^47.
-/
import Derived.Test.YtkcoeofbobkaoabGreatDoorRd4
import Derived.Test.YtkcoeofbobkaoabGreatDoorRfe

/-
  penstockref03.Reader's calls are the same plain functions on lists. Conditions: the bytes are at most 2^47.
-/
namespace Go.Proofs.YtkcoeofbobkaoabGreatDoor
open Go.RowKit
set_option linter.unusedVariables false

section
variable {a : Option Addr} {cap b : Nat} {t : List Nat} {s : Rst}

theorem fail_any (w : World) (e : Nat) (he7 : e ≤ 7) (h : RdAt 68 w b a cap t s) (he : s.er = 0) :
    Calls Tryz.prog 65 #[.pointer (some ⟨b, 0, none⟩), .int .i64 (e : Nat)] w fun x w' => x = .returned (.tuple #[]) ∧ RdAt 68 w' b a cap t ⟨s.pl, e⟩ ∧ Touch (· = b) w w' := by
  have c2 := h.c2
  rw [he] at c2
  have z2 := h.fz 2
  have F := hide (And.intro (h.setEr he7) (touch_set w b 2 (.int .i64 ((e : Nat) : Int))))
  clear h
  go_enter Tryz.func65, Tryz.ntmps65
  go_wp2
  go_returns
  exact ⟨rfl, unhide F⟩

theorem add_step {acc x k : Nat} (hk : k ≤ 9) (hacc : acc < 128 ^ k) (h9 : k = 9 → x ≤ 1) : IntKind.u64.wrap ((acc : Int) + IntKind.u64.wrap ((x : Int) % 128 * 2 ^ (7 * k))) = ((acc + x % 128 * 128 ^ k : Nat) : Int) := by
  have h := sum_fits (x := x) hk hacc h9
  rw [sh_wrap hk h9, IntKind.wrap_u64]
  omega

end
end Go.Proofs.YtkcoeofbobkaoabGreatDoor


namespace Go.Proofs.YtkcoeofbobkaoabGreatDoor
open Go.RowKit
set_option linter.unusedVariables false


/-- The upper bytes of four. -/
def upf (t : List Nat) (p : Nat) : Nat → Nat
  | 0 => 0
  | j + 1 => 256 * upf t p j + t.getD (p + (3 - j)) 0
theorem upf_lt {t : List Nat} (h : ∀ x ∈ t, x < 256) {p : Nat} (hp : p + 4 ≤ t.length) (j : Nat) (hj : j ≤ 4) : upf t p j < 256 ^ j := by
  induction j with
  | zero => simp [upf]
  | succ j ih =>
    have h1 := ih (by omega)
    have h2 : t.getD (p + (3 - j)) 0 < 256 := h _ (getD_mem (by omega))
    rw [upf, Nat.pow_succ]
    omega
theorem upf_four (t : List Nat) (p : Nat) : upf t p 4 = unfix t p := by
  simp only [upf, unfix, Nat.sub_self, Nat.add_zero, show 3 - 1 = 2 from rfl, show 3 - 2 = 1 from rfl, show 3 - 0 = 3 from rfl]
  omega

section
variable {a : Option Addr} {cap b : Nat} {t : List Nat} {s : Rst}


set_option maxRecDepth 100000 in
set_option maxHeartbeats 1000000 in
theorem ffixed_any (w : World) (h : RdAt 68 w b a cap t s) :
    Calls Tryz.prog 33 #[.pointer (some ⟨b, 0, none⟩)] w fun e w' => e = .returned (.int .u32 ((rX t s).1 : Nat)) ∧ RdAt 68 w' b a cap t (rX t s).2 ∧ Touch (· = b) w w' := by
  have c0 := h.c0
  have c1 := h.c1
  have c2 := h.c2
  have z1 := h.fz 1
  have hpl := h.pl
  have hlen := h.len
  by_cases he : s.er = 0
  · rw [he] at c2
    by_cases hk : s.pl + 4 ≤ t.length
    · have hx : rX t s = (unfix t s.pl, ⟨s.pl + 4, 0⟩) := by unfold rX; rw [if_pos he, if_pos hk]
      rw [hx]
      have hy := hide h.text.bytes
      have HX := hide h.text
      have G : Hid (∀ n, RdAt 68 ((w.drewN n).setCell ⟨b, 1, none⟩ (.int .i64 ((s.pl + 4 : Nat) : Int))) b a cap t ⟨s.pl + 4, 0⟩ ∧ Touch (· = b) w ((w.drewN n).setCell ⟨b, 1, none⟩ (.int .i64 ((s.pl + 4 : Nat) : Int)))) := by
        intro n
        have h1 := (h.drewN n).setPl (p := s.pl + 4) hk
        rw [he] at h1
        exact ⟨h1, (touch_drewN w n).trans (touch_set _ _ _ _)⟩
      clear h hx
      have hk' : ¬ (t.length : Int) < (s.pl : Int) + 4 := by omega
      go_enter Tryz.func33, Tryz.ntmps33
      go_wp2_with fail
      go_quiet (fail)
      go_wp2_with fail
      go_loopw [3, 4] (fun n i wr => ∃ j m : Nat, j ≤ 4 ∧ i = .int .i64 (3 - (j : Int)) ∧ n = .int .u32 (upf t s.pl j : Nat) ∧ wr = w.drewN m) (fun _ i _ => (intOf i + 1).toNat)
      case atStart => exact ⟨0, _, by omega, by simp, rfl, rfl⟩
      case round =>
        obtain ⟨j, m, hj, rfl, rfl, rfl⟩ := hrel
        by_cases hc : j < 4
        · obtain ⟨q, hq⟩ : ∃ q : Nat, (3 : Int) - (j : Int) = (q : Int) := ⟨3 - j, by omega⟩
          obtain ⟨p, hp⟩ : ∃ p : Nat, s.pl + q = p := ⟨_, rfl⟩
          have hpp : (s.pl : Int) + (q : Int) = (p : Int) := by omega
          have hpl2 : (p : Int) < (t.length : Int) := by omega
          have EU : Hid (upf t s.pl (j + 1) = 256 * upf t s.pl j + t.getD p 0) := by
            show 256 * upf t s.pl j + t.getD (s.pl + (3 - j)) 0 = _
            rw [show s.pl + (3 - j) = p by omega]
          obtain ⟨cb, off, rfl, hcb, hcell, hx⟩ := (unhide HX).cell (i := p) (by omega)
          have hu := upf_lt (unhide hy) hk j (by omega)
          have hu3 : upf t s.pl j < 16777216 := Nat.lt_of_lt_of_le hu (by
            have : 256 ^ j ≤ 256 ^ 3 := Nat.pow_le_pow_right (by omega) (by omega)
            simpa using this)
          clear hu
          generalize t.getD p 0 = x at *
          generalize upf t s.pl j = y at *
          rw [hq]
          go_wp2_with fail
          go_quiet (fail)
          go_wp2
          go_roundw
          case rel => exact ⟨j + 1, m + nq, by omega, by go_num, by rw [unhide EU]; simp, by simp⟩
          case measure => simp [intOf] <;> omega
        · obtain rfl : j = 4 := by omega
          have EU := hide (upf_four t s.pl)
          generalize upf t s.pl 4 = y at *
          go_wp2
          go_returns
          exact ⟨by rw [← unhide EU]; rfl, unhide G _⟩
    · have hx : rX t s = (0, ⟨s.pl, 6⟩) := by unfold rX; rw [if_pos he, if_neg hk]
      rw [hx]
      have FF := hide (fun n => fail_any (w.drewN n) 6 (by omega) (h.drewN n) he)
      clear h hx
      have hk' : (t.length : Int) < (s.pl : Int) + 4 := by omega
      go_enter Tryz.func33, Tryz.ntmps33
      go_wp2_with fail
      go_quiet (fail)
      go_wp2_with fail
      refine (unhide FF _).mono ?_
      rintro e w2 ⟨rfl, h2, t2⟩
      have G := hide (And.intro h2 ((touch_drewN w _).trans t2))
      clear h2 t2 FF
      go_wp2
      go_returns
      exact ⟨rfl, unhide G⟩
  · rw [rX_stop he]
    have H := hide h
    clear h
    generalize s.er = z at *
    have he' : ¬ ((z : Nat) : Int) = 0 := by omega
    go_enter Tryz.func33, Tryz.ntmps33
    go_wp2
    go_returns
    exact ⟨rfl, unhide H, Touch.refl _ _⟩

end
end Go.Proofs.YtkcoeofbobkaoabGreatDoor
