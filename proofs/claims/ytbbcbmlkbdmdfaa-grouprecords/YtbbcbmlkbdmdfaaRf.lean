/-
  penstockref03.Reader's calls are the same plain functions on lists. Conditions: the bytes are at most 2^47.
-/
import Derived.Test.YtbbcbmlkbdmdfaaRd3
namespace Go.Proofs.Ytbbcbmlkbdmdfaa
open Go.RowKit
set_option linter.unusedVariables false

section
variable {a : Option Addr} {cap b : Nat} {t : List Nat} {s : Rst}

theorem fail_any (w : World) (e : Nat) (he7 : e ≤ 7) (h : RdAt 45 w b a cap t s) (he : s.er = 0) :
    Calls Try.prog 34 #[.pointer (some ⟨b, 0, none⟩), .int .i64 (e : Nat)] w fun x w' => x = .returned (.tuple #[]) ∧ RdAt 45 w' b a cap t ⟨s.pl, e⟩ ∧ Touch (· = b) w w' := by
  have c2 := h.c2
  rw [he] at c2
  have z2 := h.fz 2
  have F := hide (And.intro (h.setEr he7) (touch_set w b 2 (.int .i64 ((e : Nat) : Int))))
  clear h
  go_enter Try.func34, Try.ntmps34
  go_wp2
  go_returns
  exact ⟨rfl, unhide F⟩

theorem add_step {acc x k : Nat} (hk : k ≤ 9) (hacc : acc < 128 ^ k) (h9 : k = 9 → x ≤ 1) : IntKind.u64.wrap ((acc : Int) + IntKind.u64.wrap ((x : Int) % 128 * 2 ^ (7 * k))) = ((acc + x % 128 * 128 ^ k : Nat) : Int) := by
  have h := sum_fits (x := x) hk hacc h9
  rw [sh_wrap hk h9, IntKind.wrap_u64]
  omega

set_option maxRecDepth 100000 in
set_option maxHeartbeats 2000000 in
theorem fuint_any (w : World) (h : RdAt 45 w b a cap t s) :
    Calls Try.prog 33 #[.pointer (some ⟨b, 0, none⟩)] w fun e w' => e = .returned (.int .u64 ((rU t s).1 : Nat)) ∧ RdAt 45 w' b a cap t (rU t s).2 ∧ Touch (· = b) w w' := by
  by_cases he : s.er = 0
  · have c0 := h.c0
    have c1 := h.c1
    have c2 := h.c2
    have z1 := h.fz 1
    rw [he] at c2
    have hpl := h.pl
    have hlen := h.len
    have H := hide h
    have HX := hide h.text
    clear h
    go_enter Try.func33, Try.ntmps33
    go_wp2_with fail
    go_loopw [3, 4] (fun n i wr => ∃ k acc m : Nat, k ≤ 9 ∧ s.pl + k ≤ t.length ∧ i = .int .i64 k ∧ n = .int .u64 acc ∧ acc < 128 ^ k ∧ numA (t.drop s.pl) 0 0 = numA (t.drop (s.pl + k)) k acc ∧ wr = w.drewN m) (fun _ i _ => 10 - (intOf i).toNat)
    case atStart => exact ⟨0, 0, 0, by omega, by omega, rfl, rfl, by simp, rfl, rfl⟩
    case round =>
      obtain ⟨k, acc, m, hk, hkl, rfl, rfl, hacc, heq, rfl⟩ := hrel
      have HA := hide hacc
      clear hacc
      have hk10 : (k : Int) < 10 := by omega
      by_cases hc : s.pl + k < t.length
      · obtain ⟨cb, off, rfl, hcb, hcell, hx⟩ := (unhide HX).cell hc
        rw [drop_at hc] at heq
        generalize t.getD (s.pl + k) 0 = x at *
        obtain ⟨j, hj⟩ : ∃ j : Nat, s.pl + k = j := ⟨_, rfl⟩
        have hjj : (s.pl : Int) + (k : Int) = (j : Int) := by omega
        have hjl : (j : Int) < (t.length : Int) := by omega
        rw [hj] at hcell
        have HE := hide heq
        clear heq
        have hc' : ¬ (t.length : Int) ≤ (j : Int) := by omega
        go_wp2_with fail
        go_quiet (fail)
        go_wp2_with fail
        go_quiet (fail)
        by_cases hbad : (k = 9 ∧ 1 < x) ∨ (0 < k ∧ x = 0)
        · have ER : Hid (rU t s = (0, ⟨s.pl, 7⟩)) := by
            have := unhide HE
            rw [numA_bad _ _ hbad] at this
            have h2 := rU_err (t := t) (s := s) he (by rw [this]; simp)
            rw [this] at h2; exact h2
          have FF := hide (fun n => fail_any (w.drewN n) 7 (by omega) ((unhide H).drewN n) he)
          rcases hbad with ⟨rfl, hx1⟩ | ⟨hk0, rfl⟩
          · have hx1' : (1 : Int) < (x : Int) := by omega
            go_wp2_with fail
            refine (unhide FF _).mono ?_
            rintro e w2 ⟨rfl, h2, t2⟩
            have G := hide (And.intro h2 ((touch_drewN w _).trans t2))
            clear h2 t2 FF
            go_wp2
            go_returns
            rw [unhide ER]
            exact ⟨rfl, unhide G⟩
          · have hk0' : (0 : Int) < (k : Int) := by omega
            go_wp2_with fail
            all_goals
              refine (unhide FF _).mono ?_
              rintro e w2 ⟨rfl, h2, t2⟩
              have G := hide (And.intro h2 ((touch_drewN w _).trans t2))
              clear h2 t2 FF
              go_wp2
              go_returns
              rw [unhide ER]
              exact ⟨rfl, unhide G⟩
        · have h9 : k = 9 → x ≤ 1 := by omega
          have ho := add_step (x := x) hk (unhide HA) h9
          by_cases hx8 : x < 128
          · have hx8' : (x : Int) < 128 := by omega
            have em : x % 128 = x := by omega
            have em' : (x : Int) % 128 = x := by omega
            have ER : Hid (rU t s = (acc + x * 128 ^ k, ⟨s.pl + (k + 1), 0⟩)) := by
              have := unhide HE
              rw [numA_last _ _ hbad hx8] at this
              have h2 := rU_ok (t := t) (s := s) he (by rw [this])
              rw [this] at h2; exact h2
            have G : Hid (∀ n, RdAt 45 ((w.drewN n).setCell ⟨b, 1, none⟩ (.int .i64 ((s.pl + (k + 1) : Nat) : Int))) b (some ⟨cb, off, none⟩) cap t ⟨s.pl + (k + 1), 0⟩ ∧ Touch (· = b) w ((w.drewN n).setCell ⟨b, 1, none⟩ (.int .i64 ((s.pl + (k + 1) : Nat) : Int)))) := by
              intro n
              have h1 := ((unhide H).drewN n).setPl (p := s.pl + (k + 1)) (by omega)
              rw [he] at h1
              exact ⟨h1, (touch_drewN w n).trans (touch_set _ _ _ _)⟩
            have eg : ((s.pl + (k + 1) : Nat) : Int) = (j : Int) + 1 := by omega
            rw [eg] at G
            rw [em, em'] at ho
            have HF := hide (sum_fits (x := x) hk (unhide HA) h9)
            by_cases hk9 : k = 9
            · subst hk9
              have hx1 : ¬ (1 : Int) < (x : Int) := by omega
              have hx0' : ¬ (x : Int) = 0 := by omega
              have hjj9 : (s.pl : Int) + 9 = (j : Int) := by omega
              obtain ⟨y, hy⟩ : ∃ y : Nat, acc + x * 128 ^ 9 = y := ⟨_, rfl⟩
              rw [hy] at ER
              have hy2 : (acc : Int) + (x : Int) * 9223372036854775808 = (y : Int) := by
                rw [← hy, pow9]; omega
              have hy3 : y < 18446744073709551616 := by
                have := unhide HF
                rw [em, hy] at this; exact this
              have hy4 : IntKind.u64.wrap (y : Int) = (y : Int) := by rw [IntKind.wrap_u64]; omega
              clear ho hy HF HE HA
              go_wp2
              go_returns
              rw [unhide ER]
              exact ⟨rfl, unhide G _⟩
            · have hk9' : ¬ (k : Int) = 9 := by omega
              by_cases hx0 : x = 0
              · obtain rfl : k = 0 := by omega
                subst hx0
                have ha0 := unhide HA
                obtain rfl : acc = 0 := by simpa using ha0
                clear ha0 ho HE HA HF
                obtain rfl : j = s.pl := by omega
                go_wp2
                go_returns
                rw [unhide ER]
                exact ⟨rfl, unhide G _⟩
              · have hx0' : ¬ (x : Int) = 0 := by omega
                go_wp2
                all_goals
                  go_returns
                  rw [unhide ER]
                  exact ⟨rfl, unhide G _⟩
          · have hx8' : ¬ (x : Int) < 128 := by omega
            have hk9' : ¬ (k : Int) = 9 := by omega
            have hx0' : ¬ (x : Int) = 0 := by omega
            have HN := hide (next_lt (x := x) (unhide HA))
            have ER : Hid (numA (t.drop s.pl) 0 0 = numA (t.drop (s.pl + (k + 1))) (k + 1) (acc + x % 128 * 128 ^ k)) := by
              have := unhide HE; rw [numA_more _ _ hbad hx8] at this
              rw [show x - 128 = x % 128 by omega] at this; exact this
            go_wp2
            all_goals
              go_roundw
              case rel => exact ⟨k + 1, acc + x % 128 * 128 ^ k, _, by omega, by omega, by go_num, rfl, unhide HN, unhide ER, rfl⟩
              case measure => simp [intOf]; omega
      · have ER : Hid (rU t s = (0, ⟨s.pl, 6⟩)) := by
          rw [show t.drop (s.pl + k) = [] from List.drop_eq_nil_of_le (by omega)] at heq
          have h2 := rU_err (t := t) (s := s) he (by rw [heq]; simp [numA])
          rw [heq] at h2; exact h2
        have hc' : (t.length : Int) ≤ (s.pl : Int) + (k : Int) := by omega
        have FF := hide (fun n => fail_any (w.drewN n) 6 (by omega) ((unhide H).drewN n) he)
        clear heq
        go_wp2_with fail
        go_quiet (fail)
        go_wp2_with fail
        refine (unhide FF _).mono ?_
        rintro e w2 ⟨rfl, h2, t2⟩
        have G := hide (And.intro h2 ((touch_drewN w _).trans t2))
        clear h2 t2 FF
        go_wp2
        go_returns
        rw [unhide ER]
        exact ⟨rfl, unhide G⟩
  · have c2 := h.c2
    have H := hide h
    clear h
    rw [rU_stop he]
    generalize s.er = z at *
    have he' : ¬ ((z : Nat) : Int) = 0 := by omega
    go_enter Try.func33, Try.ntmps33
    go_wp2
    go_returns
    exact ⟨rfl, unhide H, Touch.refl _ _⟩
end
end Go.Proofs.Ytbbcbmlkbdmdfaa
