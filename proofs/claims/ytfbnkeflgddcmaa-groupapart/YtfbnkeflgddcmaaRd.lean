/-
  codec.Reader's calls, by the plain functions on lists. Conditions: the bytes are at most 2^47.
-/
import Derived.Test.YtfbnkeflgddcmaaRd0
import Derived.Deep.RegionHeld3
import Derived.BigQuiet
namespace Go.Proofs.Ytfbnkeflgddcmaa
open Go.RowKit
set_option linter.unusedVariables false

/-- A reader's block (the program's, and the document's): its bytes, its place, its first error. -/
structure RdAt (T : TypeId) (w : World) (b : Nat) (a : Option Addr) (cap : Nat) (t : List Nat) (s : Rst) : Prop where
  heap : w.heap[b]? = some (.cells #[.slice a t.length cap, .int .i64 (s.pl : Nat), .int .i64 (s.er : Nat)] T)
  text : LAt w a t
  apart : 0 < t.length → ∀ x, a = some x → x.block ≠ b
  hcap : t.length ≤ cap
  nil : a = none → cap = 0
  pl : s.pl ≤ t.length
  er : s.er ≤ 7
  len : t.length ≤ 140737488355328

theorem RdAt.lt {T : TypeId} {w : World} {b : Nat} {a : Option Addr} {cap : Nat} {t : List Nat} {s : Rst} (h : RdAt T w b a cap t s) : b < w.heap.size := lt_of_heap h.heap
theorem RdAt.keep {T : TypeId} {w w' : World} {b : Nat} {a : Option Addr} {cap : Nat} {t : List Nat} {s : Rst} {S : Nat → Prop} (h : RdAt T w b a cap t s) (tc : Touch S w w') (hb : ¬ S b) (ha : 0 < t.length → ∀ x, a = some x → ¬ S x.block) : RdAt T w' b a cap t s :=
  ⟨tc.keep h.heap hb, h.text.keep tc ha, h.apart, h.hcap, h.nil, h.pl, h.er, h.len⟩
theorem RdAt.later {T : TypeId} {w w' : World} {b : Nat} {a : Option Addr} {cap : Nat} {t : List Nat} {s : Rst} (h : RdAt T w b a cap t s) (hb : Below w.heap.size w w') : RdAt T w' b a cap t s := h.keep (Touch.of_below (S := fun _ => False) hb) (fun h => h) (fun _ _ _ h => h)
theorem RdAt.drew {T : TypeId} {w : World} {b : Nat} {a : Option Addr} {cap : Nat} {t : List Nat} {s : Rst} (h : RdAt T w b a cap t s) : RdAt T w.drew b a cap t s := ⟨h.heap, h.text, h.apart, h.hcap, h.nil, h.pl, h.er, h.len⟩
theorem RdAt.drewN {T : TypeId} {w : World} {b : Nat} {a : Option Addr} {cap : Nat} {t : List Nat} {s : Rst} (h : RdAt T w b a cap t s) (n : Nat) : RdAt T (w.drewN n) b a cap t s := ⟨h.heap, h.text, h.apart, h.hcap, h.nil, h.pl, h.er, h.len⟩
theorem touch_drewN {S : Nat → Prop} (w : World) (n : Nat) : Touch S w (w.drewN n) := ⟨rfl, rfl, rfl, Nat.le_refl _, fun _ _ _ => rfl⟩
theorem RdAt.c0 {T : TypeId} {w : World} {b : Nat} {a : Option Addr} {cap : Nat} {t : List Nat} {s : Rst} (h : RdAt T w b a cap t s) : w.cell? ⟨b, 0, none⟩ = some (.slice a t.length cap) := by rw [cell_of h.heap]; rfl
theorem RdAt.c1 {T : TypeId} {w : World} {b : Nat} {a : Option Addr} {cap : Nat} {t : List Nat} {s : Rst} (h : RdAt T w b a cap t s) : w.cell? ⟨b, 1, none⟩ = some (.int .i64 (s.pl : Nat)) := by rw [cell_of h.heap]; rfl
theorem RdAt.c2 {T : TypeId} {w : World} {b : Nat} {a : Option Addr} {cap : Nat} {t : List Nat} {s : Rst} (h : RdAt T w b a cap t s) : w.cell? ⟨b, 2, none⟩ = some (.int .i64 (s.er : Nat)) := by rw [cell_of h.heap]; rfl
theorem RdAt.fz {T : TypeId} {w : World} {b : Nat} {a : Option Addr} {cap : Nat} {t : List Nat} {s : Rst} (h : RdAt T w b a cap t s) (i : Nat) : w.frozen? ⟨b, i, none⟩ = false := frozen_of h.heap i
theorem RdAt.setPl {T : TypeId} {w : World} {b : Nat} {a : Option Addr} {cap : Nat} {t : List Nat} {s : Rst} (h : RdAt T w b a cap t s) {p : Nat} (hp : p ≤ t.length) : RdAt T (w.setCell ⟨b, 1, none⟩ (.int .i64 (p : Nat))) b a cap t ⟨p, s.er⟩ :=
  ⟨by rw [heap_set h.heap]; rfl, h.text.keep (touch_set w b 1 _) h.apart, h.apart, h.hcap, h.nil, hp, h.er, h.len⟩
theorem RdAt.setEr {T : TypeId} {w : World} {b : Nat} {a : Option Addr} {cap : Nat} {t : List Nat} {s : Rst} (h : RdAt T w b a cap t s) {e : Nat} (he : e ≤ 7) : RdAt T (w.setCell ⟨b, 2, none⟩ (.int .i64 (e : Nat))) b a cap t ⟨s.pl, e⟩ :=
  ⟨by rw [heap_set h.heap]; rfl, h.text.keep (touch_set w b 2 _) h.apart, h.apart, h.hcap, h.nil, h.pl, he, h.len⟩

theorem stop_no {a : Option Addr} {cap b : Nat} {t : List Nat} {s : Rst} (w : World) (h : RdAt 87 w b a cap t s) (he : s.er = 0) :
    Calls Try.prog 46 #[.pointer (some ⟨b, 0, none⟩)] w fun e w' => e = .returned (.bool false) ∧ w' = w := by
  have c2 := h.c2
  rw [he] at c2
  clear h
  go_enter Try.func46, Try.ntmps46
  go_wp2
  go_returns
  exact ⟨rfl, rfl⟩
theorem stop_yes {a : Option Addr} {cap b : Nat} {t : List Nat} {s : Rst} (w : World) (h : RdAt 87 w b a cap t s) (he : s.er ≠ 0) :
    Calls Try.prog 46 #[.pointer (some ⟨b, 0, none⟩)] w fun e w' => e = .returned (.bool true) ∧ w' = w := by
  have c2 := h.c2
  clear h
  generalize s.er = z at *
  have hz : ((z : Int) == 0) = false := by simp; omega
  have hz' : ¬ ((z : Int) = 0) := by omega
  go_enter Try.func46, Try.ntmps46
  go_wp2
  go_returns
  exact ⟨by simp [he], rfl⟩

set_option maxRecDepth 100000 in
theorem ruint_any {a : Option Addr} {cap b : Nat} {t : List Nat} {s : Rst} (w : World) (h : RdAt 87 w b a cap t s) :
    Calls Try.prog 44 #[.pointer (some ⟨b, 0, none⟩)] w fun e w' => e = .returned (.int .u64 ((rU t s).1 : Nat)) ∧ RdAt 87 w' b a cap t (rU t s).2 ∧ Touch (· = b) w w' := by
  by_cases he : s.er = 0
  · have K := fun n => whole_any (cut a s.pl cap) (cap - s.pl) (t.drop s.pl) (w.drewN n) (h.text.drop h.hcap s.pl) (by rw [List.length_drop]; have := h.len; omega)
    have hsl : ∀ w : World, (Instr.slice 41 (.slice a t.length cap) (some (.int .i64 (s.pl : Int))) none none).run Try.prog w = .ok (.slice (cut a s.pl cap) (t.drop s.pl).length (cap - s.pl)) w := fun w => by
      rw [List.length_drop]; exact slice_l a t.length cap s.pl h.pl w
    have c0 := h.c0
    have c1 := h.c1
    have z1 := h.fz 1
    have z2 := h.fz 2
    have c2 := h.c2
    have S0 := hide (stop_no w h he)
    have hpl := h.pl
    have hlen := h.len
    have hok := rU_ok (t := t) (s := s) he
    have herr := rU_err (t := t) (s := s) he
    have hq := numA_ok (t.drop s.pl) 0 0 [] (by omega)
    have he7 := numA_err (t.drop s.pl) 0 0
    rw [List.length_drop] at hq
    have HR := hide h
    clear h
    generalize numA (t.drop s.pl) 0 0 = q at *
    obtain ⟨n, z, eo⟩ := q
    simp only at K hok herr hq he7
    generalize t.drop s.pl = d at *
    generalize cut a s.pl cap = ca at *
    generalize cap - s.pl = cc at *
    by_cases hn : eo = 0
    · subst hn
      have ER := hide (hok rfl)
      have hq' := hq rfl
      have hz10 := hq'.2.2.2
      have hzl := hq'.2.2.1
      have F : Hid (∀ n, RdAt 87 ((w.drewN n).setCell ⟨b, 1, none⟩ (.int .i64 ((s.pl + z : Nat) : Int))) b a cap t ⟨s.pl + z, 0⟩ ∧ Touch (· = b) w ((w.drewN n).setCell ⟨b, 1, none⟩ (.int .i64 ((s.pl + z : Nat) : Int)))) := by
        intro n
        have h1 := ((unhide HR).drewN n).setPl (p := s.pl + z) (by omega)
        rw [he] at h1
        exact ⟨h1, (touch_drewN w n).trans (touch_set _ _ _ _)⟩
      have KK := hide K
      clear K hok herr hq hq' HR he7
      go_enter Try.func44, Try.ntmps44
      go_wp2_with fail
      refine (unhide S0).mono ?_
      rintro e w' ⟨rfl, rfl⟩
      go_wp2_with fail
      go_quiet (first | (go_at_call 50; exact Calls.quiet_of_same (unhide KK _)))
      all_goals
        go_wp2
        go_returns
        rw [unhide ER]
        exact ⟨rfl, unhide F _⟩
    · have ER := hide (herr hn)
      have F : Hid (∀ n, RdAt 87 ((w.drewN n).setCell ⟨b, 2, none⟩ (.int .i64 ((eo : Nat) : Int))) b a cap t ⟨s.pl, eo⟩ ∧ Touch (· = b) w ((w.drewN n).setCell ⟨b, 2, none⟩ (.int .i64 ((eo : Nat) : Int)))) :=
        fun n => ⟨((unhide HR).drewN n).setEr he7, (touch_drewN w n).trans (touch_set _ _ _ _)⟩
      have hn' : ¬ ((eo : Int) = 0) := by omega
      have KK := hide K
      clear K hok herr hq HR he7
      go_enter Try.func44, Try.ntmps44
      go_wp2_with fail
      refine (unhide S0).mono ?_
      rintro e w' ⟨rfl, rfl⟩
      go_wp2_with fail
      go_quiet (first | (go_at_call 50; exact Calls.quiet_of_same (unhide KK _)))
      all_goals
        go_wp2
        go_returns
        rw [unhide ER]
        exact ⟨rfl, unhide F _⟩
  · have S0 := hide (stop_yes w h he)
    have H := hide h
    clear h
    rw [rU_stop he]
    go_enter Try.func44, Try.ntmps44
    go_wp2_with fail
    refine (unhide S0).mono ?_
    rintro e w' ⟨rfl, rfl⟩
    go_wp2
    go_returns
    exact ⟨rfl, unhide H, Touch.refl _ _⟩
end Go.Proofs.Ytfbnkeflgddcmaa
