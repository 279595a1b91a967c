/-
  codec.Reader's State and End, NewReader, what there isn't; and penstockref03's Same and SameInts of equal lists. Conditions: the bytes are at most 2^47.
-/
import Derived.Test.YtblmondkdcpkaaaZ03
import Derived.Deep.RegionHeld3
import Derived.BigQuiet

/-
  codec.whole: the whole number at the front of bytes. Conditions: the bytes are at most 2^47.
-/
namespace Go.Proofs.Ytblmondkdcpkaaa
open Go.RowKit
set_option linter.unusedVariables false

theorem pow7 (k : Nat) : 2 ^ (7 * k) = (128 : Nat) ^ k := by rw [Nat.pow_mul]
theorem sh_fits {x k : Nat} (hk : k ≤ 9) (h9 : k = 9 → x ≤ 1) : x % 128 * 128 ^ k < 18446744073709551616 := by
  by_cases h : k = 9
  · subst h; rw [pow9]; have := h9 rfl; omega
  · have h1 : x % 128 * 128 ^ k ≤ 127 * 128 ^ k := Nat.mul_le_mul_right _ (by omega)
    have h2 : (128 : Nat) ^ (k + 1) ≤ 128 ^ 9 := Nat.pow_le_pow_right (by omega) (by omega)
    rw [Nat.pow_succ, pow9] at h2
    omega
theorem sh_wrap {x k : Nat} (hk : k ≤ 9) (h9 : k = 9 → x ≤ 1) : IntKind.u64.wrap ((x : Int) % 128 * 2 ^ (7 * k)) = ((x % 128 * 128 ^ k : Nat) : Int) := by
  have h1 := sh_fits hk h9
  have e : ((x : Int) % 128 * 2 ^ (7 * k)) = ((x % 128 * 128 ^ k : Nat) : Int) := by
    rw [← pow7]; simp
  rw [e, IntKind.wrap_u64]
  omega
theorem sum_fits {acc x k : Nat} (hk : k ≤ 9) (hacc : acc < 128 ^ k) (h9 : k = 9 → x ≤ 1) : acc + x % 128 * 128 ^ k < 18446744073709551616 := by
  by_cases h : k = 9
  · subst h; rw [pow9] at *; have := h9 rfl; omega
  · have h1 : x % 128 * 128 ^ k ≤ 127 * 128 ^ k := Nat.mul_le_mul_right _ (by omega)
    have h2 : (128 : Nat) ^ (k + 1) ≤ 128 ^ 9 := Nat.pow_le_pow_right (by omega) (by omega)
    rw [Nat.pow_succ, pow9] at h2
    omega
theorem or_step {acc x k : Nat} (hk : k ≤ 9) (hacc : acc < 128 ^ k) (h9 : k = 9 → x ≤ 1) : bits BinOp.or IntKind.u64 (acc : Int) (IntKind.u64.wrap ((x : Int) % 128 * 2 ^ (7 * k))) = ((acc + x % 128 * 128 ^ k : Nat) : Int) := by
  rw [sh_wrap hk h9, u64_or_nat acc _ (by have := sum_fits hk hacc h9; omega) (sh_fits hk h9)]
  congr 1
  have := nat_join (7 * k) (x % 128 * 128 ^ k) acc (by rw [pow7]; exact Nat.mul_mod_left _ _) (by rw [pow7]; exact hacc)
  rw [Nat.or_comm, this, Nat.add_comm]
theorem next_lt {acc x k : Nat} (hacc : acc < 128 ^ k) : acc + x % 128 * 128 ^ k < 128 ^ (k + 1) := by
  have h1 : x % 128 * 128 ^ k ≤ 127 * 128 ^ k := Nat.mul_le_mul_right _ (by omega)
  rw [Nat.pow_succ]; omega
theorem drop_at {t : List Nat} {k : Nat} (h : k < t.length) : t.drop k = t.getD k 0 :: t.drop (k + 1) := by
  rw [List.drop_eq_getElem_cons h]
  simp [List.getD, h]
theorem getD_mem {t : List Nat} {k : Nat} (h : k < t.length) : t.getD k 0 ∈ t := by simp [List.getD, h]

set_option maxRecDepth 100000 in
set_option maxHeartbeats 1000000 in
theorem whole_any (a : Option Addr) (cap : Nat) (t : List Nat) (w : World) (h : LAt w a t) (hl : t.length ≤ 140737488355328) :
    Calls Try.prog 91 #[.slice a t.length cap] w fun e w' => e = .returned (.tuple #[.int .u64 ((numA t 0 0).1 : Nat), .int .i64 ((numA t 0 0).2.1 : Nat), .int .i64 ((numA t 0 0).2.2 : Nat)]) ∧ w' = w := by
  have H := hide h
  clear h
  go_enter Try.func91, Try.ntmps91
  go_wp2_with fail
  go_loop [5, 10] (fun n i => ∃ k acc : Nat, k ≤ 9 ∧ k ≤ t.length ∧ i = .int .i64 k ∧ n = .int .u64 acc ∧ acc < 128 ^ k ∧ numA t 0 0 = numA (t.drop k) k acc) (fun _ i => t.length - (intOf i).toNat)
  case atStart => exact ⟨0, 0, by omega, by omega, rfl, rfl, by simp, rfl⟩
  case round =>
    obtain ⟨k, acc, hk, hkl, rfl, rfl, hacc, heq⟩ := hrel
    have HA := hide hacc
    clear hacc
    by_cases hc : k < t.length
    · obtain ⟨cb, off, rfl, hcb, hcell, hx⟩ := (unhide H).cell hc
      rw [drop_at hc] at heq
      generalize t.getD k 0 = x at *
      have HE := hide heq
      clear heq
      have hc' : (k : Int) < (t.length : Int) := by omega
      by_cases hbad : k = 9 ∧ 1 < x
      · have ER : Hid (numA t 0 0 = (0, 0, 7)) := by have := unhide HE; rw [numA_bad _ _ (.inl hbad)] at this; exact this
        obtain ⟨rfl, hx1⟩ := hbad
        have hx1' : (1 : Int) < (x : Int) := by omega
        go_wp2
        go_returns
        exact ⟨by rw [unhide ER]; rfl, rfl⟩
      · have h9 : k = 9 → x ≤ 1 := by omega
        have ho := or_step (x := x) hk (unhide HA) h9
        have HN := hide (next_lt (x := x) (unhide HA))
        by_cases hx8 : x < 128
        · have hx8' : (x : Int) < 128 := by omega
          have em : x % 128 = x := by omega
          have em' : (x : Int) % 128 = x := by omega
          by_cases hz : 0 < k ∧ x = 0
          · have ER : Hid (numA t 0 0 = (0, 0, 7)) := by have := unhide HE; rw [numA_bad _ _ (.inr hz)] at this; exact this
            obtain ⟨hz1, rfl⟩ := hz
            have hk0 : (0 : Int) < (k : Int) := by omega
            clear HN HE
            go_wp2
            all_goals go_returns
            all_goals exact ⟨by rw [unhide ER]; rfl, rfl⟩
          · have ER : Hid (numA t 0 0 = (acc + x * 128 ^ k, k + 1, 0)) := by have := unhide HE; rw [numA_last _ _ (by omega) hx8] at this; exact this
            rw [em, em'] at ho
            by_cases hk9 : k = 9
            · subst hk9
              have hx1 : ¬ (1 : Int) < (x : Int) := by omega
              by_cases hx0 : x = 0
              · omega
              · have hx0' : ¬ (x : Int) = 0 := by omega
                have ho' : bits BinOp.or IntKind.u64 (acc : Int) ((x : Int) * 9223372036854775808) = ((acc + x * 128 ^ 9 : Nat) : Int) := by
                  rw [← ho, IntKind.wrap_u64]
                  congr 1
                  omega
                go_wp2
                go_returns
                exact ⟨by rw [unhide ER]; rfl, rfl⟩
            · have hk9' : ¬ (k : Int) = 9 := by omega
              by_cases hx0 : x = 0
              · obtain rfl : k = 0 := by omega
                subst hx0
                have ha0 := unhide HA
                obtain rfl : acc = 0 := by simpa using ha0
                clear ha0 ho HN HE HA
                rw [Nat.add_zero] at hcell
                have hb0 : bits BinOp.or IntKind.u64 0 0 = 0 := by decide
                go_wp2
                go_returns
                exact ⟨by rw [unhide ER]; rfl, rfl⟩
              · have hx0' : ¬ (x : Int) = 0 := by omega
                go_wp2
                go_returns
                exact ⟨by rw [unhide ER]; rfl, rfl⟩
        · have hx8' : ¬ (x : Int) < 128 := by omega
          have hk9' : ¬ (k : Int) = 9 := by omega
          have ER : Hid (numA t 0 0 = numA (t.drop (k + 1)) (k + 1) (acc + x % 128 * 128 ^ k)) := by
            have := unhide HE; rw [numA_more _ _ (by omega) hx8] at this
            rw [show x - 128 = x % 128 by omega] at this; exact this
          go_wp2
          go_round
          case rel => exact ⟨k + 1, acc + x % 128 * 128 ^ k, by omega, by omega, by go_num, rfl, unhide HN, unhide ER⟩
          case measure => simp [intOf]; omega
    · obtain rfl : k = t.length := by omega
      have ER : Hid (numA t 0 0 = (0, 0, 6)) := by rw [List.drop_length] at heq; exact heq
      clear heq
      go_wp2
      go_returns
      exact ⟨by rw [unhide ER]; rfl, rfl⟩
end Go.Proofs.Ytblmondkdcpkaaa


/-
  codec.Reader's calls, by the plain functions on lists. Conditions: the bytes are at most 2^47.
-/
namespace Go.Proofs.Ytblmondkdcpkaaa
open Go.RowKit
set_option linter.unusedVariables false

/-- A reader's block (the program's, and the document's): its bytes, its place, its first error. -/
structure RdAt (T : TypeId) (w : World) (b : Nat) (a : Option Addr) (cap : Nat) (t : List Nat) (s : Rst) : Prop where
  heap : w.heap[b]? = some (.cells #[.slice a t.length cap, .int .i64 (s.pl : Nat), .int .i64 (s.er : Nat)] T)
  text : LAt w a t
  apart : 0 < t.length → ∀ x, a = some x → x.block ≠ b
  hcap : t.length ≤ cap
  nil : a = none → cap = 0
  pl : s.pl ≤ t.length
  er : s.er ≤ 7
  len : t.length ≤ 140737488355328

theorem RdAt.lt {T : TypeId} {w : World} {b : Nat} {a : Option Addr} {cap : Nat} {t : List Nat} {s : Rst} (h : RdAt T w b a cap t s) : b < w.heap.size := lt_of_heap h.heap
theorem RdAt.keep {T : TypeId} {w w' : World} {b : Nat} {a : Option Addr} {cap : Nat} {t : List Nat} {s : Rst} {S : Nat → Prop} (h : RdAt T w b a cap t s) (tc : Touch S w w') (hb : ¬ S b) (ha : 0 < t.length → ∀ x, a = some x → ¬ S x.block) : RdAt T w' b a cap t s :=
  ⟨tc.keep h.heap hb, h.text.keep tc ha, h.apart, h.hcap, h.nil, h.pl, h.er, h.len⟩
theorem RdAt.later {T : TypeId} {w w' : World} {b : Nat} {a : Option Addr} {cap : Nat} {t : List Nat} {s : Rst} (h : RdAt T w b a cap t s) (hb : Below w.heap.size w w') : RdAt T w' b a cap t s := h.keep (Touch.of_below (S := fun _ => False) hb) (fun h => h) (fun _ _ _ h => h)
theorem RdAt.drew {T : TypeId} {w : World} {b : Nat} {a : Option Addr} {cap : Nat} {t : List Nat} {s : Rst} (h : RdAt T w b a cap t s) : RdAt T w.drew b a cap t s := ⟨h.heap, h.text, h.apart, h.hcap, h.nil, h.pl, h.er, h.len⟩
theorem RdAt.drewN {T : TypeId} {w : World} {b : Nat} {a : Option Addr} {cap : Nat} {t : List Nat} {s : Rst} (h : RdAt T w b a cap t s) (n : Nat) : RdAt T (w.drewN n) b a cap t s := ⟨h.heap, h.text, h.apart, h.hcap, h.nil, h.pl, h.er, h.len⟩
theorem touch_drewN {S : Nat → Prop} (w : World) (n : Nat) : Touch S w (w.drewN n) := ⟨rfl, rfl, rfl, Nat.le_refl _, fun _ _ _ => rfl⟩
theorem RdAt.c0 {T : TypeId} {w : World} {b : Nat} {a : Option Addr} {cap : Nat} {t : List Nat} {s : Rst} (h : RdAt T w b a cap t s) : w.cell? ⟨b, 0, none⟩ = some (.slice a t.length cap) := by rw [cell_of h.heap]; rfl
theorem RdAt.c1 {T : TypeId} {w : World} {b : Nat} {a : Option Addr} {cap : Nat} {t : List Nat} {s : Rst} (h : RdAt T w b a cap t s) : w.cell? ⟨b, 1, none⟩ = some (.int .i64 (s.pl : Nat)) := by rw [cell_of h.heap]; rfl
theorem RdAt.c2 {T : TypeId} {w : World} {b : Nat} {a : Option Addr} {cap : Nat} {t : List Nat} {s : Rst} (h : RdAt T w b a cap t s) : w.cell? ⟨b, 2, none⟩ = some (.int .i64 (s.er : Nat)) := by rw [cell_of h.heap]; rfl
theorem RdAt.fz {T : TypeId} {w : World} {b : Nat} {a : Option Addr} {cap : Nat} {t : List Nat} {s : Rst} (h : RdAt T w b a cap t s) (i : Nat) : w.frozen? ⟨b, i, none⟩ = false := frozen_of h.heap i
theorem RdAt.setPl {T : TypeId} {w : World} {b : Nat} {a : Option Addr} {cap : Nat} {t : List Nat} {s : Rst} (h : RdAt T w b a cap t s) {p : Nat} (hp : p ≤ t.length) : RdAt T (w.setCell ⟨b, 1, none⟩ (.int .i64 (p : Nat))) b a cap t ⟨p, s.er⟩ :=
  ⟨by rw [heap_set h.heap]; rfl, h.text.keep (touch_set w b 1 _) h.apart, h.apart, h.hcap, h.nil, hp, h.er, h.len⟩
theorem RdAt.setEr {T : TypeId} {w : World} {b : Nat} {a : Option Addr} {cap : Nat} {t : List Nat} {s : Rst} (h : RdAt T w b a cap t s) {e : Nat} (he : e ≤ 7) : RdAt T (w.setCell ⟨b, 2, none⟩ (.int .i64 (e : Nat))) b a cap t ⟨s.pl, e⟩ :=
  ⟨by rw [heap_set h.heap]; rfl, h.text.keep (touch_set w b 2 _) h.apart, h.apart, h.hcap, h.nil, h.pl, he, h.len⟩

theorem stop_no {a : Option Addr} {cap b : Nat} {t : List Nat} {s : Rst} (w : World) (h : RdAt 97 w b a cap t s) (he : s.er = 0) :
    Calls Try.prog 90 #[.pointer (some ⟨b, 0, none⟩)] w fun e w' => e = .returned (.bool false) ∧ w' = w := by
  have c2 := h.c2
  rw [he] at c2
  clear h
  go_enter Try.func90, Try.ntmps90
  go_wp2
  go_returns
  exact ⟨rfl, rfl⟩
theorem stop_yes {a : Option Addr} {cap b : Nat} {t : List Nat} {s : Rst} (w : World) (h : RdAt 97 w b a cap t s) (he : s.er ≠ 0) :
    Calls Try.prog 90 #[.pointer (some ⟨b, 0, none⟩)] w fun e w' => e = .returned (.bool true) ∧ w' = w := by
  have c2 := h.c2
  clear h
  generalize s.er = z at *
  have hz : ((z : Int) == 0) = false := by simp; omega
  have hz' : ¬ ((z : Int) = 0) := by omega
  go_enter Try.func90, Try.ntmps90
  go_wp2
  go_returns
  exact ⟨by simp [he], rfl⟩

set_option maxRecDepth 100000 in
theorem ruint_any {a : Option Addr} {cap b : Nat} {t : List Nat} {s : Rst} (w : World) (h : RdAt 97 w b a cap t s) :
    Calls Try.prog 78 #[.pointer (some ⟨b, 0, none⟩)] w fun e w' => e = .returned (.int .u64 ((rU t s).1 : Nat)) ∧ RdAt 97 w' b a cap t (rU t s).2 ∧ Touch (· = b) w w' := by
  by_cases he : s.er = 0
  · have K := fun n => whole_any (cut a s.pl cap) (cap - s.pl) (t.drop s.pl) (w.drewN n) (h.text.drop h.hcap s.pl) (by rw [List.length_drop]; have := h.len; omega)
    have hsl : ∀ w : World, (Instr.slice 24 (.slice a t.length cap) (some (.int .i64 (s.pl : Int))) none none).run Try.prog w = .ok (.slice (cut a s.pl cap) (t.drop s.pl).length (cap - s.pl)) w := fun w => by
      rw [List.length_drop]; exact slice_l a t.length cap s.pl h.pl w
    have c0 := h.c0
    have c1 := h.c1
    have z1 := h.fz 1
    have z2 := h.fz 2
    have c2 := h.c2
    have S0 := hide (stop_no w h he)
    have hpl := h.pl
    have hlen := h.len
    have hok := rU_ok (t := t) (s := s) he
    have herr := rU_err (t := t) (s := s) he
    have hq := numA_ok (t.drop s.pl) 0 0 [] (by omega)
    have he7 := numA_err (t.drop s.pl) 0 0
    rw [List.length_drop] at hq
    have HR := hide h
    clear h
    generalize numA (t.drop s.pl) 0 0 = q at *
    obtain ⟨n, z, eo⟩ := q
    simp only at K hok herr hq he7
    generalize t.drop s.pl = d at *
    generalize cut a s.pl cap = ca at *
    generalize cap - s.pl = cc at *
    by_cases hn : eo = 0
    · subst hn
      have ER := hide (hok rfl)
      have hq' := hq rfl
      have hz10 := hq'.2.2.2
      have hzl := hq'.2.2.1
      have F : Hid (∀ n, RdAt 97 ((w.drewN n).setCell ⟨b, 1, none⟩ (.int .i64 ((s.pl + z : Nat) : Int))) b a cap t ⟨s.pl + z, 0⟩ ∧ Touch (· = b) w ((w.drewN n).setCell ⟨b, 1, none⟩ (.int .i64 ((s.pl + z : Nat) : Int)))) := by
        intro n
        have h1 := ((unhide HR).drewN n).setPl (p := s.pl + z) (by omega)
        rw [he] at h1
        exact ⟨h1, (touch_drewN w n).trans (touch_set _ _ _ _)⟩
      have KK := hide K
      clear K hok herr hq hq' HR he7
      go_enter Try.func78, Try.ntmps78
      go_wp2_with fail
      refine (unhide S0).mono ?_
      rintro e w' ⟨rfl, rfl⟩
      go_wp2_with fail
      go_quiet (first | (go_at_call 91; exact Calls.quiet_of_same (unhide KK _)))
      all_goals
        go_wp2
        go_returns
        rw [unhide ER]
        exact ⟨rfl, unhide F _⟩
    · have ER := hide (herr hn)
      have F : Hid (∀ n, RdAt 97 ((w.drewN n).setCell ⟨b, 2, none⟩ (.int .i64 ((eo : Nat) : Int))) b a cap t ⟨s.pl, eo⟩ ∧ Touch (· = b) w ((w.drewN n).setCell ⟨b, 2, none⟩ (.int .i64 ((eo : Nat) : Int)))) :=
        fun n => ⟨((unhide HR).drewN n).setEr he7, (touch_drewN w n).trans (touch_set _ _ _ _)⟩
      have hn' : ¬ ((eo : Int) = 0) := by omega
      have KK := hide K
      clear K hok herr hq HR he7
      go_enter Try.func78, Try.ntmps78
      go_wp2_with fail
      refine (unhide S0).mono ?_
      rintro e w' ⟨rfl, rfl⟩
      go_wp2_with fail
      go_quiet (first | (go_at_call 91; exact Calls.quiet_of_same (unhide KK _)))
      all_goals
        go_wp2
        go_returns
        rw [unhide ER]
        exact ⟨rfl, unhide F _⟩
  · have S0 := hide (stop_yes w h he)
    have H := hide h
    clear h
    rw [rU_stop he]
    go_enter Try.func78, Try.ntmps78
    go_wp2_with fail
    refine (unhide S0).mono ?_
    rintro e w' ⟨rfl, rfl⟩
    go_wp2
    go_returns
    exact ⟨rfl, unhide H, Touch.refl _ _⟩
end Go.Proofs.Ytblmondkdcpkaaa


/-
  codec.Reader's other calls. Conditions: the bytes are at most 2^47.
-/
namespace Go.Proofs.Ytblmondkdcpkaaa
open Go.RowKit
set_option linter.unusedVariables false

/-- Rows of whole numbers with a sign. -/
def ivals (l : List Int) : List Value := l.map (fun x : Int => Value.int .i64 x)
def IRow (w : World) (v : Value) (l : List Int) : Prop := Own w 3 v (ivals l)
theorem ivals_len (l : List Int) : (ivals l).length = l.length := by simp [ivals]
theorem ivals_at {l : List Int} {j : Nat} (h : j < l.length) : (ivals l)[j]? = some (.int .i64 (l.getD j 0)) := by simp [ivals, List.getD, h]
theorem IRow.nil (w : World) : IRow w (.slice none 0 0) [] := Own.nil _ _
theorem IRow.keep {w w' : World} {v : Value} {l : List Int} {S : Nat → Prop} (h : IRow w v l) (t : Touch S w w') (hs : ∀ k, v.ownBlock = some k → ¬ S k) : IRow w' v l := Own.keep h t hs
theorem IRow.later {w w' : World} {v : Value} {l : List Int} (h : IRow w v l) (hb : Below w.heap.size w w') : IRow w' v l := Own.later h hb
theorem IRow.parts {w : World} {v : Value} {l : List Int} (h : IRow w v l) : ∃ a cap, v = .slice a l.length cap ∧ IAt w a l ∧ l.length ≤ cap ∧ cap ≤ maxLen ∧ (a = none → cap = 0) ∧ (∀ x, a = some x → v.ownBlock = some x.block) ∧ (∀ i, i < l.length → ∃ g, a = some ⟨g, 0, none⟩ ∧ w.frozen? ⟨g, i, none⟩ = false) := by
  obtain ⟨a, cap, e1, e2, e3, e4, e5, e6⟩ := Own.parts h
  rw [ivals_len] at e1 e2
  refine ⟨a, cap, e1, fun i hi => ?_, e2, e3, e4, e5, fun i hi => ?_⟩
  · obtain ⟨g, ha, hg, hc, _⟩ := e6 i (by rw [ivals_len]; exact hi)
    exact ⟨g, 0, ha, hg, by rw [Nat.zero_add, hc]; exact ivals_at hi⟩
  · obtain ⟨g, ha, hg, hc, hf⟩ := e6 i (by rw [ivals_len]; exact hi)
    exact ⟨g, ha, hf⟩
theorem int_info : ∃ i, Try.prog.info? 3 = some i ∧ i.zero = some (.int .i64 0) ∧ i.size = 1 ∧ i.bytes = 8 := by
  have h : (Try.prog.info? 3).map (fun i => (i.zero, i.size, i.bytes)) = some (some (.int .i64 0), 1, 8) := by kernel_rfl
  exact info_parts h
/-- append(row, x). -/
theorem wpList_int (w : World) {ops : Array Oper} {rest : List Oper} {o : Oper} {a : Act} {Q : Exit → Act → World → Prop}
    (hg : o.guard = none) (s x : Operand) (hop : o.op = Op.call { callee := Callee.builtin Builtin.append, args := #[s, x], argTypes := #[32, 32] })
    (v : Value) (l : List Int) (hs : a.eval s = v) (hr : IRow w v l) (b : Nat) (y : Int) (hx : a.eval x = .slice (some ⟨b, 0, none⟩) 1 1) (hb : w.cell? ⟨b, 0, none⟩ = some (.int .i64 y)) (hlen : l.length ≤ 17592186044414)
    (hK : ∀ v' w', IRow w' v' (l ++ [y]) → Touch (fun k => v.ownBlock = some k) w w' → Moved w v v' → wpList Try.prog ops Q rest (a.put o.dst v') w') :
    wpList Try.prog ops Q (o :: rest) a w := by
  obtain ⟨i, hi, hz, hsz, hby⟩ := int_info
  refine wpList_app w hg s x 32 hop 3 i (.int .i64 0) 8 Try.underlying32 hi hz hsz hby rfl v (ivals l) hs hr (some ⟨b, 0, none⟩) 1 1 [.int .i64 y] hx rfl ?_ ?_ (fun h => by cases h) (by rw [ivals_len]; unfold maxLen; omega) (by rw [ivals_len]; omega) ?_
  · intro j u hj
    match j, hj with
    | 0, hj => cases hj; exact ⟨b, 0, rfl, hb⟩
  · intro u hu
    simp at hu
    subst hu; rfl
  · intro v' w' h1 h2 h3
    refine hK v' w' ?_ h2 h3
    show Own w' _ v' (ivals (l ++ [y]))
    have e : ivals (l ++ [y]) = ivals l ++ [.int .i64 y] := by simp [ivals]
    rw [e]; exact h1

theorem slice_lh (a : Option Addr) (len cap k n : Nat) (hn : k + n ≤ cap) (w : World) : (Instr.slice 24 (.slice a len cap) (some (.int .i64 (k : Int))) (some (.int .i64 ((k : Int) + (n : Int)))) none).run Try.prog w = .ok (.slice (cut a k cap) n (cap - k)) w := by
  have hel : Try.prog.underlying 24 = some (.slice (Try.prog.elem 24)) := by kernel_rfl
  have hsz : ∀ w, (sizeOf (Try.prog.elem 24)).run Try.prog w = .ok 1 w := fun _ => by kernel_rfl
  rw [run_slice_lh w 24 a len cap hel .i64 .i64 (k : Int) ((k : Int) + (n : Int)) (by omega) (by omega) (by omega), hsz]
  have e1 : ((k : Int) + (n : Int)).toNat = k + n := by omega
  simp [Result.andThen, sliced, cut, e1]

/-- A count: above 4096 it is refused. -/
def rC (t : List Nat) (s : Rst) : Nat × Rst := if 4096 < (rU t s).1 then (0, ⟨(rU t s).2.pl, 2⟩) else rU t s
theorem rC_le (t : List Nat) (s : Rst) : (rC t s).1 ≤ 4096 := by
  unfold rC; split
  · exact Nat.zero_le _
  · omega
theorem rC_zero {t : List Nat} {s : Rst} (h : (rC t s).2.er ≠ 0) : (rC t s).1 = 0 := by
  unfold rC at h ⊢
  split
  · rfl
  · rename_i hn; rw [if_neg hn] at h; exact rU_zero h
theorem rC_err {t : List Nat} {s : Rst} (h : ¬ (rU t s).2.er = 0) : rC t s = rU t s := by unfold rC; rw [if_neg (by rw [rU_zero h]; omega)]
theorem rB_C (t : List Nat) (s : Rst) : rB t s = if (rC t s).2.er = 0 then (if (rC t s).2.pl + (rC t s).1 ≤ t.length then ((t.drop (rC t s).2.pl).take (rC t s).1, ⟨(rC t s).2.pl + (rC t s).1, 0⟩) else ([], ⟨(rC t s).2.pl, 6⟩)) else ([], (rC t s).2) := by
  unfold rB
  by_cases h : (rU t s).2.er = 0
  · rw [if_pos h]
    by_cases hn : 4096 < (rU t s).1
    · rw [if_pos hn]; unfold rC; rw [if_pos hn, if_neg (by simp)]
    · rw [if_neg hn]; unfold rC; rw [if_neg hn, if_pos h]
  · rw [if_neg h, rC_err h, if_neg h]
theorem rL_C (t : List Nat) (s : Rst) : rL t s = if (rC t s).2.er = 0 then rNs t (rC t s).1 (rC t s).2 [] else ([], (rC t s).2) := by
  unfold rL
  by_cases h : (rU t s).2.er = 0
  · rw [if_pos h]
    by_cases hn : 4096 < (rU t s).1
    · rw [if_pos hn]; unfold rC; rw [if_pos hn, if_neg (by simp)]
    · rw [if_neg hn]; unfold rC; rw [if_neg hn, if_pos h]
  · rw [if_neg h, rC_err h, if_neg h]

section
variable {a : Option Addr} {cap b : Nat} {t : List Nat} {s : Rst}

set_option maxRecDepth 100000 in
theorem rint_any (w : World) (h : RdAt 97 w b a cap t s) :
    Calls Try.prog 70 #[.pointer (some ⟨b, 0, none⟩)] w fun e w' => e = .returned (.int .i64 (rI t s).1) ∧ RdAt 97 w' b a cap t (rI t s).2 ∧ Touch (· = b) w w' := by
  have K := hide (ruint_any w h)
  have hf := rU_fits (t := t) (s := s) h.text.bytes
  clear h
  unfold rI
  generalize rU t s = q at *
  obtain ⟨n, q⟩ := q
  have hz := rz n hf
  go_enter Try.func70, Try.ntmps70
  go_wp2_with fail
  refine (unhide K).mono ?_
  rintro e w' ⟨rfl, h1⟩
  have H1 := hide h1
  clear h1 K
  go_wp2
  go_returns
  exact ⟨by rw [← hz]; rfl, unhide H1⟩

theorem er_store {w w' : World} {e : Nat} (he : e ≤ 7) (h : RdAt 97 w' b a cap t s) (tc : Touch (· = b) w w') :
    RdAt 97 (w'.setCell ⟨b, 2, none⟩ (.int .i64 (e : Nat))) b a cap t ⟨s.pl, e⟩ ∧ Touch (· = b) w (w'.setCell ⟨b, 2, none⟩ (.int .i64 (e : Nat))) := ⟨h.setEr he, tc.trans (touch_set _ _ _ _)⟩

set_option maxRecDepth 100000 in
theorem rflag_any (w : World) (h : RdAt 97 w b a cap t s) :
    Calls Try.prog 71 #[.pointer (some ⟨b, 0, none⟩)] w fun e w' => e = .returned (.bool (rF t s).1) ∧ RdAt 97 w' b a cap t (rF t s).2 ∧ Touch (· = b) w w' := by
  have K := hide (ruint_any w h)
  clear h
  unfold rF
  generalize rU t s = q at *
  obtain ⟨n, q⟩ := q
  by_cases hn : 1 < n
  · rw [if_pos hn]
    have hn' : (1 : Int) < (n : Int) := by omega
    go_enter Try.func71, Try.ntmps71
    go_wp2_with fail
    refine (unhide K).mono ?_
    rintro e w' ⟨rfl, h1, t1⟩
    have z2 := h1.fz 2
    have c2 := h1.c2
    have H1 := hide (er_store (e := 7) (by omega) h1 t1)
    clear h1 K t1
    go_wp2
    go_returns
    exact ⟨rfl, unhide H1⟩
  · rw [if_neg hn]
    have hn' : ¬ (1 : Int) < (n : Int) := by omega
    go_enter Try.func71, Try.ntmps71
    go_wp2_with fail
    refine (unhide K).mono ?_
    rintro e w' ⟨rfl, h1⟩
    have H1 := hide h1
    clear h1 K
    go_wp2
    go_returns
    refine ⟨?_, unhide H1⟩
    have : ((n : Int) == 1) = (n == 1) := by
      by_cases h : n = 1
      · subst h; rfl
      · rw [beq_eq_false_iff_ne.2 h, beq_eq_false_iff_ne.2 (by omega)]
    simp only []
    rw [← this]
    rfl

set_option maxRecDepth 100000 in
theorem count_any (w : World) (h : RdAt 97 w b a cap t s) :
    Calls Try.prog 88 #[.pointer (some ⟨b, 0, none⟩)] w fun e w' => e = .returned (.int .i64 ((rC t s).1 : Nat)) ∧ RdAt 97 w' b a cap t (rC t s).2 ∧ Touch (· = b) w w' := by
  have K := hide (ruint_any w h)
  clear h
  unfold rC
  generalize rU t s = q at *
  obtain ⟨n, q⟩ := q
  by_cases hn : 4096 < n
  · rw [if_pos hn]
    have hn' : (4096 : Int) < (n : Int) := by omega
    go_enter Try.func88, Try.ntmps88
    go_wp2_with fail
    refine (unhide K).mono ?_
    rintro e w' ⟨rfl, h1, t1⟩
    have z2 := h1.fz 2
    have c2 := h1.c2
    have H1 := hide (er_store (e := 2) (by omega) h1 t1)
    clear h1 K t1
    go_wp2
    go_returns
    exact ⟨rfl, unhide H1⟩
  · rw [if_neg hn]
    have hn' : ¬ (4096 : Int) < (n : Int) := by omega
    go_enter Try.func88, Try.ntmps88
    go_wp2_with fail
    refine (unhide K).mono ?_
    rintro e w' ⟨rfl, h1⟩
    have H1 := hide h1
    clear h1 K
    go_wp2
    go_returns
    exact ⟨rfl, unhide H1⟩

set_option maxRecDepth 100000 in
theorem take_stop (w : World) (k : Int) (h : RdAt 97 w b a cap t s) (he : s.er ≠ 0) :
    Calls Try.prog 87 #[.pointer (some ⟨b, 0, none⟩), .int .i64 k] w fun e w' => e = .returned (.slice none 0 0) ∧ w' = w := by
  have K := hide (stop_yes w h he)
  clear h
  go_enter Try.func87, Try.ntmps87
  go_wp2_with fail
  refine (unhide K).mono ?_
  rintro e w' ⟨rfl, rfl⟩
  go_wp2
  go_returns
  exact ⟨rfl, rfl⟩

set_option maxRecDepth 100000 in
theorem take_few (w : World) (k : Nat) (h : RdAt 97 w b a cap t s) (he : s.er = 0) (hk : ¬ s.pl + k ≤ t.length) :
    Calls Try.prog 87 #[.pointer (some ⟨b, 0, none⟩), .int .i64 (k : Nat)] w fun e w' => e = .returned (.slice none 0 0) ∧ RdAt 97 w' b a cap t ⟨s.pl, 6⟩ ∧ Touch (· = b) w w' := by
  have K := hide (stop_no w h he)
  have c0 := h.c0
  have c1 := h.c1
  have c2 := h.c2
  have z2 := h.fz 2
  have hlen := h.len
  have hpl := h.pl
  have F : Hid (∀ n, RdAt 97 ((w.drewN n).setCell ⟨b, 2, none⟩ (.int .i64 ((6 : Nat) : Int))) b a cap t ⟨s.pl, 6⟩ ∧ Touch (· = b) w ((w.drewN n).setCell ⟨b, 2, none⟩ (.int .i64 ((6 : Nat) : Int)))) := fun n => er_store (by omega) (h.drewN n) (touch_drewN w n)
  clear h
  have hk' : (t.length : Int) - (s.pl : Int) < (k : Int) := by omega
  go_enter Try.func87, Try.ntmps87
  go_wp2_with fail
  refine (unhide K).mono ?_
  rintro e w' ⟨rfl, rfl⟩
  go_wp2_with fail
  go_quiet (fail)
  go_wp2
  go_returns
  exact ⟨rfl, unhide F _⟩

set_option maxRecDepth 100000 in
theorem take_ok (w : World) (k : Nat) (h : RdAt 97 w b a cap t s) (he : s.er = 0) (hk : s.pl + k ≤ t.length) :
    Calls Try.prog 87 #[.pointer (some ⟨b, 0, none⟩), .int .i64 (k : Nat)] w fun e w' => e = .returned (.slice (cut a s.pl cap) k (cap - s.pl)) ∧ RdAt 97 w' b a cap t ⟨s.pl + k, 0⟩ ∧ Touch (· = b) w w' := by
  have K := hide (stop_no w h he)
  have c0 := h.c0
  have c1 := h.c1
  have z1 := h.fz 1
  have hlen := h.len
  have hpl := h.pl
  have hsl := slice_lh a t.length cap s.pl k (by have := h.hcap; omega)
  have F : Hid (∀ n, RdAt 97 ((w.drewN n).setCell ⟨b, 1, none⟩ (.int .i64 ((s.pl + k : Nat) : Int))) b a cap t ⟨s.pl + k, 0⟩ ∧ Touch (· = b) w ((w.drewN n).setCell ⟨b, 1, none⟩ (.int .i64 ((s.pl + k : Nat) : Int)))) := by
    intro n
    have h1 := (h.drewN n).setPl hk
    rw [he] at h1
    exact ⟨h1, (touch_drewN w n).trans (touch_set _ _ _ _)⟩
  clear h
  have hk' : ¬ (t.length : Int) - (s.pl : Int) < (k : Int) := by omega
  generalize cut a s.pl cap = ca at *
  generalize cap - s.pl = cc at *
  go_enter Try.func87, Try.ntmps87
  go_wp2_with fail
  refine (unhide K).mono ?_
  rintro e w' ⟨rfl, rfl⟩
  go_wp2_with fail
  go_quiet (fail)
  go_wp2_with fail
  go_quiet (fail)
  go_wp2
  go_returns
  exact ⟨rfl, unhide F _⟩
end
end Go.Proofs.Ytblmondkdcpkaaa


/-
  codec.Reader's Fixed, Bytes, Ints, State, End, and NewReader. Conditions: the bytes are at most 2^47.
-/
namespace Go.Proofs.Ytblmondkdcpkaaa
open Go.RowKit
set_option linter.unusedVariables false

set_option maxRecDepth 100000 in
theorem fix_or {x0 x1 x2 x3 : Nat} (h0 : x0 < 256) (h1 : x1 < 256) (h2 : x2 < 256) (h3 : x3 < 256) :
    bits BinOp.or IntKind.u32 (bits BinOp.or IntKind.u32 (bits BinOp.or IntKind.u32 (x0 : Int) ((x1 : Int) * 256)) ((x2 : Int) * 65536)) ((x3 : Int) * 16777216) = ((x0 + 256 * x1 + 65536 * x2 + 16777216 * x3 : Nat) : Int) := by
  have e1 := u32_or_nat x0 (x1 * 256) (by omega) (by omega)
  have e2 := u32_or_nat (x0 + 256 * x1) (x2 * 65536) (by omega) (by omega)
  have e3 := u32_or_nat (x0 + 256 * x1 + 65536 * x2) (x3 * 16777216) (by omega) (by omega)
  have j1 := nat_join 8 (x1 * 256) x0 (by omega) (by omega)
  have j2 := nat_join 16 (x2 * 65536) (x0 + 256 * x1) (by omega) (by omega)
  have j3 := nat_join 24 (x3 * 16777216) (x0 + 256 * x1 + 65536 * x2) (by omega) (by omega)
  have s1 : x0 ||| x1 * 256 = x0 + 256 * x1 := by rw [Nat.or_comm, j1]; omega
  have s2 : (x0 + 256 * x1) ||| x2 * 65536 = x0 + 256 * x1 + 65536 * x2 := by rw [Nat.or_comm, j2]; omega
  have s3 : (x0 + 256 * x1 + 65536 * x2) ||| x3 * 16777216 = x0 + 256 * x1 + 65536 * x2 + 16777216 * x3 := by rw [Nat.or_comm, j3]; omega
  rw [s1] at e1
  rw [s2] at e2
  rw [s3] at e3
  have c1 : ((x1 * 256 : Nat) : Int) = (x1 : Int) * 256 := by simp
  have c2 : ((x2 * 65536 : Nat) : Int) = (x2 : Int) * 65536 := by simp
  have c3 : ((x3 * 16777216 : Nat) : Int) = (x3 : Int) * 16777216 := by simp
  rw [c1] at e1
  rw [c2] at e2
  rw [c3] at e3
  rw [e1, e2, e3]

theorem cut_none {a : Option Addr} {k cap : Nat} (hn : a = none → cap = 0) (h : cut a k cap = none) : cap - k = 0 := by
  unfold cut at h
  split at h
  · omega
  · cases a with
    | none => have := hn rfl; omega
    | some x => simp at h
theorem cut_block {a : Option Addr} {k cap : Nat} {x : Addr} (h : cut a k cap = some x) : ∃ y, a = some y ∧ x.block = y.block := by
  unfold cut at h
  split at h
  · exact ⟨x, h, rfl⟩
  · cases a with
    | none => simp at h
    | some y =>
      simp only [Option.map_some, Option.some.injEq] at h
      subst h
      refine ⟨y, rfl, ?_⟩
      unfold Addr.add
      split <;> rfl

section
variable {a : Option Addr} {cap b : Nat} {t : List Nat} {s : Rst}

theorem touch_below {S : Nat → Prop} {w w1 w2 : World} (t1 : Touch S w w1) (hb : Below w1.heap.size w1 w2) : Touch S w w2 := t1.trans (Touch.of_below hb)

set_option maxRecDepth 100000 in
theorem rbytes_any (w : World) (h : RdAt 97 w b a cap t s) :
    Calls Try.prog 74 #[.pointer (some ⟨b, 0, none⟩)] w fun e w' => ∃ v, e = .returned v ∧ Row w' v (rB t s).1 ∧ New w v ∧ RdAt 97 w' b a cap t (rB t s).2 ∧ Touch (· = b) w w' := by
  have K := hide (count_any w h)
  have hB := rB_C t s
  clear h
  generalize rB t s = R at *
  generalize rC t s = q at *
  obtain ⟨n, q⟩ := q
  by_cases he : q.er = 0
  · rw [if_pos he] at hB
    by_cases hk : q.pl + n ≤ t.length
    · rw [if_pos hk] at hB
      subst hB
      go_enter Try.func74, Try.ntmps74
      go_wp2_with fail
      refine (unhide K).mono ?_
      rintro e w1 ⟨rfl, h1, t1⟩
      have T1 := hide t1
      have H1 := hide h1
      clear K h1 t1
      go_wp2_with fail
      refine (take_ok w1 n (unhide H1) he hk).mono ?_
      rintro e w2 ⟨rfl, h2, t2⟩
      have hl : ((t.drop q.pl).take n).length = n := by rw [List.length_take, List.length_drop]; omega
      have C := clone_any (cut a q.pl cap) ((t.drop q.pl).take n) (cap - q.pl) w2 ((h2.text.drop h2.hcap q.pl).take n) (cut_none h2.nil) (by rw [hl]; have := h2.len; omega)
      rw [hl] at C
      have CC := hide C
      have H2 := hide h2
      have T2 := hide t2
      clear C h2 t2 hl
      go_wp2_with fail
      refine (unhide CC).mono ?_
      rintro e w3 ⟨v, rfl, r3, n3, b3⟩
      have F := hide (And.intro r3 (And.intro (n3.mono (Nat.le_trans (unhide T1).size (unhide T2).size)) (And.intro ((unhide H2).later b3) (touch_below ((unhide T1).trans (unhide T2)) b3))))
      clear r3 n3 b3 CC
      go_wp2
      go_returns
      exact ⟨_, rfl, unhide F⟩
    · rw [if_neg hk] at hB
      subst hB
      go_enter Try.func74, Try.ntmps74
      go_wp2_with fail
      refine (unhide K).mono ?_
      rintro e w1 ⟨rfl, h1, t1⟩
      have T1 := hide t1
      have H1 := hide h1
      clear K h1 t1
      go_wp2_with fail
      refine (take_few w1 n (unhide H1) he hk).mono ?_
      rintro e w2 ⟨rfl, h2, t2⟩
      have CC := hide (clone_any none [] 0 w2 (fun i hi => by cases hi) (fun _ => rfl) (by simp))
      have H2 := hide h2
      have T2 := hide t2
      clear h2 t2
      go_wp2_with fail
      refine (unhide CC).mono ?_
      rintro e w3 ⟨v, rfl, r3, n3, b3⟩
      have F := hide (And.intro r3 (And.intro (n3.mono (Nat.le_trans (unhide T1).size (unhide T2).size)) (And.intro ((unhide H2).later b3) (touch_below ((unhide T1).trans (unhide T2)) b3))))
      clear r3 n3 b3 CC
      go_wp2
      go_returns
      exact ⟨_, rfl, unhide F⟩
  · rw [if_neg he] at hB
    subst hB
    go_enter Try.func74, Try.ntmps74
    go_wp2_with fail
    refine (unhide K).mono ?_
    rintro e w1 ⟨rfl, h1, t1⟩
    have T1 := hide t1
    have H1 := hide h1
    clear K h1 t1
    go_wp2_with fail
    refine (take_stop w1 n (unhide H1) he).mono ?_
    rintro e w2 ⟨rfl, rfl⟩
    have CC := hide (clone_any none [] 0 w2 (fun i hi => by cases hi) (fun _ => rfl) (by simp))
    go_wp2_with fail
    refine (unhide CC).mono ?_
    rintro e w3 ⟨v, rfl, r3, n3, b3⟩
    have F := hide (And.intro r3 (And.intro (n3.mono (unhide T1).size) (And.intro ((unhide H1).later b3) (touch_below (unhide T1) b3))))
    clear r3 n3 b3 CC
    go_wp2
    go_returns
    exact ⟨_, rfl, unhide F⟩

theorem rL_N (t : List Nat) (s : Rst) : rL t s = rNs t (rC t s).1 (rC t s).2 [] := by
  rw [rL_C]
  by_cases h : (rC t s).2.er = 0
  · rw [if_pos h]
  · rw [if_neg h, rC_zero h]; rfl

set_option maxRecDepth 100000 in
theorem rints_any (w : World) (h : RdAt 97 w b a cap t s) :
    Calls Try.prog 79 #[.pointer (some ⟨b, 0, none⟩)] w fun e w' => ∃ v, e = .returned v ∧ IRow w' v (rL t s).1 ∧ New w v ∧ RdAt 97 w' b a cap t (rL t s).2 ∧ Touch (· = b) w w' := by
  have K := hide (count_any w h)
  have hB := rL_N t s
  have hle := rC_le t s
  have HB : Hid (b < w.heap.size) := h.lt
  have HA : Hid (∀ x, a = some x → 0 < t.length → x.block < w.heap.size) := fun x hx h0 => by
    obtain ⟨b', off', e1, e2, _⟩ := h.text.cell h0
    rw [hx] at e1; cases e1; exact e2
  clear h
  generalize rC t s = q at *
  obtain ⟨N, q0⟩ := q
  rw [hB]
  clear hB
  generalize hR : rNs t N q0 [] = R at *
  have ER := hide hR
  clear hR
  go_enter Try.func79, Try.ntmps79
  go_wp2_with fail
  refine (unhide K).mono ?_
  rintro e w1 ⟨rfl, h1, t1⟩
  have T1 := hide t1
  have H1 := hide h1
  clear K h1 t1
  go_wp2_with fail
  go_loopw [3, 7] (fun l i wr => ∃ (k : Nat) (acc : List Int) (q : Rst) (vl : Value), vl = l ∧ k ≤ N ∧ i = .int .i64 k ∧ acc.length ≤ k ∧ IRow wr vl acc ∧ New w vl ∧ RdAt 97 wr b a cap t q ∧ Touch (· = b) w wr ∧ rNs t (N - k) q acc = R) (fun _ i _ => N - (intOf i).toNat)
  case atStart => exact ⟨0, [], q0, _, rfl, Nat.zero_le _, rfl, Nat.zero_le _, IRow.nil _, New.nil _, unhide H1, unhide T1, unhide ER⟩
  case round =>
    obtain ⟨k, acc, q, vl, rfl, hk, rfl, hacc, hi, hn, hr, ht, heq⟩ := hrel
    have HI := hide hi
    have HN := hide hn
    have HR := hide hr
    have HT := hide ht
    clear hi hn hr ht
    by_cases hc : k < N
    · have hc' : (k : Int) < (N : Int) := by omega
      obtain ⟨j, hj⟩ : ∃ j, N - k = j + 1 := ⟨N - k - 1, by omega⟩
      have hj2 : N - (k + 1) = j := by omega
      rw [hj, rNs] at heq
      go_wp2_with fail
      refine (rint_any _ (unhide HR)).mono ?_
      rintro e w2 ⟨rfl, h2, t2⟩
      have R2 := hide h2
      have T2 := hide ((unhide HT).trans t2)
      have I2 := hide ((unhide HI).keep t2 (fun i hi e => by have := (unhide HN) i hi; have := (unhide HB) ; omega))
      clear h2 t2
      generalize rI t q = p at *
      obtain ⟨x, p⟩ := p
      by_cases he : p.er = 0
      · rw [if_pos he] at heq
        have EQ := hide heq
        clear heq
        go_wp2_with fail
        refine (stop_no _ (unhide R2) he).mono ?_
        rintro e w3 ⟨rfl, rfl⟩
        have hcl : (w3.alloc (.cells #[.int .i64 x] 3)).cell? ⟨w3.heap.size, 0, none⟩ = some (.int .i64 x) := by rw [cell_of (heap_new _ _)]; rfl
        have hbl : Below w3.heap.size w3 (w3.alloc (.cells #[.int .i64 x] 3)) := (Below.refl _ _).alloc (Nat.le_refl _) _
        have I3 := hide ((unhide I2).later hbl)
        have R3 := hide ((unhide R2).later hbl)
        have T3 := hide (touch_below (unhide T2) hbl)
        clear hbl
        have hsz : w3.heap.size ≤ (w3.alloc (.cells #[.int .i64 x] 3)).heap.size := by simp
        have HS := hide hsz
        clear hsz
        go_wp2_with (at_builtin; refine wpList_int _ rfl (.tmp 13) (.tmp 15) rfl _ acc rfl (unhide I3) w3.heap.size x rfl hcl (by omega) ?_)
        intro v' w4 r4 t4 m4
        have hbv : ∀ i, vl.ownBlock = some i → i ≠ b ∧ (0 < t.length → ∀ y, a = some y → y.block ≠ i) := by
          intro i hi
          have := unhide HN i hi
          exact ⟨by have := unhide HB; omega, fun h0 y hy e => by have := unhide HA y hy h0; omega⟩
        have F : Hid (IRow w4 v' (acc ++ [x]) ∧ New w v' ∧ RdAt 97 w4 b a cap t p ∧ Touch (· = b) w w4) := by
          refine ⟨r4, (unhide HN).moved m4 (Nat.le_trans (unhide T2).size (unhide HS)), (unhide R3).keep t4 (fun e => (hbv b e).1 rfl) (fun h0 y hy e => (hbv _ e).2 h0 y hy rfl), ?_⟩
          refine ⟨t4.os.trans (unhide T3).os, t4.tape.trans (unhide T3).tape, t4.output.trans (unhide T3).output, Nat.le_trans (unhide T3).size t4.size, fun i hi hs => ?_⟩
          rw [t4.block i (Nat.lt_of_lt_of_le hi (unhide T3).size) (fun e => by have := unhide HN i e; omega)]
          exact (unhide T3).block i hi hs
        have HV : Hid (∃ a' n' c', v' = .slice a' n' c') := by obtain ⟨a', c', e, _⟩ := IRow.parts r4; exact ⟨a', _, c', e⟩
        clear r4 t4 m4 hbv hcl
        obtain ⟨a', n', c', rfl⟩ := unhide HV
        go_wp2
        go_roundw
        case rel => exact ⟨k + 1, acc ++ [x], p, _, rfl, by omega, by go_num, by simp; omega, (unhide F).1, (unhide F).2.1, (unhide F).2.2.1, (unhide F).2.2.2, by rw [hj2]; exact unhide EQ⟩
        case measure => simp [intOf]; omega
      · rw [if_neg he] at heq
        have EQ := hide heq
        clear heq
        go_wp2_with fail
        refine (stop_yes _ (unhide R2) he).mono ?_
        rintro e w3 ⟨rfl, rfl⟩
        go_wp2
        go_returns
        rw [← unhide EQ]
        exact ⟨_, rfl, IRow.nil _, New.nil _, unhide R2, unhide T2⟩
    · obtain rfl : k = N := by omega
      have EQ : Hid ((acc, q) = R) := by have := heq; rw [Nat.sub_self] at this; exact this
      clear heq
      go_wp2
      go_returns
      rw [← unhide EQ]
      exact ⟨_, rfl, unhide HI, unhide HN, unhide HR, unhide HT⟩
end
end Go.Proofs.Ytblmondkdcpkaaa


namespace Go.Proofs.Ytblmondkdcpkaaa
open Go.RowKit
set_option linter.unusedVariables false

/-- What End answers. -/
def rE (t : List Nat) (s : Rst) : Nat := if s.er = 0 ∧ s.pl < t.length then 6 else s.er

section
variable {a : Option Addr} {cap b : Nat} {t : List Nat} {s : Rst}

set_option maxRecDepth 100000 in
theorem state_any (w : World) (h : RdAt 97 w b a cap t s) :
    Calls Try.prog 82 #[.pointer (some ⟨b, 0, none⟩)] w fun e w' => e = .returned (.tuple #[.int .i64 (s.pl : Nat), .int .i64 ((t.length - s.pl : Nat) : Int), .int .i64 (s.er : Nat)]) ∧ ∃ n, w' = w.drewN n := by
  have c0 := h.c0
  have c1 := h.c1
  have c2 := h.c2
  have hpl := h.pl
  have hlen := h.len
  clear h
  have hsub : (t.length : Int) - (s.pl : Int) = ((t.length - s.pl : Nat) : Int) := by omega
  go_enter Try.func82, Try.ntmps82
  go_wp2_with fail
  go_quiet (fail)
  go_wp2
  go_returns
  exact ⟨by rw [← hsub]; rfl, _, rfl⟩

set_option maxRecDepth 100000 in
theorem end_any (w : World) (h : RdAt 97 w b a cap t s) :
    Calls Try.prog 55 #[.pointer (some ⟨b, 0, none⟩)] w fun e w' => e = .returned (.int .i64 (rE t s : Nat)) ∧ ∃ n, w' = w.drewN n := by
  have K := hide (state_any w h)
  have hpl := h.pl
  clear h
  by_cases he : s.er = 0
  · have he' : ((s.er : Nat) : Int) = 0 := by omega
    by_cases hl : s.pl < t.length
    · have E : Hid (rE t s = 6) := by show _ = _; unfold rE; rw [if_pos ⟨he, hl⟩]
      obtain ⟨d, hd, hd0⟩ : ∃ d : Nat, t.length - s.pl = d ∧ (0 : Int) < (d : Int) := ⟨_, rfl, by omega⟩
      rw [hd, he] at K
      go_enter Try.func55, Try.ntmps55
      go_wp2_with fail
      refine (unhide K).mono ?_
      rintro e w' ⟨rfl, n, rfl⟩
      go_wp2
      go_returns
      exact ⟨by rw [unhide E]; rfl, _, rfl⟩
    · have E : Hid (rE t s = 0) := by show _ = _; unfold rE; rw [if_neg (by omega), he]
      have hd : t.length - s.pl = 0 := by omega
      rw [hd, he] at K
      go_enter Try.func55, Try.ntmps55
      go_wp2_with fail
      refine (unhide K).mono ?_
      rintro e w' ⟨rfl, n, rfl⟩
      go_wp2
      go_returns
      exact ⟨by rw [unhide E]; rfl, _, rfl⟩
  · have E : Hid (rE t s = s.er) := by show _ = _; unfold rE; rw [if_neg (by omega)]
    generalize s.er = z at *
    have he' : ¬ ((z : Nat) : Int) = 0 := by omega
    generalize t.length - s.pl = d at *
    go_enter Try.func55, Try.ntmps55
    go_wp2_with fail
    refine (unhide K).mono ?_
    rintro e w' ⟨rfl, n, rfl⟩
    go_wp2
    go_returns
    exact ⟨by rw [unhide E]; rfl, _, rfl⟩
end

set_option maxRecDepth 100000 in
theorem newreader_any (w : World) (a : Option Addr) (cap : Nat) (t : List Nat) (h : LAt w a t) (hn : a = none → cap = 0) (hl : t.length ≤ 140737488355328) :
    Calls Try.prog 33 #[.slice a t.length cap] w fun e w' => ∃ b a' cap', e = .returned (.pointer (some ⟨b, 0, none⟩)) ∧ RdAt 97 w' b a' cap' t ⟨0, 0⟩ ∧ Below w.heap.size w w' ∧ w.heap.size ≤ b ∧ ∀ x, a' = some x → w.heap.size ≤ x.block := by
  have K := hide (clone_any a t cap w h hn hl)
  clear h
  go_enter Try.func33, Try.ntmps33
  go_wp2_with fail
  refine (unhide K).mono ?_
  rintro e w1 ⟨v, rfl, r, n, bl⟩
  have hlt := r.lt
  obtain ⟨a', cap', rfl, hr, hc, hm, hn', ho, _⟩ := r.parts
  have F : Hid (RdAt 97 (w1.alloc (.cells #[.slice a' t.length cap', .int .i64 0, .int .i64 0] 97)) w1.heap.size a' cap' t ⟨0, 0⟩ ∧ Below w.heap.size w (w1.alloc (.cells #[.slice a' t.length cap', .int .i64 0, .int .i64 0] 97)) ∧ w.heap.size ≤ w1.heap.size ∧ ∀ x, a' = some x → w.heap.size ≤ x.block) := by
    refine ⟨⟨heap_new _ _, hr.keep ((Touch.refl (fun _ => False) w1).alloc _) (fun _ _ _ h => h), fun _ x hx => ?_, hc, hn', Nat.zero_le _, by simp, hl⟩, bl.alloc bl.size _, bl.size, fun x hx => n x.block (ho x hx)⟩
    have := hlt x.block (ho x hx)
    omega
  clear r n bl hlt hr ho K
  go_wp2
  go_returns
  exact ⟨_, _, _, rfl, unhide F⟩

theorem state_nil (w : World) :
    Calls Try.prog 82 #[.pointer none] w fun e w' => e = .returned (.tuple #[.int .i64 0, .int .i64 0, .int .i64 5]) ∧ w' = w := by
  go_enter Try.func82, Try.ntmps82
  go_wp2
  go_returns
  exact ⟨rfl, rfl⟩

set_option maxRecDepth 100000 in
theorem same_any (w : World) (a c : Option Addr) (ca cc : Nat) (l : List Nat) (ha : LAt w a l) (hc : LAt w c l) (hl : l.length ≤ 9223372036854775807) :
    Calls Try.prog 12 #[.slice a l.length ca, .slice c l.length cc] w fun e w' => e = .returned (.bool true) ∧ ∃ n, w' = w.drewN n := by
  have HA := hide ha
  have HC := hide hc
  clear ha hc
  go_enter Try.func12, Try.ntmps12
  go_wp2_with fail
  go_loopw [5] (fun i wr => ∃ k n : Nat, k ≤ l.length ∧ i = .int .i64 k ∧ wr = w.drewN n) (fun i _ => l.length - (intOf i).toNat)
  case atStart => exact ⟨0, 0, Nat.zero_le _, rfl, rfl⟩
  case round =>
    obtain ⟨k, n, hk, rfl, rfl⟩ := hrel
    by_cases h8 : k < l.length
    · obtain ⟨b1, o1, rfl, _, e1, _⟩ := (unhide HA).cell h8
      obtain ⟨b2, o2, rfl, _, e2, _⟩ := (unhide HC).cell h8
      generalize l.getD k 0 = x at *
      have h8' : (k : Int) < (l.length : Int) := by omega
      go_wp2_with fail
      go_quiet (fail)
      go_wp2
      go_roundw
      case rel => exact ⟨k + 1, n + nq, by omega, by go_num, by simp⟩
      case measure => simp [intOf]; omega
    · obtain rfl : k = l.length := by omega
      go_wp2
      go_returns
      exact ⟨rfl, n, rfl⟩

end Go.Proofs.Ytblmondkdcpkaaa
