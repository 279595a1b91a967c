/-
  codec.Reader's calls, by the plain functions on lists. Conditions: the bytes are at most 2^47.
-/
import Derived.Test.YtfdpnfeaagijhaaWr
import Derived.Deep.RegionHeld3
import Derived.BigQuiet

/-
  codec.whole: the whole number at the front of bytes. Conditions: the bytes are at most 2^47.
-/
namespace Go.Proofs.Ytfdpnfeaagijhaa
open Go.RowKit
set_option linter.unusedVariables false

theorem pow7 (k : Nat) : 2 ^ (7 * k) = (128 : Nat) ^ k := by rw [Nat.pow_mul]
theorem sh_fits {x k : Nat} (hk : k ≤ 9) (h9 : k = 9 → x ≤ 1) : x % 128 * 128 ^ k < 18446744073709551616 := by
  by_cases h : k = 9
  · subst h; rw [pow9]; have := h9 rfl; omega
  · have h1 : x % 128 * 128 ^ k ≤ 127 * 128 ^ k := Nat.mul_le_mul_right _ (by omega)
    have h2 : (128 : Nat) ^ (k + 1) ≤ 128 ^ 9 := Nat.pow_le_pow_right (by omega) (by omega)
    rw [Nat.pow_succ, pow9] at h2
    omega
theorem sh_wrap {x k : Nat} (hk : k ≤ 9) (h9 : k = 9 → x ≤ 1) : IntKind.u64.wrap ((x : Int) % 128 * 2 ^ (7 * k)) = ((x % 128 * 128 ^ k : Nat) : Int) := by
  have h1 := sh_fits hk h9
  have e : ((x : Int) % 128 * 2 ^ (7 * k)) = ((x % 128 * 128 ^ k : Nat) : Int) := by
    rw [← pow7]; simp
  rw [e, IntKind.wrap_u64]
  omega
theorem sum_fits {acc x k : Nat} (hk : k ≤ 9) (hacc : acc < 128 ^ k) (h9 : k = 9 → x ≤ 1) : acc + x % 128 * 128 ^ k < 18446744073709551616 := by
  by_cases h : k = 9
  · subst h; rw [pow9] at *; have := h9 rfl; omega
  · have h1 : x % 128 * 128 ^ k ≤ 127 * 128 ^ k := Nat.mul_le_mul_right _ (by omega)
    have h2 : (128 : Nat) ^ (k + 1) ≤ 128 ^ 9 := Nat.pow_le_pow_right (by omega) (by omega)
    rw [Nat.pow_succ, pow9] at h2
    omega
theorem or_step {acc x k : Nat} (hk : k ≤ 9) (hacc : acc < 128 ^ k) (h9 : k = 9 → x ≤ 1) : bits BinOp.or IntKind.u64 (acc : Int) (IntKind.u64.wrap ((x : Int) % 128 * 2 ^ (7 * k))) = ((acc + x % 128 * 128 ^ k : Nat) : Int) := by
  rw [sh_wrap hk h9, u64_or_nat acc _ (by have := sum_fits hk hacc h9; omega) (sh_fits hk h9)]
  congr 1
  have := nat_join (7 * k) (x % 128 * 128 ^ k) acc (by rw [pow7]; exact Nat.mul_mod_left _ _) (by rw [pow7]; exact hacc)
  rw [Nat.or_comm, this, Nat.add_comm]
theorem next_lt {acc x k : Nat} (hacc : acc < 128 ^ k) : acc + x % 128 * 128 ^ k < 128 ^ (k + 1) := by
  have h1 : x % 128 * 128 ^ k ≤ 127 * 128 ^ k := Nat.mul_le_mul_right _ (by omega)
  rw [Nat.pow_succ]; omega
theorem drop_at {t : List Nat} {k : Nat} (h : k < t.length) : t.drop k = t.getD k 0 :: t.drop (k + 1) := by
  rw [List.drop_eq_getElem_cons h]
  simp [List.getD, h]
theorem getD_mem {t : List Nat} {k : Nat} (h : k < t.length) : t.getD k 0 ∈ t := by simp [List.getD, h]

end Go.Proofs.Ytfdpnfeaagijhaa


namespace Go.Proofs.Ytfdpnfeaagijhaa
open Go.RowKit
set_option linter.unusedVariables false

/-- A reader's block (the program's, and the document's): its bytes, its place, its first error. -/
structure RdAt (T : TypeId) (w : World) (b : Nat) (a : Option Addr) (cap : Nat) (t : List Nat) (s : Rst) : Prop where
  heap : w.heap[b]? = some (.cells #[.slice a t.length cap, .int .i64 (s.pl : Nat), .int .i64 (s.er : Nat)] T)
  text : LAt w a t
  apart : 0 < t.length → ∀ x, a = some x → x.block ≠ b
  hcap : t.length ≤ cap
  nil : a = none → cap = 0
  pl : s.pl ≤ t.length
  er : s.er ≤ 7
  len : t.length ≤ 140737488355328

theorem RdAt.lt {T : TypeId} {w : World} {b : Nat} {a : Option Addr} {cap : Nat} {t : List Nat} {s : Rst} (h : RdAt T w b a cap t s) : b < w.heap.size := lt_of_heap h.heap
theorem RdAt.keep {T : TypeId} {w w' : World} {b : Nat} {a : Option Addr} {cap : Nat} {t : List Nat} {s : Rst} {S : Nat → Prop} (h : RdAt T w b a cap t s) (tc : Touch S w w') (hb : ¬ S b) (ha : 0 < t.length → ∀ x, a = some x → ¬ S x.block) : RdAt T w' b a cap t s :=
  ⟨tc.keep h.heap hb, h.text.keep tc ha, h.apart, h.hcap, h.nil, h.pl, h.er, h.len⟩
theorem RdAt.later {T : TypeId} {w w' : World} {b : Nat} {a : Option Addr} {cap : Nat} {t : List Nat} {s : Rst} (h : RdAt T w b a cap t s) (hb : Below w.heap.size w w') : RdAt T w' b a cap t s := h.keep (Touch.of_below (S := fun _ => False) hb) (fun h => h) (fun _ _ _ h => h)
theorem RdAt.drew {T : TypeId} {w : World} {b : Nat} {a : Option Addr} {cap : Nat} {t : List Nat} {s : Rst} (h : RdAt T w b a cap t s) : RdAt T w.drew b a cap t s := ⟨h.heap, h.text, h.apart, h.hcap, h.nil, h.pl, h.er, h.len⟩
theorem RdAt.drewN {T : TypeId} {w : World} {b : Nat} {a : Option Addr} {cap : Nat} {t : List Nat} {s : Rst} (h : RdAt T w b a cap t s) (n : Nat) : RdAt T (w.drewN n) b a cap t s := ⟨h.heap, h.text, h.apart, h.hcap, h.nil, h.pl, h.er, h.len⟩
theorem touch_drewN {S : Nat → Prop} (w : World) (n : Nat) : Touch S w (w.drewN n) := ⟨rfl, rfl, rfl, Nat.le_refl _, fun _ _ _ => rfl⟩
theorem RdAt.c0 {T : TypeId} {w : World} {b : Nat} {a : Option Addr} {cap : Nat} {t : List Nat} {s : Rst} (h : RdAt T w b a cap t s) : w.cell? ⟨b, 0, none⟩ = some (.slice a t.length cap) := by rw [cell_of h.heap]; rfl
theorem RdAt.c1 {T : TypeId} {w : World} {b : Nat} {a : Option Addr} {cap : Nat} {t : List Nat} {s : Rst} (h : RdAt T w b a cap t s) : w.cell? ⟨b, 1, none⟩ = some (.int .i64 (s.pl : Nat)) := by rw [cell_of h.heap]; rfl
theorem RdAt.c2 {T : TypeId} {w : World} {b : Nat} {a : Option Addr} {cap : Nat} {t : List Nat} {s : Rst} (h : RdAt T w b a cap t s) : w.cell? ⟨b, 2, none⟩ = some (.int .i64 (s.er : Nat)) := by rw [cell_of h.heap]; rfl
theorem RdAt.fz {T : TypeId} {w : World} {b : Nat} {a : Option Addr} {cap : Nat} {t : List Nat} {s : Rst} (h : RdAt T w b a cap t s) (i : Nat) : w.frozen? ⟨b, i, none⟩ = false := frozen_of h.heap i
theorem RdAt.setPl {T : TypeId} {w : World} {b : Nat} {a : Option Addr} {cap : Nat} {t : List Nat} {s : Rst} (h : RdAt T w b a cap t s) {p : Nat} (hp : p ≤ t.length) : RdAt T (w.setCell ⟨b, 1, none⟩ (.int .i64 (p : Nat))) b a cap t ⟨p, s.er⟩ :=
  ⟨by rw [heap_set h.heap]; rfl, h.text.keep (touch_set w b 1 _) h.apart, h.apart, h.hcap, h.nil, hp, h.er, h.len⟩
theorem RdAt.setEr {T : TypeId} {w : World} {b : Nat} {a : Option Addr} {cap : Nat} {t : List Nat} {s : Rst} (h : RdAt T w b a cap t s) {e : Nat} (he : e ≤ 7) : RdAt T (w.setCell ⟨b, 2, none⟩ (.int .i64 (e : Nat))) b a cap t ⟨s.pl, e⟩ :=
  ⟨by rw [heap_set h.heap]; rfl, h.text.keep (touch_set w b 2 _) h.apart, h.apart, h.hcap, h.nil, h.pl, he, h.len⟩

theorem stop_no {a : Option Addr} {cap b : Nat} {t : List Nat} {s : Rst} (w : World) (h : RdAt 112 w b a cap t s) (he : s.er = 0) :
    Calls Try.prog 58 #[.pointer (some ⟨b, 0, none⟩)] w fun e w' => e = .returned (.bool false) ∧ w' = w := by
  have c2 := h.c2
  rw [he] at c2
  clear h
  go_enter Try.func58, Try.ntmps58
  go_wp2
  go_returns
  exact ⟨rfl, rfl⟩
theorem stop_yes {a : Option Addr} {cap b : Nat} {t : List Nat} {s : Rst} (w : World) (h : RdAt 112 w b a cap t s) (he : s.er ≠ 0) :
    Calls Try.prog 58 #[.pointer (some ⟨b, 0, none⟩)] w fun e w' => e = .returned (.bool true) ∧ w' = w := by
  have c2 := h.c2
  clear h
  generalize s.er = z at *
  have hz : ((z : Int) == 0) = false := by simp; omega
  have hz' : ¬ ((z : Int) = 0) := by omega
  go_enter Try.func58, Try.ntmps58
  go_wp2
  go_returns
  exact ⟨by simp [he], rfl⟩

end Go.Proofs.Ytfdpnfeaagijhaa
