/-
  codec.Reader's calls, by the plain functions on lists. Conditions: the bytes are at most 2^47.
-/
import Derived.Test.YtcnmenfianeakacRd0
import Derived.Deep.RegionHeld3
import Derived.BigQuiet
namespace Go.Proofs.Ytcnmenfianeakac
open Go.RowKit
set_option linter.unusedVariables false

/-- A reader's block (the program's, and the document's): its bytes, its place, its first error. -/
structure RdAt (T : TypeId) (w : World) (b : Nat) (a : Option Addr) (cap : Nat) (t : List Nat) (s : Rst) : Prop where
  heap : w.heap[b]? = some (.cells #[.slice a t.length cap, .int .i64 (s.pl : Nat), .int .i64 (s.er : Nat)] T)
  text : LAt w a t
  apart : 0 < t.length → ∀ x, a = some x → x.block ≠ b
  hcap : t.length ≤ cap
  nil : a = none → cap = 0
  pl : s.pl ≤ t.length
  er : s.er ≤ 7
  len : t.length ≤ 140737488355328

theorem RdAt.lt {T : TypeId} {w : World} {b : Nat} {a : Option Addr} {cap : Nat} {t : List Nat} {s : Rst} (h : RdAt T w b a cap t s) : b < w.heap.size := lt_of_heap h.heap
theorem RdAt.keep {T : TypeId} {w w' : World} {b : Nat} {a : Option Addr} {cap : Nat} {t : List Nat} {s : Rst} {S : Nat → Prop} (h : RdAt T w b a cap t s) (tc : Touch S w w') (hb : ¬ S b) (ha : 0 < t.length → ∀ x, a = some x → ¬ S x.block) : RdAt T w' b a cap t s :=
  ⟨tc.keep h.heap hb, h.text.keep tc ha, h.apart, h.hcap, h.nil, h.pl, h.er, h.len⟩
theorem RdAt.later {T : TypeId} {w w' : World} {b : Nat} {a : Option Addr} {cap : Nat} {t : List Nat} {s : Rst} (h : RdAt T w b a cap t s) (hb : Below w.heap.size w w') : RdAt T w' b a cap t s := h.keep (Touch.of_below (S := fun _ => False) hb) (fun h => h) (fun _ _ _ h => h)
theorem RdAt.drew {T : TypeId} {w : World} {b : Nat} {a : Option Addr} {cap : Nat} {t : List Nat} {s : Rst} (h : RdAt T w b a cap t s) : RdAt T w.drew b a cap t s := ⟨h.heap, h.text, h.apart, h.hcap, h.nil, h.pl, h.er, h.len⟩
theorem RdAt.drewN {T : TypeId} {w : World} {b : Nat} {a : Option Addr} {cap : Nat} {t : List Nat} {s : Rst} (h : RdAt T w b a cap t s) (n : Nat) : RdAt T (w.drewN n) b a cap t s := ⟨h.heap, h.text, h.apart, h.hcap, h.nil, h.pl, h.er, h.len⟩
theorem touch_drewN {S : Nat → Prop} (w : World) (n : Nat) : Touch S w (w.drewN n) := ⟨rfl, rfl, rfl, Nat.le_refl _, fun _ _ _ => rfl⟩
theorem RdAt.c0 {T : TypeId} {w : World} {b : Nat} {a : Option Addr} {cap : Nat} {t : List Nat} {s : Rst} (h : RdAt T w b a cap t s) : w.cell? ⟨b, 0, none⟩ = some (.slice a t.length cap) := by rw [cell_of h.heap]; rfl
theorem RdAt.c1 {T : TypeId} {w : World} {b : Nat} {a : Option Addr} {cap : Nat} {t : List Nat} {s : Rst} (h : RdAt T w b a cap t s) : w.cell? ⟨b, 1, none⟩ = some (.int .i64 (s.pl : Nat)) := by rw [cell_of h.heap]; rfl
theorem RdAt.c2 {T : TypeId} {w : World} {b : Nat} {a : Option Addr} {cap : Nat} {t : List Nat} {s : Rst} (h : RdAt T w b a cap t s) : w.cell? ⟨b, 2, none⟩ = some (.int .i64 (s.er : Nat)) := by rw [cell_of h.heap]; rfl
theorem RdAt.fz {T : TypeId} {w : World} {b : Nat} {a : Option Addr} {cap : Nat} {t : List Nat} {s : Rst} (h : RdAt T w b a cap t s) (i : Nat) : w.frozen? ⟨b, i, none⟩ = false := frozen_of h.heap i
theorem RdAt.setPl {T : TypeId} {w : World} {b : Nat} {a : Option Addr} {cap : Nat} {t : List Nat} {s : Rst} (h : RdAt T w b a cap t s) {p : Nat} (hp : p ≤ t.length) : RdAt T (w.setCell ⟨b, 1, none⟩ (.int .i64 (p : Nat))) b a cap t ⟨p, s.er⟩ :=
  ⟨by rw [heap_set h.heap]; rfl, h.text.keep (touch_set w b 1 _) h.apart, h.apart, h.hcap, h.nil, hp, h.er, h.len⟩
theorem RdAt.setEr {T : TypeId} {w : World} {b : Nat} {a : Option Addr} {cap : Nat} {t : List Nat} {s : Rst} (h : RdAt T w b a cap t s) {e : Nat} (he : e ≤ 7) : RdAt T (w.setCell ⟨b, 2, none⟩ (.int .i64 (e : Nat))) b a cap t ⟨s.pl, e⟩ :=
  ⟨by rw [heap_set h.heap]; rfl, h.text.keep (touch_set w b 2 _) h.apart, h.apart, h.hcap, h.nil, h.pl, he, h.len⟩

theorem stop_no {a : Option Addr} {cap b : Nat} {t : List Nat} {s : Rst} (w : World) (h : RdAt 115 w b a cap t s) (he : s.er = 0) :
    Calls Try.prog 61 #[.pointer (some ⟨b, 0, none⟩)] w fun e w' => e = .returned (.bool false) ∧ w' = w := by
  have c2 := h.c2
  rw [he] at c2
  clear h
  go_enter Try.func61, Try.ntmps61
  go_wp2
  go_returns
  exact ⟨rfl, rfl⟩
theorem stop_yes {a : Option Addr} {cap b : Nat} {t : List Nat} {s : Rst} (w : World) (h : RdAt 115 w b a cap t s) (he : s.er ≠ 0) :
    Calls Try.prog 61 #[.pointer (some ⟨b, 0, none⟩)] w fun e w' => e = .returned (.bool true) ∧ w' = w := by
  have c2 := h.c2
  clear h
  generalize s.er = z at *
  have hz : ((z : Int) == 0) = false := by simp; omega
  have hz' : ¬ ((z : Int) = 0) := by omega
  go_enter Try.func61, Try.ntmps61
  go_wp2
  go_returns
  exact ⟨by simp [he], rfl⟩

end Go.Proofs.Ytcnmenfianeakac
