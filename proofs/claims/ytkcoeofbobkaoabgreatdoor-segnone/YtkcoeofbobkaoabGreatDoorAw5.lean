/-
  A disk beside what a law was given; 'awake' of layer 5. No conditions.
-/
import Derived.Test.YtkcoeofbobkaoabGreatDoorDk6
import Derived.Lib.SlBytesConst
import Derived.Laws.IdiomStrings

namespace Go.Proofs.YtkcoeofbobkaoabGreatDoor
open Go.RowKit Go.Maps
set_option linter.unusedVariables false

/-- A disk of the call's own: all its blocks are new since w0, and nothing old has turned. -/
structure Ds (w0 w : World) (db : Nat) (S : Nat → Prop) (d : Dk) : Prop where
  disk : Disky w db S d
  base : ∀ k, S k → w0.heap.size ≤ k
  below : Below w0.heap.size w0 w
theorem Ds.went {w0 w w' : World} {db : Nat} {S : Nat → Prop} {d d' : Dk} (h : Ds w0 w db S d) (g : Went w w' db S d') : ∃ S', Ds w0 w' db S' d' ∧ (∀ k, S' k → S k ∨ w.heap.size ≤ k) ∧ Touch S w w' := by
  obtain ⟨S', g1, g2, g3⟩ := g
  exact ⟨S', ⟨g1, fun k hk => by rcases g3 k hk with e | e; exact h.base k e; exact Nat.le_trans h.below.size e, below_touch h.below g2 h.below.size h.base⟩, g3, g2⟩
theorem Ds.later {w0 w w' : World} {db : Nat} {S : Nat → Prop} {d : Dk} (h : Ds w0 w db S d) (hb : Below w.heap.size w w') : Ds w0 w' db S d :=
  ⟨h.disk.keep (Touch.of_below (S := fun _ => False) hb) (fun _ _ h => h), h.base, h.below.trans (hb.mono h.below.size)⟩
theorem Ds.drewN {w0 w : World} {db : Nat} {S : Nat → Prop} {d : Dk} (h : Ds w0 w db S d) (n : Nat) : Ds w0 (w.drewN n) db S d := h.later ⟨rfl, rfl, rfl, Nat.le_refl _, fun _ _ => rfl⟩
theorem Ds.new {w w' : World} (g : Went w w' w.heap.size (fun _ => False) ⟨[], false, 0, false⟩) : ∃ S, Ds w w' w.heap.size S ⟨[], false, 0, false⟩ := by
  obtain ⟨S', g1, g2, g3⟩ := g
  exact ⟨S', g1, fun k hk => by rcases g3 k hk with e | e; exact e.elim; exact e, ⟨g2.os, g2.tape, g2.output, g2.size, fun k hk => g2.block k hk (fun h => h)⟩⟩

/-- A constant's bytes, in a block of their own. -/
theorem LAt.const (w : World) (l : List Nat) (h : ∀ x ∈ l, x < 256) (cs : Array Value) (hcs : cs.toList = vals l) (fr : Nat × Nat) : LAt (w.alloc (.cells cs 5 fr)) (some ⟨w.heap.size, 0, none⟩) l := by
  intro i hi
  refine ⟨w.heap.size, 0, rfl, by simp, ?_, ?_⟩
  · rw [cell_of' (heap_new _ _), Nat.zero_add, ← Array.getElem?_toList, hcs]
    exact vals_at hi
  · have : l.getD i 0 = l[i] := by simp [List.getD, hi]
    show l.getD i 0 < 256
    rw [this]
    exact h _ (List.getElem_mem hi)

section
variable {w0 w : World} {db : Nat} {S : Nat → Prop} {d : Dk} {s : ByteArray}
/-- Append of bytes that are none of the disk's. -/
theorem cappend (h : Ds w0 w db S d) (hs : s.size ≤ maxLen) {a : Option Addr} {cap : Nat} {b : List Nat} (hb : LAt w a b) (hn : a = none → cap = 0) (hc : b.length ≤ cap) (hd : 0 < b.length → ∀ x, a = some x → ¬ S x.block) :
    Calls Tryz.prog 11 #[.pointer (some ⟨db, 0, none⟩), .string s, .slice a b.length cap] w fun e w' => e = .returned (.int .i64 (apE d s b.length : Nat)) ∧ ∃ S', Ds w0 w' db S' (apD d s b) ∧ (∀ k, S' k → S k ∨ w.heap.size ≤ k) ∧ Touch S w w' := by
  refine (dappend_any h.disk hs hb hn hc hd).mono ?_
  rintro e w' ⟨he, g⟩
  exact ⟨he, h.went g⟩
/-- .. of a constant. -/
theorem cappend_const (h : Ds w0 w db S d) (hs : s.size ≤ maxLen) (l : List Nat) (hl : ∀ x ∈ l, x < 256) (cs : Array Value) (hcs : cs.toList = vals l) (fr : Nat × Nat) (n : Nat) (hn : l.length = n) :
    Calls Tryz.prog 11 #[.pointer (some ⟨db, 0, none⟩), .string s, .slice (some ⟨w.heap.size, 0, none⟩) n n] (w.alloc (.cells cs 5 fr)) fun e w' => e = .returned (.int .i64 (apE d s n : Nat)) ∧ ∃ S', Ds w0 w' db S' (apD d s l) := by
  subst hn
  have hbl : Below w.heap.size w (w.alloc (.cells cs 5 fr)) := (Below.refl _ _).alloc (Nat.le_refl _) _
  refine (cappend (h.later hbl) hs (LAt.const w l hl cs hcs fr) (fun h => by cases h) (Nat.le_refl _) (fun _ x hx hk => ?_)).mono ?_
  · cases hx
    have := h.disk.lt _ hk
    simp at this
  · rintro e w' ⟨he, S', h1, _⟩
    exact ⟨he, S', h1⟩
theorem csync (h : Ds w0 w db S d) (hs : s.size ≤ maxLen) :
    Calls Tryz.prog 87 #[.pointer (some ⟨db, 0, none⟩), .string s] w fun e w' => e = .returned (.int .i64 (findE d.dead d.fs s : Nat)) ∧ ∃ S', Ds w0 w' db S' (syD d s) := by
  refine (dsync_any h.disk hs).mono ?_
  rintro e w' ⟨he, g⟩
  obtain ⟨S', h1, _⟩ := h.went g
  exact ⟨he, S', h1⟩
theorem ccrash (h : Ds w0 w db S d) (n : Int) :
    Calls Tryz.prog 34 #[.pointer (some ⟨db, 0, none⟩), .int .i64 n] w fun e w' => e = .returned (.tuple #[]) ∧ ∃ S', Ds w0 w' db S' (crD (u64N n) d) := by
  refine (dcrash_any h.disk n).mono ?_
  rintro e w' ⟨he, g⟩
  obtain ⟨S', h1, _⟩ := h.went g
  exact ⟨he, S', h1⟩
end

theorem size_one (c : UInt8) : (⟨#[c]⟩ : ByteArray).size ≤ maxLen := by unfold maxLen; show 1 ≤ _; decide

end Go.Proofs.YtkcoeofbobkaoabGreatDoor
