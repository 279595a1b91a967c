/-
  group's awake and Owner, the document's Owner. Conditions: the members as they lie.
-/
import Derived.Test.YtjleplggfhdmiaaGr0
namespace Go.Proofs.Ytjleplggfhdmiaa
open Go.RowKit Go.Maps
set_option linter.unusedVariables false

set_option maxRecDepth 100000 in
set_option maxHeartbeats 2000000 in
theorem gawake_any (w : World) : Calls Try.prog 9 #[] w fun e w' => e = .returned (.bool true) ∧ Below w.heap.size w w' := by
  have KN := hide (gnew_any w)
  have H0 := hide (heap_new w (.cells #[.map none, .map none] 56))
  have B0 : Hid (Below w.heap.size w (w.alloc (.cells #[.map none, .map none] 56))) := (Below.refl _ _).alloc (Nat.le_refl _) _
  go_enter Try.func9, Try.ntmps9
  go_wp2_with fail
  refine (unhide KN).mono ?_
  rintro e w1 ⟨rfl, rfl⟩
  generalize w.alloc (.cells #[.map none, .map none] 56) = W1 at *
  have KJ := hide (join_new (unhide H0) 2 (by decide))
  clear KN
  go_wp2_with fail
  refine (unhide KJ).mono ?_
  rintro e w2 ⟨sa, c, rfl, i2, b2⟩
  have bA : Below w2.heap.size w2 (w2.alloc (.cells #[.int .i64 1, .int .i64 0, .int .i64 1, .slice sa 1 c, .int .i64 0, .int .i64 0] 37)) := (Below.refl _ _).alloc (Nat.le_refl _) _
  obtain ⟨ia, ic, ie, iI, _⟩ := (i2.later bA).iat
  injection ie with ie1 ie2 ie3
  obtain ⟨gb, go, hg, _, hc⟩ := iI 0 (by simp)
  have hsa : sa = some ⟨gb, go, none⟩ := ie1.trans hg
  have hc' : (w2.alloc (.cells #[.int .i64 1, .int .i64 0, .int .i64 1, .slice sa 1 c, .int .i64 0, .int .i64 0] 37)).cell? ⟨gb, go, none⟩ = some (.int .i64 2) := hc
  have BB : Hid (Below w.heap.size w (w2.alloc (.cells #[.int .i64 1, .int .i64 0, .int .i64 1, .slice sa 1 c, .int .i64 0, .int .i64 0] 37))) := ((unhide B0).trans (b2.mono (unhide B0).size)).alloc (Nat.le_trans (unhide B0).size b2.size) _
  clear KJ i2 b2 bA iI hc ie1 ie2 ie3 hg H0 B0
  subst hsa
  go_wp2
  go_ret
  exact ⟨rfl, unhide BB⟩
theorem tmod_nat (k n : Nat) : ((k : Int)).tmod (n : Int) = ((k % n : Nat) : Int) := by
  rw [Int.tmod_eq_emod_of_nonneg (by omega)]; simp
theorem owner_some {w : World} {a : Option Addr} {l : List Int} {c : Nat} (h : IAt w a l) (h0 : 0 < l.length) (hl : l.length ≤ 9223372036854775807) (k : Nat) :
    Calls Try.prog 22 #[.slice a l.length c, .int .i64 (k : Int)] w fun e w' => e = .returned (.int .i64 (l.getD (k % l.length) 0)) ∧ w' = w := by
  obtain ⟨b, off, ha, _, hc⟩ := h (k % l.length) (Nat.mod_lt _ h0)
  have hm := tmod_nat k l.length
  have hml := Nat.mod_lt k h0
  generalize l.getD (k % l.length) 0 = x at *
  generalize k % l.length = r at *
  generalize l.length = n at *
  subst ha
  have n0 : ¬ (n : Int) = 0 := by omega
  have n1 : ((n : Int) == 0) = false := by simpa using n0
  have k0 : ¬ (k : Int) < 0 := by omega
  have r0 : (0 : Int) ≤ (r : Int) := by omega
  have r1 : (r : Int) < (n : Int) := by omega
  clear h
  go_enter Try.func22, Try.ntmps22
  go_wp2
  go_ret
  exact ⟨rfl, rfl⟩
theorem owner_none (w : World) (a : Option Addr) (c : Nat) (k : Int) : Calls Try.prog 22 #[.slice a 0 c, .int .i64 k] w fun e w' => e = .returned (.int .i64 (-1)) ∧ w' = w := by
  go_enter Try.func22, Try.ntmps22
  go_wp2
  go_ret
  exact ⟨rfl, rfl⟩
theorem owner_neg (w : World) (a : Option Addr) (n c : Nat) (k : Int) (hk : k < 0) : Calls Try.prog 22 #[.slice a n c, .int .i64 k] w fun e w' => e = .returned (.int .i64 (-1)) ∧ w' = w := by
  by_cases h0 : n = 0
  · subst h0; exact owner_none w a c k
  · have n0 : ¬ (n : Int) = 0 := by omega
    have n1 : ((n : Int) == 0) = false := by simpa using n0
    go_enter Try.func22, Try.ntmps22
    go_wp2
    go_ret
    exact ⟨rfl, rfl⟩
end Go.Proofs.Ytjleplggfhdmiaa
