/-
  WalNone. Conditions: the name is at most maxLen bytes.
-/
import Derived.Test.YtcnmenfianeakacAw6
namespace Go.Proofs.Ytcnmenfianeakac
open Go.RowKit
set_option linter.unusedVariables false

theorem below_of_touch {w w' : World} (t : Touch (fun _ => False) w w') : Below w.heap.size w w' := ⟨t.os, t.tape, t.output, t.size, fun k hk => t.block k hk (fun h => h)⟩

set_option maxRecDepth 100000 in
set_option maxHeartbeats 2000000 in
theorem walNone_walk (s : ByteArray) (a : Option Addr) (n cap : Nat) (w : World) :
    Calls Try.prog 5 #[.string s, .slice a n cap] w fun e w' => e = .returned (.bool true) ∧ Below w.heap.size w w' := by
  have O1 := hide (wopen_err (w := w) (p := none) (s := s) 5 (by omega) (fun w' => Below w.heap.size w w') (fun w1 t => by
    refine (dappend_nil s none 0 0 w1).mono ?_
    rintro e w' ⟨rfl, rfl⟩
    exact ⟨rfl, below_of_touch t⟩))
  go_enter Try.func5, Try.ntmps5
  go_wp2_with fail
  refine (unhide O1).mono ?_
  rintro e w1 ⟨rfl, b1⟩
  have B1 := hide b1
  clear b1 O1
  go_wp2_with fail
  refine (dnew_any w1).mono ?_
  rintro e w2 ⟨rfl, g2⟩
  obtain ⟨S2, ds2⟩ := Ds.new g2
  have e0 : apE ⟨[], false, 0, false⟩ ⟨#[]⟩ 0 = 1 := by decide
  have O2 := hide (wopen_err (w := w2) (p := some ⟨w1.heap.size, 0, none⟩) (s := ⟨#[]⟩) 1 (by omega) (fun w' => Below w1.heap.size w1 w') (fun wx t => by
    have := dappend_any (s := ⟨#[]⟩) (b := []) (a := none) (cap := 0) (ds2.disk.keep t (fun _ _ h => h)) (by unfold maxLen; show 0 ≤ _; exact Nat.zero_le _) (fun i hi => by cases hi) (fun _ => rfl) (Nat.le_refl _) (fun h => by cases h)
    refine this.mono ?_
    rintro e w' ⟨he, S', d', t', m'⟩
    have e0' : apE ⟨[], false, 0, false⟩ ⟨#[]⟩ ([] : List Nat).length = 1 := e0
    rw [e0'] at he
    exact ⟨he, below_touch (ds2.below.trans ((below_of_touch t).mono ds2.below.size)) t' (Nat.le_trans ds2.below.size t.size) ds2.base⟩))
  clear ds2 g2 e0
  go_wp2_with fail
  refine (unhide O2).mono ?_
  rintro e w3 ⟨rfl, b3⟩
  have B3 := hide ((unhide B1).trans (b3.mono (unhide B1).size))
  clear b3 O2
  go_wp2_with fail
  refine (awake6_any w3).mono ?_
  rintro e w4 ⟨rfl, b4⟩
  have B4 := hide ((unhide B3).trans (b4.mono (unhide B3).size))
  clear b4 B3 B1
  go_wp2_with fail
  refine (wappend_nil _ w4).mono ?_
  rintro e w5 ⟨rfl, rfl⟩
  go_wp2_with fail
  refine (wsync_nil w5).mono ?_
  rintro e w6 ⟨rfl, rfl⟩
  go_wp2_with fail
  refine (wrewrite_nil _ _).mono ?_
  rintro e w7 ⟨rfl, rfl⟩
  go_wp2_with fail
  refine (wcount_nil _).mono ?_
  rintro e w8 ⟨rfl, rfl⟩
  go_wp2
  go_returns
  exact ⟨by simp, (unhide B4).trans ((Below.refl _ _).alloc (unhide B4).size _)⟩
end Go.Proofs.Ytcnmenfianeakac
