/-
  ProdNone's walk: what there isn't knows nothing. No conditions.
-/
import Derived.Test.YteadebnkmnkpnabAw9
import Derived.Test.YteadebnkmnkpnabNl9
namespace Go.Proofs.Yteadebnkmnkpnab
open Go.RowKit
set_option linter.unusedVariables false

set_option maxRecDepth 100000 in
set_option maxHeartbeats 2000000 in
theorem prodNone_walk (b : Bt) (a : Option Addr) (cap : Nat) (n : Int) (w : World) :
    Calls Try.prog 3 #[bv b a cap, .int .i64 n] w fun e w' => e = .returned (.bool true) ∧ Below w.heap.size w w' := by
  have PN : Hid (∀ W, Calls Try.prog 4 #[.pointer none, bv b a cap] W fun e w' => AnsPost W (.tuple #[]) e w') := fun W => apply_nil b a cap W
  have CN : Hid (∀ W, Calls Try.prog 5 #[.pointer none, bv b a cap] W fun e w' => AnsPost W (.tuple #[.int .i64 0, .bool false, .int .i64 5]) e w') := fun W => check_nil b a cap W
  have BX : Hid (Box (w.alloc (.cells #[.int .i64 b.base, .int .i64 b.epoch, .int .u64 (b.pid : Int), .int .i64 b.pep, .int .i64 b.seq, .bool b.txn, .bool b.ctl, .bool b.com, .slice a b.vs.length cap] 25)) w.heap.size b a cap) := Box.new w b a cap
  have BA : Hid (Below w.heap.size w (w.alloc (.cells #[.int .i64 b.base, .int .i64 b.epoch, .int .u64 (b.pid : Int), .int .i64 b.pep, .int .i64 b.seq, .bool b.txn, .bool b.ctl, .bool b.com, .slice a b.vs.length cap] 25))) := (Below.refl _ _).alloc (Nat.le_refl _) _
  obtain ⟨base, epoch, pid, pep, seq, txn, ctl, com, vs⟩ := b
  simp only at BX BA PN CN ⊢
  obtain ⟨k0, k1, k2, k3, k4, k5, k6, k7, k8⟩ := (unhide BX).cells
  simp only at k0 k1 k2 k3 k4 k5 k6 k7 k8
  go_enter Try.func3, Try.ntmps3
  go_wp2_with fail
  generalize w.alloc (.cells #[.int .i64 base, .int .i64 epoch, .int .u64 (pid : Int), .int .i64 pep, .int .i64 seq, .bool txn, .bool ctl, .bool com, .slice a vs.length cap] 25) = W at *
  refine (unhide PN W).mono ?_
  rintro e w1 ⟨rfl, b1⟩
  have BX1 := hide ((unhide BX).later b1)
  have B1 := hide ((unhide BA).trans (b1.mono (unhide BA).size))
  clear b1 BX BA PN k0 k1 k2 k3 k4 k5 k6 k7 k8
  obtain ⟨k0, k1, k2, k3, k4, k5, k6, k7, k8⟩ := (unhide BX1).cells
  simp only at k0 k1 k2 k3 k4 k5 k6 k7 k8
  go_wp2_with fail
  refine (unhide CN w1).mono ?_
  rintro e w2 ⟨rfl, b2⟩
  have BX2 := hide ((unhide BX1).later b2)
  have B2 := hide ((unhide B1).trans (b2.mono (unhide B1).size))
  clear b2 BX1 B1 CN k0 k1 k2 k3 k4 k5 k6 k7 k8
  obtain ⟨k0, k1, k2, k3, k4, k5, k6, k7, k8⟩ := (unhide BX2).cells
  simp only at k2
  clear k0 k1 k3 k4 k5 k6 k7 k8
  go_wp2_with fail
  refine (known_nil (pid : Int) w2).mono ?_
  rintro e w3 ⟨rfl, rfl⟩
  clear k2 BX2
  go_wp2_with fail
  refine (unstable_nil w3).mono ?_
  rintro e w4 ⟨rfl, rfl⟩
  have AW := hide (awake9_any w4)
  go_wp2_with fail
  refine (unhide AW).mono ?_
  rintro e w5 ⟨rfl, b5⟩
  have B5 := hide ((unhide B2).trans (b5.mono (unhide B2).size))
  clear b5 AW B2
  go_wp2_with fail
  refine (aborts_nil n n w5).mono ?_
  rintro e w6 ⟨rfl, rfl⟩
  go_wp2_with fail
  refine (pids_nil w6).mono ?_
  rintro e w7 ⟨rfl, rfl⟩
  go_wp2
  go_returns
  exact ⟨rfl, unhide B5⟩
end Go.Proofs.Yteadebnkmnkpnab
