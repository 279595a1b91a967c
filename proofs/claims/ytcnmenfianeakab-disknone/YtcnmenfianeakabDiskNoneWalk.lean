/-
  DiskNone walked: it answers true. No conditions.
-/
import Derived.Test.YtcnmenfianeakabAw5
import Derived.Test.YtcnmenfianeakabDn5
import Derived.Test.YtcnmenfianeakabPay5
namespace Go.Proofs.Ytcnmenfianeakab
open Go.RowKit
set_option linter.unusedVariables false

set_option maxRecDepth 100000 in
set_option maxHeartbeats 4000000 in
theorem diskNone_walk (o : Op5) (w : World) :
    Calls Try.prog 5 #[.agg #[.int .i64 o.kind, .string o.nm, .string o.to, .slice o.a o.l.length o.cap, .int .i64 o.n]] w fun e w' => e = .returned (.bool true) ∧ Below w.heap.size w w' := by
  obtain ⟨kd, nm, to, a, l, cap, n⟩ := o
  simp only
  have B0 : Hid (Below w.heap.size w (w.alloc (.cells #[.int .i64 kd, .string nm, .string to, .slice a l.length cap, .int .i64 n] 42))) := (Below.refl _ _).alloc (Nat.le_refl _) _
  generalize l.length = L at *
  go_enter Try.func5, Try.ntmps5
  go_wp2_with fail
  refine (dread_nil nm _).mono ?_
  rintro e w1 ⟨rfl, rfl⟩
  go_wp2_with fail
  refine (dsize_nil nm _).mono ?_
  rintro e w1 ⟨rfl, rfl⟩
  go_wp2_with fail
  refine (darm_nil n _).mono ?_
  rintro e w1 ⟨rfl, rfl⟩
  go_wp2_with fail
  refine (dcrash_nil n _).mono ?_
  rintro e w1 ⟨rfl, rfl⟩
  have c1 : (w.alloc (.cells #[.int .i64 kd, .string nm, .string to, .slice a L cap, .int .i64 n] 42)).heap[w.heap.size]? = some (.cells #[.int .i64 kd, .string nm, .string to, .slice a L cap, .int .i64 n] 42) := heap_new _ _
  have C1 := hide c1
  clear c1
  generalize hw1 : w.alloc (.cells #[.int .i64 kd, .string nm, .string to, .slice a L cap, .int .i64 n] 42) = w1 at *
  clear hw1
  go_wp2_with fail
  refine (awake5_any w1).mono ?_
  rintro e w2 ⟨rfl, b2⟩
  have hc := below_keep b2 (unhide C1)
  have d1 : w2.cell? ⟨w.heap.size, 1, none⟩ = some (.string nm) := cell_of hc 1
  have d2 : w2.cell? ⟨w.heap.size, 2, none⟩ = some (.string to) := cell_of hc 2
  have d3 : w2.cell? ⟨w.heap.size, 3, none⟩ = some (.slice a L cap) := cell_of hc 3
  have d4 : w2.cell? ⟨w.heap.size, 4, none⟩ = some (.int .i64 n) := cell_of hc 4
  have B2 := hide ((unhide B0).trans (b2.mono (unhide B0).size))
  clear b2 hc C1 B0
  go_wp2_with fail
  refine (dappend_nil nm a L cap _).mono ?_
  rintro e w3 ⟨rfl, rfl⟩
  go_wp2_with fail
  refine (dsync_nil nm _).mono ?_
  rintro e w3 ⟨rfl, rfl⟩
  go_wp2_with fail
  refine (dcut_nil nm n _).mono ?_
  rintro e w3 ⟨rfl, rfl⟩
  go_wp2_with fail
  refine (dremove_nil nm _).mono ?_
  rintro e w3 ⟨rfl, rfl⟩
  go_wp2_with fail
  refine (drename_nil nm to _).mono ?_
  rintro e w3 ⟨rfl, rfl⟩
  go_wp2_with fail
  refine (dnames_nil _).mono ?_
  rintro e w3 ⟨rfl, rfl⟩
  go_wp2_with fail
  refine (ddead_nil _).mono ?_
  rintro e w3 ⟨rfl, rfl⟩
  go_wp2
  go_returns
  exact ⟨rfl, unhide B2⟩
end Go.Proofs.Ytcnmenfianeakab
