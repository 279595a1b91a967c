/-
  Trace of a client; settings of one client. Conditions: the client as it lies; lengths as memory allows them.
-/
import Derived.Test.YtbonlonkienhaaaCs10
namespace Go.Proofs.Ytbonlonkienhaaa
open Go.RowKit
set_option linter.unusedVariables false

theorem wide_none {w : World} {e : TypeId} {m n k : Nat} {a : Option Addr} {xs : List Value} (h : Wide w e m (.slice a n k) n xs) : a = none → k = 0 := by
  obtain ⟨a', cap, ev, _, _, h0, _⟩ := h.parts
  injection ev with e1 e2 e3
  subst e1 e3
  exact h0
set_option maxRecDepth 100000 in
theorem trace_any {w : World} {b : Nat} {c : Cl} (h : ClAt w b c) (hl : c.tr.length ≤ 4097) :
    Calls Try.prog 12 #[.pointer (some ⟨b, 0, none⟩)] w fun e w' => ClR cellsSn 7 43 w c.tr e w' := by
  have K := hide (seen_clone (RowsP.of_wide (f := cellsSn) (m := 7) (fun _ => rfl) h.tr (by decide)) (wide_none h.tr) (by omega))
  have y11 : w.cell? ⟨b, 11, none⟩ = some (.slice c.ta c.tr.length c.tc) := cell_of h.cl 11
  clear h hl
  go_enter Try.func12, Try.ntmps12
  go_wp2_with fail
  refine (unhide K).mono ?_
  rintro e w2 ⟨a, k, rfl, r, n, bl⟩
  have FF : Hid (ClR cellsSn 7 43 w c.tr (.returned (.slice a c.tr.length k)) w2) := hide ⟨a, k, rfl, r, n, bl⟩
  clear r n bl K y11
  go_wp2
  go_returns
  exact unhide FF
def OneP (w : World) (v : Value) (e : Ending) (w' : World) : Prop := ∃ g, e = .returned (.agg #[.int .i64 1, .int .i64 1, .int .i64 1, .slice (some ⟨g, 0, none⟩) 1 1]) ∧ w'.heap[g]? = some (.cells #[.int .i64 0, v] 69) ∧ Below w.heap.size w w' ∧ w.heap.size ≤ g
theorem res_one {Y : World} {g : Nat} {l : List Value} {tmps : Array Value} (h : Y.heap[g]? = some (.cells l.toArray 24)) (hl : l.length = 4) (ht : tmps[2]?.getD undef = .pointer (some ⟨g, 0, none⟩)) :
    (results Try.f10 tmps).run Try.prog Y = .ok (.agg l.toArray) Y := by
  have hi : (Try.prog.info? 24).map (·.size) = some l.length := by rw [hl]; kernel_rfl
  have hlv := run_loadVar_mid (P := Try.prog) Y g 0 24 l _ (range_of h (fun j v hv => by rw [Nat.zero_add]; exact hv)) Try.underlying24 rfl hi
  simp [results, Try.results10, ht, asAddr, hlv]
set_option maxRecDepth 100000 in
set_option maxHeartbeats 4000000 in
theorem one_any (w : World) (a : Option Addr) (n k : Nat) :
    Calls Try.prog 10 #[.slice a n k] w fun e w' => OneP w (.slice a n k) e w' := by
  go_enter Try.func10, Try.ntmps10
  go_wp2_with fail
  refine bodyPost_ret (res_one (g := w.heap.size) (l := [.int .i64 1, .int .i64 1, .int .i64 1, .slice (some ⟨w.heap.size + 1, 0, none⟩) 1 1]) (heap_old _ (heap_new _ _)) rfl rfl) rfl ?_
  refine ⟨w.heap.size + 1, rfl, ?_, ((Below.refl _ _).alloc (Nat.le_refl _) _).alloc (by simp) _, by omega⟩
  have e := heap_new (w.alloc (.cells #[.int .i64 1, .int .i64 1, .int .i64 1, .slice (some ⟨w.heap.size + 1, 0, none⟩) 1 1] 24)) (.cells #[.int .i64 0, .slice a n k] 69)
  simpa using e
/-- The settings that 'one' lays are read as they are meant. -/
def oneC (g : Nat) (a : Option Addr) (k : Nat) (os : List Po) : Cf := ⟨1, 1, 1, some ⟨g, 0, none⟩, 1, [⟨0, a, k, os⟩]⟩
theorem one_in {w : World} {g : Nat} {a : Option Addr} {k : Nat} {os : List Po} (h : w.heap[g]? = some (.cells #[.int .i64 0, .slice a os.length k] 69)) (hr : RowsP cellsPo 5 w a os) (hl : os.length ≤ 64) : CfIn w (oneC g a k os) := by
  refine ⟨fun i hi => ?_, by show (1 : Nat) ≤ maxLen; unfold maxLen; omega, fun p hp => ?_⟩
  · obtain rfl : i = 0 := by simpa [oneC] using hi
    exact ⟨g, 0, rfl, lt_of_heap h, fun j hj => by rw [show 0 + 0 * 2 + j = j by omega, cell_of h]; simp [oneC, cellsPg]⟩
  · obtain rfl : p = ⟨0, a, k, os⟩ := by simpa [oneC] using hp
    exact ⟨hr, by show os.length ≤ maxLen; unfold maxLen; omega⟩
end Go.Proofs.Ytbonlonkienhaaa
