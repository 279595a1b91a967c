/-
  A table of producers, any: Check, Known. Conditions: none but the table's own; a producer's number below 2^64.
-/
import Derived.Test.YtjocjnjdmmihnaaQe9
namespace Go.Proofs.Ytjocjnjdmmihnaa
open Go.RowKit
set_option linter.unusedVariables false

section
variable {w W W' : World} {tb n c : Nat} {mv av : Value} {m : Pps} {K : Nat → Option Kn} {R S : Nat → Prop} {b : Bt} {a : Option Addr} {cap : Nat}
theorem Tb.keep (h : Tb w tb mv av m K n c R) (t : Touch S w W) (hs : ∀ k, R k → ¬ S k) : Tb W tb mv av m K n c R := by
  refine ⟨t.keep h.tab (hs tb h.tbr), ?_, h.non, fun s q hq => ?_, h.own, h.apt, ?_, h.abo, h.tbr, h.len⟩
  · rcases h.map with e | ⟨mb, e1, e2, e3⟩
    · exact .inl e
    · exact .inr ⟨mb, e1, e2.keep t (hs mb e3), e3⟩
  · obtain ⟨k, k1, k2, k3, k4⟩ := h.hav s q hq
    exact ⟨k, k1, k2, ⟨k3.1.keep t (fun i hi => hs i (h.own s q hq i hi)), k3.2⟩, k4⟩
  · obtain ⟨xs, hx⟩ := h.abr
    exact ⟨xs, hx.keep t (fun i hi => hs i (h.abo i hi))⟩
theorem Tb.later (h : Tb w tb mv av m K n c R) (hb : Below w.heap.size w W) : Tb W tb mv av m K n c R := h.keep (Touch.of_below (S := fun _ => False) hb) (fun _ _ h => h)
/-- The table that knows nobody. -/
theorem Tb.fresh (h : w.heap[tb]? = some (tabC (.map none) (.slice none 0 0))) : Tb w tb (.map none) (.slice none 0 0) [] (fun _ => none) 0 0 (· = tb) :=
  ⟨h, .inl ⟨rfl, rfl⟩, fun _ _ => rfl, fun _ _ hq => (List.not_mem_nil hq).elim, fun _ _ hq => (List.not_mem_nil hq).elim, fun _ _ _ _ hq => (List.not_mem_nil hq).elim, ⟨[], Wide.nil _ _ _⟩, fun k hk => by simp [Value.ownBlock] at hk, rfl, ⟨Nat.le_refl _, Nat.le_refl _⟩⟩
/-- What Check tells. -/
def chkK (b : Bt) (k : Kn) : Int × Bool × Int :=
  if chk b ≠ 0 then (0, false, (chk b : Int)) else if b.pid = 0 then (0, false, 0) else if b.pep < k.ep then (0, false, 10) else if b.ctl = true then (0, false, 0)
  else if (findE k.ls b.seq (b.vs.length : Int)).2 = true then ((findE k.ls b.seq (b.vs.length : Int)).1, true, 0) else if b.seq = k.nx then (0, false, 0) else (0, false, 11)
theorem chkE_fits {p : Pd} {k : Kn} (h : Fits p k) : chkE b p k.ls = chkK b k := by
  unfold chkE chkK
  rw [h.ep, h.nx]
theorem check_tb (h : Tb w tb mv av m K n c R) (b : Bt) (a : Option Addr) (cap : Nat) (hp : RAt w a b.vs) (h64 : b.pid < 18446744073709551616) :
    Calls Try.prog 8 #[.pointer (some ⟨tb, 0, none⟩), bv b a cap] w fun e w' => AnsPost w (tup3 (chkK b (atK (K b.pid) b.pep))) e w' := by
  obtain ⟨f1, f2, _⟩ := h.at b.pid b.pep
  have := check9_any h.tab b a cap hp _ _ h.isMap (fun W hW => h.look h64 hW) _ f2
  rw [chkE_fits f1] at this
  exact this
/-- What Known tells. -/
def knwK (o : Option Kn) : Int × Int × Int × Bool := match o with | none => (0, 0, 0, false) | some k => (k.ep, k.nx, if k.op = true then k.fi else -1, true)
abbrev tup4 (x : Int × Int × Int × Bool) : Value := .tuple #[.int .i64 x.1, .int .i64 x.2.1, .int .i64 x.2.2.1, .bool x.2.2.2]
set_option maxRecDepth 100000 in
set_option maxHeartbeats 1000000 in
theorem known_tb (h : Tb w tb mv av m K n c R) {s : Nat} (h64 : s < 18446744073709551616) :
    Calls Try.prog 7 #[.pointer (some ⟨tb, 0, none⟩), .int .u64 (s : Int)] w fun e w' => AnsPost w (tup4 (knwK (K s))) e w' := by
  obtain ⟨mo, rfl⟩ := h.isMap
  have hl := h.look h64 (Below.refl _ _)
  have c0 : w.cell? ⟨tb, 0, none⟩ = some (.map mo) := cell_of h.tab 0
  cases hq : patx m s with
  | none =>
    rw [h.non s hq]
    rw [hq] at hl
    have hl' : (Instr.lookup 46 (.map mo) (.int .u64 (s : Int)) true).run Try.prog w = .ok (.tuple #[.agg #[.int .i64 0, .int .i64 0, .slice none 0 0, .bool false, .int .i64 0], .bool false]) w := hl
    clear hl h
    go_enter Try.func7, Try.ntmps7
    go_wp2
    go_returns
    exact ⟨rfl, (Below.refl _ _).alloc (Nat.le_refl _) _⟩
  | some q =>
    obtain ⟨k, k1, k2, _⟩ := h.hav s q (pat_some hq)
    rw [k1]
    rw [hq] at hl
    obtain ⟨qe, qx, qg, qn, qc, qo, qf⟩ := q
    obtain ⟨sa, hsv⟩ : ∃ sa, Value.slice sa qn qc = pdS ⟨qe, qx, qg, qn, qc, qo, qf⟩ := ⟨_, rfl⟩
    have hl' : (Instr.lookup 46 (.map mo) (.int .u64 (s : Int)) true).run Try.prog w = .ok (.tuple #[.agg #[.int .i64 qe, .int .i64 qx, .slice sa qn qc, .bool qo, .int .i64 qf], .bool true]) w := by rw [hsv]; exact hl
    have hv : knwK (some k) = (qe, qx, if qo = true then qf else -1, true) := by
      show (k.ep, k.nx, if k.op = true then k.fi else -1, true) = _
      rw [← k2.ep, ← k2.nx, ← k2.op, ← k2.fi]
    rw [hv]
    clear hl h k2 hv hsv
    go_enter Try.func7, Try.ntmps7
    cases qo with
    | true =>
      go_wp2_with fail
      go_quiet (fail)
      go_wp2
      go_returns
      exact ⟨rfl, below_drewN3 ((Below.refl _ _).alloc (Nat.le_refl _) _) _⟩
    | false =>
      go_wp2_with fail
      go_quiet (fail)
      go_wp2
      go_returns
      exact ⟨rfl, below_drewN3 ((Below.refl _ _).alloc (Nat.le_refl _) _) _⟩
set_option maxRecDepth 100000 in
set_option maxHeartbeats 1000000 in
/-- Apply of a batch without a producer. -/
theorem apply_zero (tb : Nat) (w : World) (b : Bt) (a : Option Addr) (cap : Nat) (h0 : b.pid = 0) :
    Calls Try.prog 11 #[.pointer (some ⟨tb, 0, none⟩), bv b a cap] w fun e w' => e = .returned (.tuple #[]) ∧ Below w.heap.size w w' := by
  unfold bv
  rw [h0]
  go_enter Try.func11, Try.ntmps11
  go_wp2
  go_returns
  exact ⟨rfl, (Below.refl _ _).alloc (Nat.le_refl _) _⟩
end
end Go.Proofs.Ytjocjnjdmmihnaa
