/-
  wal's Sync, Count, mend, Append on a wal whose file is as long as it thinks; calls on nil; Open that is refused. Conditions: the name is at most maxLen bytes; what is handed in is none of the wal's or the disk's.
-/
import Derived.Test.YtfdpnfeaagijhaaWl1
import Derived.Test.YtfdpnfeaagijhaaDn5

namespace Go.Proofs.Ytfdpnfeaagijhaa
open Go.RowKit
set_option linter.unusedVariables false

section
variable {w : World} {wb db : Nat} {S : Nat → Prop} {d : Dk} {s : ByteArray} {n c : Int}

def SyPost (w : World) (wb db : Nat) (S : Nat → Prop) (d : Dk) (s : ByteArray) (n c : Int) (e : Ending) (w' : World) : Prop :=
  e = .returned (.int .i64 (findE d.dead d.fs s : Nat)) ∧ ∃ S', Wto w w' wb db S S' (syD d s) s n c
set_option maxRecDepth 100000 in
theorem wsync_any (h : Wl w wb db S d s n c) (hs : s.size ≤ maxLen) :
    Calls Try.prog 13 #[.pointer (some ⟨wb, 0, none⟩)] w fun e w' => SyPost w wb db S d s n c e w' := by
  obtain ⟨x0, x1, x2, x3⟩ := h.ready.outer
  simp only at x0 x1 x2 x3
  have AP : Hid (∀ w1, Touch (fun _ => False) w w1 → Calls Try.prog 25 #[.pointer (some ⟨db, 0, none⟩), .string s] w1 fun e w' => e = .returned (.int .i64 (findE d.dead d.fs s : Nat)) ∧ Went w1 w' db S (syD d s)) := fun w1 t =>
    dsync_any (h.disk.keep t (fun _ _ h => h)) hs
  have FI : Hid (∀ w', Went w.drew w' db S (syD d s) → SyPost w wb db S d s n c (.returned (.int .i64 (findE d.dead d.fs s : Nat))) w') := by
    rintro w' ⟨S', d', t', m'⟩
    have T : Touch S w w' := touch_more ((Touch.refl S w).drew) t' (fun k hk => .inl hk)
    have hwb := h.ready.lt
    refine ⟨rfl, S', ⟨h.ready.keep T h.ne, d', fun hk => ?_⟩, m', T.mono (fun k hk => .inl hk)⟩
    rcases m' _ hk with e | e
    · exact h.ne e
    · have : w.heap.size ≤ wb := e
      omega
  clear h
  generalize findE d.dead d.fs s = E at *
  go_enter Try.func13, Try.ntmps13
  go_wp2_with fail
  go_region_with (go_at_call 25; refine (unhide AP _ (Touch.refl _ _).drew).mono ?_; rintro e w1 ⟨rfl, g1⟩)
  all_goals
    have F := hide (unhide FI w1 g1)
    clear g1 FI
    go_wp2
    go_returns
    exact unhide F
theorem wcount_any (h : Wl w wb db S d s n c) :
    Calls Try.prog 15 #[.pointer (some ⟨wb, 0, none⟩)] w fun e w' => e = .returned (.int .i64 c) ∧ w' = w := by
  obtain ⟨x0, x1, x2, x3⟩ := h.ready.outer
  simp only at x0 x1 x2 x3
  clear h
  go_enter Try.func15, Try.ntmps15
  go_wp2
  go_returns
  exact ⟨rfl, rfl⟩
set_option maxRecDepth 100000 in
theorem mend_even (h : Wl w wb db S d s n c) (hs : s.size ≤ maxLen) (hE : findE d.dead d.fs s = 0) (hn : ((rdF d s).text.length : Int) = n) :
    Calls Try.prog 17 #[.pointer (some ⟨wb, 0, none⟩)] w fun e w' => e = .returned (.int .i64 0) ∧ ∃ m, w' = w.drewN m := by
  obtain ⟨x0, x1, x2, x3⟩ := h.ready.outer
  simp only at x0 x1 x2 x3
  have SZ : Hid (∀ m, Calls Try.prog 31 #[.pointer (some ⟨db, 0, none⟩), .string s] (w.drewN m) fun e w' => e = .returned (.tuple #[.int .i64 n, .int .i64 ((rdF d s).last : Nat), .int .i64 0]) ∧ ∃ j, w' = (w.drewN m).drewN j) := fun m => by
    have := dsize_any (s := s) (h.disk.keep (touch_no m) (fun _ _ h => h)) hs
    rw [hE, hn] at this
    exact this
  clear h hn hE
  generalize (rdF d s).last = la at *
  go_enter Try.func17, Try.ntmps17
  go_wp2_with fail
  go_quiet (first | (go_at_call 31; exact Calls.quiet_of (unhide SZ _)))
  have y2 : (w.drewN nq).cell? ⟨wb, 261, none⟩ = some (.int .i64 n) := x2
  clear x0 x1 x2 x3 SZ
  go_wp2
  go_returns
  exact ⟨rfl, nq, rfl⟩
end

theorem wappend_nil (v : Value) (w : World) :
    Calls Try.prog 8 #[.pointer none, v] w fun e w' => e = .returned (.int .i64 5) ∧ w' = w := by
  go_enter Try.func8, Try.ntmps8
  go_wp2
  go_returns
  exact ⟨rfl, rfl⟩
theorem wsync_nil (w : World) :
    Calls Try.prog 13 #[.pointer none] w fun e w' => e = .returned (.int .i64 5) ∧ w' = w := by
  go_enter Try.func13, Try.ntmps13
  go_wp2
  go_returns
  exact ⟨rfl, rfl⟩
theorem wcount_nil (w : World) :
    Calls Try.prog 15 #[.pointer none] w fun e w' => e = .returned (.int .i64 0) ∧ w' = w := by
  go_enter Try.func15, Try.ntmps15
  go_wp2
  go_returns
  exact ⟨rfl, rfl⟩
theorem wrewrite_nil (v : Value) (w : World) :
    Calls Try.prog 9 #[.pointer none, v] w fun e w' => e = .returned (.int .i64 5) ∧ w' = w := by
  go_enter Try.func9, Try.ntmps9
  go_wp2
  go_returns
  exact ⟨rfl, rfl⟩
end Go.Proofs.Ytfdpnfeaagijhaa
