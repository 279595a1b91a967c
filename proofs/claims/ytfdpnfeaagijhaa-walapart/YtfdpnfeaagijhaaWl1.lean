/-
  wal's Open, Sync, Count, mend, Append. Conditions: the name is at most maxLen bytes.
-/
import Derived.Test.YtfdpnfeaagijhaaWl0

namespace Go.Proofs.Ytfdpnfeaagijhaa
open Go.RowKit
set_option linter.unusedVariables false

def zeroWal : Array Value := #[.pointer none, .string ByteArray.empty, .int .u32 0, .int .i32 0, .int .u32 0] ++ (Array.replicate 256 (.int .u32 0) ++ #[.int .i64 0, .int .i64 0])
theorem zero_wal : Try.zeroCells57 = zeroWal := by kernel_rfl
def newWal (p : Option Addr) (s : ByteArray) : Array Value := (zeroWal.setIfInBounds 0 (.pointer p)).setIfInBounds 1 (.string s)
theorem zeroWal_size : zeroWal.size = 263 := by simp [zeroWal]
theorem newWal_ready {w : World} {wb : Nat} {p : Option Addr} {s : ByteArray} (h : w.heap[wb]? = some (.cells (newWal p s) 57)) : Ready ⟨.pointer p, .string s, .int .i64 0, .int .i64 0⟩ w wb := by
  have hz := zeroWal_size
  have far : ∀ i, 2 ≤ i → (newWal p s)[i]? = zeroWal[i]? := fun i hi => by unfold newWal; rw [set_ne _ (by omega), set_ne _ (by omega)]
  refine .inl ⟨fun _ => 0, ⟨newWal p s, h, by unfold newWal; simp [hz], ?_, ?_, fun i hi => ?_, ?_, ?_, ?_, ?_⟩⟩
  · rw [far 2 (by omega)]; unfold zeroWal; rw [Array.getElem?_append_left (by simp)]; rfl
  · rw [far 3 (by omega)]; unfold zeroWal; rw [Array.getElem?_append_left (by simp)]; rfl
  · rw [far (5 + i) (by omega)]
    unfold zeroWal
    rw [Array.getElem?_append_right (by simp), Array.getElem?_append_left (by simp; omega)]
    simp [hi]
  · unfold newWal; rw [set_ne _ (by omega), set_eq _ (by omega)]
  · unfold newWal; rw [set_eq _ (by simp [hz])]
  · rw [far 261 (by omega)]
    unfold zeroWal
    rw [Array.getElem?_append_right (by simp), Array.getElem?_append_right (by simp)]
    simp
  · rw [far 262 (by omega)]
    unfold zeroWal
    rw [Array.getElem?_append_right (by simp), Array.getElem?_append_right (by simp)]
    simp

section
variable {w : World} {wb db : Nat} {S : Nat → Prop} {d : Dk} {s : ByteArray} {n c : Int}
def OpPost (w : World) (db : Nat) (S : Nat → Prop) (d : Dk) (s : ByteArray) (e : Ending) (w' : World) : Prop :=
  ∃ wb v S', e = .returned (.tuple #[.pointer (some ⟨wb, 0, none⟩), v, .int .i64 0]) ∧ Wl w' wb db S' (opD d s) s (opN d s : Nat) ((scan (opT d s)).1.length : Nat) ∧ w.heap.size ≤ wb ∧ (∀ k, S' k → S k ∨ w.heap.size ≤ k) ∧ Touch S w w' ∧ Held (fun k => S' k ∨ k = wb) w' v (scan (opT d s)).1 ∧ New w v
set_option maxRecDepth 100000 in
set_option maxHeartbeats 2000000 in
theorem wopen_ok (hd : Disky w db S d) (hs : s.size ≤ maxLen) (hE : apE d s 0 = 0) :
    Calls Try.prog 5 #[.pointer (some ⟨db, 0, none⟩), .string s] w fun e w' => OpPost w db S d s e w' := by
  have TA : Hid (Touch (fun _ => False) w (w.alloc (.cells (newWal (some ⟨db, 0, none⟩) s) 57))) := (Touch.refl _ w).alloc _
  have W0 : Hid (Wl (w.alloc (.cells (newWal (some ⟨db, 0, none⟩) s) 57)) w.heap.size db S d s 0 0) := ⟨newWal_ready (heap_new _ _), hd.keep (unhide TA) (fun _ _ h => h), fun h => by have := hd.lt _ h; omega⟩
  have RC := hide (recovered_any (unhide W0) hs hE)
  have EN : Hid (newWal (some ⟨db, 0, none⟩) s = (Try.zeroCells57.setIfInBounds 0 (.pointer (some ⟨db, 0, none⟩))).setIfInBounds 1 (.string s)) := by rw [zero_wal]; rfl
  clear hd hE
  go_enter Try.func5, Try.ntmps5
  go_wp2_with fail
  rw [← unhide EN]
  generalize w.alloc (.cells (newWal (some ⟨db, 0, none⟩) s) 57) = wa at *
  refine (unhide RC).mono ?_
  rintro e w1 ⟨v, S', rfl, wt, hh, nv⟩
  obtain ⟨a, cap, rfl, _⟩ := hh.parts
  have R1 := hide wt.wl.ready
  obtain ⟨_, _, _, q3⟩ := (unhide R1).outer
  simp only at q3
  have z3 := (unhide R1).frozen 262
  have F : Hid (OpPost w db S d s (.returned (.tuple #[.pointer (some ⟨w.heap.size, 0, none⟩), .slice a (scan (opT d s)).1.length cap, .int .i64 0])) (w1.setCell ⟨w.heap.size, 262, none⟩ (.int .i64 ((scan (opT d s)).1.length : Nat)))) := by
    have ts := touch_set w1 w.heap.size 262 (.int .i64 ((scan (opT d s)).1.length : Nat))
    have hsz := (unhide TA).size
    refine ⟨w.heap.size, _, S', rfl, ⟨wt.wl.ready.setCount _, wt.wl.disk.keep ts (fun k hk e => wt.wl.ne (e ▸ hk)), wt.wl.ne⟩, Nat.le_refl _, fun k hk => (wt.grow k hk).imp id (fun e => Nat.le_trans hsz e), ?_, ?_, fun k hk => Nat.le_trans hsz (nv k hk)⟩
    · refine touch_more (touch_more ((unhide TA).mono (fun _ h => h.elim)) wt.touch (fun k hk => ?_)) ts (fun k hk => .inr (by omega))
      rcases hk with e | e
      · exact .inl e
      · exact .inr (by omega)
    · exact hh.step (ts.mono (fun k hk => .inr hk)) (fun k hk => .inl hk)
  clear wt hh nv RC W0 TA R1
  generalize (scan (opT d s)).1.length = L at *
  go_wp2
  go_returns
  exact unhide F
end
end Go.Proofs.Ytfdpnfeaagijhaa
