/-
  seglog's Open of the log "p0", on a disk without files, and on one that has its first segment with one batch; Open without a disk. Conditions: what the disk is.
-/
import Derived.Test.YtkcoeofbobkaoabGreatDoorTk9

/-
  seglog's load and Open of the log "p0", on a disk without files, and on one that has its first segment with one batch. Conditions: what the disk is.
-/
namespace Go.Proofs.YtkcoeofbobkaoabGreatDoor
open Go.RowKit
set_option linter.unusedVariables false

def LoPost0 (B : Nat) (w : World) (lb db : Nat) (d : Dk) (e : Ending) (w' : World) : Prop := e = .returned (.int .i64 0) ∧ ∃ S', Lg0 B w' lb db S' d p0 ∧ Below B w w'
def LoPost1 (B : Nat) (w : World) (lb db : Nat) (la : Nat) (e : Ending) (w' : World) : Prop := e = .returned (.int .i64 0) ∧ ∃ S' gs cap v a c, Lg1 B w' lb db S' (one f0 t3 la) p0 gs cap ⟨0, v, [⟨b3, 20, a, c⟩], la⟩ ∧ Below B w w'
section
variable {B : Nat} {w : World} {lb db : Nat} {S : Nat → Prop} {d : Dk} {la : Nat}
theorem Lg0.reset (h : Lg0 B w lb db S d p0) : Lg0 B (w.setCell ⟨lb, 261, none⟩ (.slice none 0 0)) lb db S d p0 ∧ Below B w (w.setCell ⟨lb, 261, none⟩ (.slice none 0 0)) := by
  have ts := touch_set w lb 261 (.slice none 0 0)
  exact ⟨⟨h.ready.setSize _, h.disk.keep ts (fun k hk e => h.ne (e ▸ hk)), h.ne, h.sB, h.lB, by simpa using h.le⟩, below_touch (Below.refl _ _) ts h.le (fun k hk => by rw [hk]; exact h.lB)⟩
set_option maxRecDepth 100000 in
set_option maxHeartbeats 1000000 in
theorem load0 (h : Lg0 B w lb db S d p0) (h0 : d.fs = []) :
    Calls Tryz.prog 41 #[.pointer (some ⟨lb, 0, none⟩)] w fun e w' => LoPost0 B w lb db d e w' := by
  obtain ⟨x0, x1, x2⟩ := h.ready.outer
  simp only at x0 x1 x2
  have z2 := h.ready.frozen 261
  obtain ⟨r1, b1⟩ := h.reset
  have R1 := hide r1
  have B1 := hide b1
  have BS := hide (bases0 r1.ready r1.disk h0)
  clear h r1 b1
  go_enter Tryz.func41, Tryz.ntmps41
  go_wp2_with fail
  generalize w.setCell ⟨lb, 261, none⟩ (.slice none 0 0) = W at *
  refine (unhide BS).mono ?_
  rintro e w1 ⟨rfl, b2⟩
  have F : Hid (LoPost0 B w lb db d (.returned (.int .i64 0)) w1) := ⟨rfl, S, (unhide R1).later b2, (unhide B1).trans (b2.mono (unhide R1).le)⟩
  clear b2 R1 B1 BS x0 x1 x2 z2
  go_wp2_with fail
  go_loopw [15] (fun pl wr => pl = .int .i64 0 ∧ wr = w1) (fun _ _ => 0)
  case atStart => exact ⟨rfl, rfl⟩
  case round =>
    obtain ⟨rfl, rfl⟩ := hrel
    go_wp2
    go_returns
    exact unhide F
set_option maxRecDepth 100000 in
set_option maxHeartbeats 1000000 in
theorem load1 (h : Lg0 B w lb db S (one f0 t3 la) p0) (hla : la ≤ 20) :
    Calls Tryz.prog 41 #[.pointer (some ⟨lb, 0, none⟩)] w fun e w' => LoPost1 B w lb db la e w' := by
  obtain ⟨x0, x1, x2⟩ := h.ready.outer
  simp only at x0 x1 x2
  have z2 := h.ready.frozen 261
  obtain ⟨r1, b1⟩ := h.reset
  have R1 := hide r1
  have B1 := hide b1
  have BS := hide (bases1 r1.ready r1.disk (t := t3) (la := la) rfl)
  clear h r1 b1
  go_enter Tryz.func41, Tryz.ntmps41
  go_wp2_with fail
  generalize w.setCell ⟨lb, 261, none⟩ (.slice none 0 0) = W at *
  refine (unhide BS).mono ?_
  rintro e w1 ⟨g, cap, rfl, hcell, hg, _, hcap, hmax, b2⟩
  have R2 := hide ((unhide R1).later b2)
  have B2 := hide ((unhide B1).trans (b2.mono (unhide R1).le))
  have TK := hide (take1 (unhide R2) hla)
  unfold maxLen at hmax
  clear b2 R1 B1 BS x0 x1 x2 z2
  go_wp2_with fail
  go_loopw [15] (fun pl wr => (pl = .int .i64 0 ∧ wr = w1) ∨ (pl = .int .i64 1 ∧ LoPost1 B w lb db la (.returned (.int .i64 0)) wr)) (fun pl _ => 1 - (intOf pl).toNat)
  case atStart => exact .inl ⟨rfl, rfl⟩
  case round =>
    rcases hrel with ⟨rfl, rfl⟩ | ⟨rfl, hF⟩
    · go_wp2_with fail
      refine (unhide TK).mono ?_
      rintro e w2 ⟨rfl, S', gs, cap', v, a, c, lg, bl⟩
      have F : Hid (LoPost1 B w lb db la (.returned (.int .i64 0)) w2) := ⟨rfl, S', gs, cap', v, a, c, lg, (unhide B2).trans bl⟩
      clear lg bl TK
      go_wp2
      go_roundw
      case rel => exact .inr ⟨rfl, unhide F⟩
      case measure => simp [intOf]
    · have F := hide hF
      clear hF
      go_wp2
      go_returns
      exact unhide F

def zeroLog : Array Value := #[.pointer none, .string ByteArray.empty, .int .u32 0, .int .i32 0, .int .u32 0] ++ (Array.replicate 256 (.int .u32 0) ++ #[.slice none 0 0])
theorem zero_log : Tryz.zeroCells97 = zeroLog := by kernel_rfl
def newLog (p : Option Addr) (s : ByteArray) : Array Value := (zeroLog.setIfInBounds 0 (.pointer p)).setIfInBounds 1 (.string s)
theorem zeroLog_size : zeroLog.size = 262 := by simp [zeroLog]
theorem newLog_ready {w : World} {lb : Nat} {p : Option Addr} {s : ByteArray} (h : w.heap[lb]? = some (.cells (newLog p s) 97)) : Ready ⟨.pointer p, .string s, .slice none 0 0⟩ w lb := by
  have hz := zeroLog_size
  have far : ∀ i, 2 ≤ i → (newLog p s)[i]? = zeroLog[i]? := fun i hi => by unfold newLog; rw [set_ne _ (by omega), set_ne _ (by omega)]
  refine .inl ⟨fun _ => 0, ⟨newLog p s, h, by unfold newLog; simp [hz], ?_, ?_, fun i hi => ?_, ?_, ?_, ?_⟩⟩
  · rw [far 2 (by omega)]; unfold zeroLog; rw [Array.getElem?_append_left (by simp)]; rfl
  · rw [far 3 (by omega)]; unfold zeroLog; rw [Array.getElem?_append_left (by simp)]; rfl
  · rw [far (5 + i) (by omega)]
    unfold zeroLog
    rw [Array.getElem?_append_right (by simp), Array.getElem?_append_left (by simp; omega)]
    simp [hi]
  · unfold newLog; rw [set_ne _ (by omega), set_eq _ (by omega)]
  · unfold newLog; rw [set_eq _ (by simp [hz])]
  · rw [far 261 (by omega)]
    unfold zeroLog
    rw [Array.getElem?_append_right (by simp), Array.getElem?_append_right (by simp)]
    simp
end
end Go.Proofs.YtkcoeofbobkaoabGreatDoor


namespace Go.Proofs.YtkcoeofbobkaoabGreatDoor
open Go.RowKit
set_option linter.unusedVariables false

theorem open_nil (s : ByteArray) (w : World) : Calls Tryz.prog 12 #[.pointer none, .string s] w fun e w' => e = .returned (.tuple #[.pointer none, .int .i64 5]) ∧ w' = w := by
  go_enter Tryz.func12, Tryz.ntmps12
  go_wp2
  go_returns
  exact ⟨rfl, rfl⟩
def OpPost0 (B : Nat) (w : World) (db : Nat) (d : Dk) (e : Ending) (w' : World) : Prop := ∃ lb S', e = .returned (.tuple #[.pointer (some ⟨lb, 0, none⟩), .int .i64 0]) ∧ Lg0 B w' lb db S' d p0 ∧ Below B w w'
def OpPost1 (B : Nat) (w : World) (db : Nat) (la : Nat) (e : Ending) (w' : World) : Prop := ∃ lb S' gs cap v a c, e = .returned (.tuple #[.pointer (some ⟨lb, 0, none⟩), .int .i64 0]) ∧ Lg1 B w' lb db S' (one f0 t3 la) p0 gs cap ⟨0, v, [⟨b3, 20, a, c⟩], la⟩ ∧ Below B w w'
section
variable {B : Nat} {w : World} {db : Nat} {S : Nat → Prop} {d : Dk} {la : Nat}
theorem lg0_new {wn : World} (hd : Disky w db S d) (hB : ∀ k, S k → B ≤ k) (hle : B ≤ w.heap.size) (hb : Below w.heap.size w wn) : Lg0 B (wn.alloc (.cells (newLog (some ⟨db, 0, none⟩) p0) 97)) wn.heap.size db S d p0 ∧ Below B w (wn.alloc (.cells (newLog (some ⟨db, 0, none⟩) p0) 97)) := by
  have hA : Below wn.heap.size wn (wn.alloc (.cells (newLog (some ⟨db, 0, none⟩) p0) 97)) := (Below.refl _ _).alloc (Nat.le_refl _) _
  have hs := hb.size
  refine ⟨⟨newLog_ready (heap_new _ _), (hd.keep (Touch.of_below (S := fun _ => False) hb) (fun _ _ h => h)).keep (Touch.of_below (S := fun _ => False) hA) (fun _ _ h => h), fun h => by have := hd.lt _ h; omega, hB, by omega, by simp; omega⟩, (hb.mono hle).trans (hA.mono (by omega))⟩
set_option maxRecDepth 100000 in
set_option maxHeartbeats 1000000 in
theorem open0 (hd : Disky w db S d) (hB : ∀ k, S k → B ≤ k) (hle : B ≤ w.heap.size) (hdd : d.dead = false) (h0 : d.fs = []) :
    Calls Tryz.prog 12 #[.pointer (some ⟨db, 0, none⟩), .string p0] w fun e w' => OpPost0 B w db d e w' := by
  have IN := hide (isname8_any w)
  have DD : Hid (∀ w', Below w.heap.size w w' → Calls Tryz.prog 40 #[.pointer (some ⟨db, 0, none⟩)] w' fun e w'' => e = .returned (.bool false) ∧ w'' = w') := fun w' hb => by
    have := ddead_any (hd.keep (Touch.of_below (S := fun _ => False) hb) (fun _ _ h => h))
    rw [hdd] at this
    exact this
  have LN : Hid (∀ wn, Below w.heap.size w wn → Lg0 B (wn.alloc (.cells (newLog (some ⟨db, 0, none⟩) p0) 97)) wn.heap.size db S d p0 ∧ Below B w (wn.alloc (.cells (newLog (some ⟨db, 0, none⟩) p0) 97))) := fun wn hb => lg0_new hd hB hle hb
  have EN : Hid (newLog (some ⟨db, 0, none⟩) p0 = (Tryz.zeroCells97.setIfInBounds 0 (.pointer (some ⟨db, 0, none⟩))).setIfInBounds 1 (.string p0)) := by rw [zero_log]; rfl
  clear hd
  go_enter Tryz.func12, Tryz.ntmps12
  go_wp2_with fail
  refine (unhide IN).mono ?_
  rintro e w1 ⟨rfl, b1⟩
  have B1 := hide b1
  have D1 := hide (unhide DD w1 b1)
  clear b1 IN DD
  go_wp2_with fail
  refine (unhide D1).mono ?_
  rintro e w2 ⟨rfl, rfl⟩
  obtain ⟨l1, bl1⟩ := unhide LN w2 (unhide B1)
  have L1 := hide l1
  have BL1 := hide bl1
  have LO := hide (load0 l1 h0)
  clear l1 bl1 LN D1
  go_wp2_with fail
  rw [← unhide EN]
  generalize w2.alloc (.cells (newLog (some ⟨db, 0, none⟩) p0) 97) = wa at *
  refine (unhide LO).mono ?_
  rintro e w3 ⟨rfl, S', lg, bl⟩
  have F : Hid (OpPost0 B w db d (.returned (.tuple #[.pointer (some ⟨w2.heap.size, 0, none⟩), .int .i64 0])) w3) := ⟨_, S', rfl, lg, (unhide BL1).trans bl⟩
  clear lg bl LO L1 BL1
  go_wp2
  go_returns
  exact unhide F
set_option maxRecDepth 100000 in
set_option maxHeartbeats 1000000 in
theorem open1 (hd : Disky w db S (one f0 t3 la)) (hB : ∀ k, S k → B ≤ k) (hle : B ≤ w.heap.size) (hla : la ≤ 20) :
    Calls Tryz.prog 12 #[.pointer (some ⟨db, 0, none⟩), .string p0] w fun e w' => OpPost1 B w db la e w' := by
  have IN := hide (isname8_any w)
  have DD : Hid (∀ w', Below w.heap.size w w' → Calls Tryz.prog 40 #[.pointer (some ⟨db, 0, none⟩)] w' fun e w'' => e = .returned (.bool false) ∧ w'' = w') := fun w' hb => ddead_any (hd.keep (Touch.of_below (S := fun _ => False) hb) (fun _ _ h => h))
  have LN : Hid (∀ wn, Below w.heap.size w wn → Lg0 B (wn.alloc (.cells (newLog (some ⟨db, 0, none⟩) p0) 97)) wn.heap.size db S (one f0 t3 la) p0 ∧ Below B w (wn.alloc (.cells (newLog (some ⟨db, 0, none⟩) p0) 97))) := fun wn hb => lg0_new hd hB hle hb
  have EN : Hid (newLog (some ⟨db, 0, none⟩) p0 = (Tryz.zeroCells97.setIfInBounds 0 (.pointer (some ⟨db, 0, none⟩))).setIfInBounds 1 (.string p0)) := by rw [zero_log]; rfl
  clear hd
  go_enter Tryz.func12, Tryz.ntmps12
  go_wp2_with fail
  refine (unhide IN).mono ?_
  rintro e w1 ⟨rfl, b1⟩
  have B1 := hide b1
  have D1 := hide (unhide DD w1 b1)
  clear b1 IN DD
  go_wp2_with fail
  refine (unhide D1).mono ?_
  rintro e w2 ⟨rfl, rfl⟩
  obtain ⟨l1, bl1⟩ := unhide LN w2 (unhide B1)
  have L1 := hide l1
  have BL1 := hide bl1
  have LO := hide (load1 l1 hla)
  clear l1 bl1 LN D1
  go_wp2_with fail
  rw [← unhide EN]
  generalize w2.alloc (.cells (newLog (some ⟨db, 0, none⟩) p0) 97) = wa at *
  refine (unhide LO).mono ?_
  rintro e w3 ⟨rfl, S', gs, cap, v, a, c, lg, bl⟩
  have F : Hid (OpPost1 B w db la (.returned (.tuple #[.pointer (some ⟨w2.heap.size, 0, none⟩), .int .i64 0])) w3) := ⟨_, S', gs, cap, v, a, c, rfl, lg, (unhide BL1).trans bl⟩
  clear lg bl LO L1 BL1
  go_wp2
  go_returns
  exact unhide F
end
end Go.Proofs.YtkcoeofbobkaoabGreatDoor
