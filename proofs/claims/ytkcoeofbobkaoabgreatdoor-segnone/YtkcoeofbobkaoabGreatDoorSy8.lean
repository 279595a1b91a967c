/-
  seglog's Start and Synced of a log with one segment of one batch that doesn't last. Conditions: what the log and its disk are.
-/
import Derived.Test.YtkcoeofbobkaoabGreatDoorPu9

/-
  seglog's fits, mend, sync and Flush of a log with one segment of one batch. Conditions: what the log and its disk are.
-/
namespace Go.Proofs.YtkcoeofbobkaoabGreatDoor
open Go.RowKit
set_option linter.unusedVariables false

abbrev f3 : ByteArray := ⟨#[112, 48, 46, 48, 48, 48, 48, 48, 48, 48, 51]⟩
theorem fileN_three : fileN p0 3 = f3 := by
  have h : Lib.decDigits 3 = [51] := by rw [Lib.decDigits]; rfl
  unfold fileN
  rw [h]
  rfl
theorem one_other (t : List Nat) (la : Nat) : findE (one f0 t la).dead (one f0 t la).fs f3 = 4 := find_no.2 ⟨rfl, by decide, by simp [one, ftOf, f0, f3]⟩
theorem one_rdo (t : List Nat) (la : Nat) : rdF (one f0 t la) f3 = ⟨f3, [], 0⟩ := by unfold rdF; rw [one_other, if_neg (by omega)]
/-- The segment of one batch. -/
abbrev sx (v : Value) (a : Option Addr) (c la : Nat) : Sg := ⟨0, v, [⟨b3, 20, a, c⟩], la⟩
section
variable {B : Nat} {w : World} {lb db : Nat} {S : Nat → Prop} {gs cap : Nat} {v : Value} {a : Option Addr} {c la : Nat}
theorem fileC (h : Lg1 B w lb db S (one f0 t3 la) p0 gs cap (sx v a c la)) (W : World) (hb : Below w.heap.size w W) (i : Nat) (hi : i < 100) (f : ByteArray) (hf : fileN p0 i = f) : Calls Tryz.prog 86 #[.pointer (some ⟨lb, 0, none⟩), .int .i64 (i : Nat)] W fun e w' => e = .returned (.string f) ∧ Below w.heap.size w w' := by
  have := file_any (h.later hb).ready.outer.2.1 (by decide) (h.later hb).ready.lt i hi
  rw [hf] at this
  exact this.mono fun e w' h => ⟨h.1, hb.trans (h.2.mono hb.size)⟩
theorem lastC (h : Lg1 B w lb db S (one f0 t3 la) p0 gs cap (sx v a c la)) (W : World) (hb : Below w.heap.size w W) : Calls Tryz.prog 42 #[.pointer (some ⟨lb, 0, none⟩)] W fun e w' => e = .returned (.pointer (some ⟨gs, 0, none⟩)) ∧ Below w.heap.size w w' := by
  have lg := h.later hb
  exact (last_any (ss := [sx v a c la]) (k := 0) lg.ready.outer.2.2 lg.row rfl rfl).mono fun e w' h => ⟨h.1, by obtain ⟨n, hn⟩ := h.2; rw [hn]; exact below_drewN3 hb n⟩
theorem sizeC (h : Lg1 B w lb db S (one f0 t3 la) p0 gs cap (sx v a c la)) (W : World) (hb : Below w.heap.size w W) : Calls Tryz.prog 63 #[.pointer (some ⟨gs, 0, none⟩)] W fun e w' => e = .returned (.int .i64 20) ∧ Below w.heap.size w w' :=
  (segSize_any (h.later hb).sg).mono fun e w' h => ⟨h.1, by obtain ⟨n, hn⟩ := h.2; rw [hn]; exact below_drewN3 hb n⟩
theorem endC (h : Lg1 B w lb db S (one f0 t3 la) p0 gs cap (sx v a c la)) (W : World) (hb : Below w.heap.size w W) : Calls Tryz.prog 14 #[.pointer (some ⟨lb, 0, none⟩)] W fun e w' => e = .returned (.int .i64 3) ∧ Below w.heap.size w w' :=
  (end1 (h.later hb)).mono fun e w' h => ⟨h.1, hb.trans (h.2.mono hb.size)⟩
theorem sizeD (h : Lg1 B w lb db S (one f0 t3 la) p0 gs cap (sx v a c la)) (W : World) (hb : Below w.heap.size w W) : Calls Tryz.prog 13 #[.pointer (some ⟨db, 0, none⟩), .string f0] W fun e w' => e = .returned (.tuple #[.int .i64 20, .int .i64 (la : Nat), .int .i64 0]) ∧ Below w.heap.size w w' := by
  have := dsize_any (s := f0) (h.later hb).disk (by decide)
  rw [one_find f0_ok, one_rd f0_ok] at this
  simp only [t3_len] at this
  exact this.mono fun e w' h => ⟨h.1, by obtain ⟨n, hn⟩ := h.2; rw [hn]; exact below_drewN3 hb n⟩
theorem sizeN (h : Lg1 B w lb db S (one f0 t3 la) p0 gs cap (sx v a c la)) (W : World) (hb : Below w.heap.size w W) : Calls Tryz.prog 13 #[.pointer (some ⟨db, 0, none⟩), .string f3] W fun e w' => e = .returned (.tuple #[.int .i64 0, .int .i64 0, .int .i64 4]) ∧ Below w.heap.size w w' := by
  have := dsize_any (s := f3) (h.later hb).disk (by decide)
  rw [one_other, one_rdo] at this
  exact this.mono fun e w' h => ⟨h.1, by obtain ⟨n, hn⟩ := h.2; rw [hn]; exact below_drewN3 hb n⟩
set_option maxRecDepth 100000 in
set_option maxHeartbeats 2000000 in
theorem fits1 (h : Lg1 B w lb db S (one f0 t3 la) p0 gs cap (sx v a c la)) (hla : la ≤ 20) :
    Calls Tryz.prog 85 #[.pointer (some ⟨lb, 0, none⟩)] w fun e w' => AnsPost w (.bool true) e w' := by
  obtain ⟨x0, x1, x2⟩ := h.ready.outer
  simp only at x0 x1 x2
  have hlb := h.ready.lt
  have hgs := h.glt
  have X0 := hide x0
  have g0 : w.cell? ⟨gs, 0, none⟩ = some (.int .i64 0) := h.sg.c0
  have g2 : w.cell? ⟨gs, 2, none⟩ = some (.int .i64 (la : Nat)) := h.sg.c2
  have G0 := hide g0
  have G2 := hide g2
  have KL := hide (lastC h)
  have KF0 : Hid (∀ W, Below w.heap.size w W → Calls Tryz.prog 86 #[.pointer (some ⟨lb, 0, none⟩), .int .i64 0] W fun e w' => e = .returned (.string f0) ∧ Below w.heap.size w w') := fun W hb => fileC h W hb 0 (by omega) f0 fileN_zero
  have KF3 : Hid (∀ W, Below w.heap.size w W → Calls Tryz.prog 86 #[.pointer (some ⟨lb, 0, none⟩), .int .i64 3] W fun e w' => e = .returned (.string f3) ∧ Below w.heap.size w w') := fun W hb => fileC h W hb 3 (by omega) f3 fileN_three
  have KD := hide (sizeD h)
  have KN := hide (sizeN h)
  have KS := hide (sizeC h)
  have KE := hide (endC h)
  clear h
  go_enter Tryz.func85, Tryz.ntmps85
  go_wp2_with fail
  refine (unhide KL w (Below.refl _ _)).mono ?_
  rintro e w1 ⟨rfl, b1⟩
  have q0 : w1.cell? ⟨lb, 0, none⟩ = some (.pointer (some ⟨db, 0, none⟩)) := (b1.cell (p := ⟨lb, 0, none⟩) hlb).trans x0
  have q1 : w1.cell? ⟨gs, 0, none⟩ = some (.int .i64 0) := (b1.cell (p := ⟨gs, 0, none⟩) hgs).trans g0
  clear x0 x1 x2 g0 g2
  go_wp2_with fail
  go_region_held3 (fun w' => w'.cell? ⟨lb, 0, none⟩ = some (.pointer (some ⟨db, 0, none⟩)) ∧ w'.cell? ⟨gs, 0, none⟩ = some (.int .i64 0)) (first | exact ⟨(Below.cell (p := ⟨lb, 0, none⟩) (by first | assumption | (go_grown; done) | exact below_drewN3 (Below.refl _ _) _ | exact below_drewN3 (by assumption) _ | exact Below.drew (by assumption) | exact (below_drewN3 (Below.refl _ _) _).drew | exact Below.refl _ _) hlb).trans (unhide X0), (Below.cell (p := ⟨gs, 0, none⟩) (by first | assumption | (go_grown; done) | exact below_drewN3 (Below.refl _ _) _ | exact below_drewN3 (by assumption) _ | exact Below.drew (by assumption) | exact (below_drewN3 (Below.refl _ _) _).drew | exact Below.refl _ _) hgs).trans (unhide G0)⟩) (first
    | (go_at_call 13; refine (unhide KD _ (by first | assumption | (go_grown; done) | exact below_drewN3 (Below.refl _ _) _ | exact below_drewN3 (by assumption) _ | exact Below.drew (by assumption) | exact (below_drewN3 (Below.refl _ _) _).drew | exact Below.refl _ _)).mono ?_; rintro e w3 ⟨rfl, b3'⟩)
    | (go_at_call 86; refine (unhide KF0 _ (by first | assumption | (go_grown; done) | exact below_drewN3 (Below.refl _ _) _ | exact below_drewN3 (by assumption) _ | exact Below.drew (by assumption) | exact (below_drewN3 (Below.refl _ _) _).drew | exact Below.refl _ _)).mono ?_; rintro e w2 ⟨rfl, b2⟩))
  all_goals
    have S3 := hide (unhide KS w3 b3')
    clear q0 q1
    go_wp2_with fail
    refine (unhide S3).mono ?_
    rintro e w4 ⟨rfl, b4⟩
    have r2 : w4.cell? ⟨gs, 2, none⟩ = some (.int .i64 (la : Nat)) := (b4.cell (p := ⟨gs, 2, none⟩) hgs).trans (unhide G2)
    have r0 : w4.cell? ⟨lb, 0, none⟩ = some (.pointer (some ⟨db, 0, none⟩)) := (b4.cell (p := ⟨lb, 0, none⟩) hlb).trans (unhide X0)
    go_wp2_with fail
    go_region_held3 (fun w' => w'.cell? ⟨lb, 0, none⟩ = some (.pointer (some ⟨db, 0, none⟩))) (first | exact (Below.cell (p := ⟨lb, 0, none⟩) (by first | assumption | (go_grown; done) | exact below_drewN3 (Below.refl _ _) _ | exact below_drewN3 (by assumption) _ | exact Below.drew (by assumption) | exact (below_drewN3 (Below.refl _ _) _).drew | exact Below.refl _ _) hlb).trans (unhide X0)) (first
      | (go_at_call 13; refine (unhide KN _ (by first | assumption | (go_grown; done) | exact below_drewN3 (Below.refl _ _) _ | exact below_drewN3 (by assumption) _ | exact Below.drew (by assumption) | exact (below_drewN3 (Below.refl _ _) _).drew | exact Below.refl _ _)).mono ?_; rintro e w7 ⟨rfl, b7⟩)
      | (go_at_call 86; refine (unhide KF3 _ (by first | assumption | (go_grown; done) | exact below_drewN3 (Below.refl _ _) _ | exact below_drewN3 (by assumption) _ | exact Below.drew (by assumption) | exact (below_drewN3 (Below.refl _ _) _).drew | exact Below.refl _ _)).mono ?_; rintro e w6 ⟨rfl, b6⟩)
      | (go_at_call 14; refine (unhide KE _ (by first | assumption | (go_grown; done) | exact below_drewN3 (Below.refl _ _) _ | exact below_drewN3 (by assumption) _ | exact Below.drew (by assumption) | exact (below_drewN3 (Below.refl _ _) _).drew | exact Below.refl _ _)).mono ?_; rintro e w5 ⟨rfl, b5⟩))
    all_goals
      have B7 := hide b7
      clear b7
      go_wp2
      go_returns
      exact AnsPost.mk rfl (unhide B7)
theorem mend1 (h : Lg1 B w lb db S (one f0 t3 la) p0 gs cap (sx v a c la)) (hla : la ≤ 20) :
    Calls Tryz.prog 53 #[.pointer (some ⟨lb, 0, none⟩)] w fun e w' => AnsPost w (.int .i64 0) e w' := by
  obtain ⟨x0, x1, x2⟩ := h.ready.outer
  simp only at x0 x1 x2
  have D1 : Hid (Calls Tryz.prog 40 #[.pointer (some ⟨db, 0, none⟩)] w fun e w' => e = .returned (.bool false) ∧ w' = w) := ddead_any h.disk
  have FT := hide (fits1 h hla)
  clear h
  go_enter Tryz.func53, Tryz.ntmps53
  go_wp2_with fail
  refine (unhide D1).mono ?_
  rintro e w1 ⟨rfl, rfl⟩
  go_wp2_with fail
  refine (unhide FT).mono ?_
  rintro e w1 ⟨rfl, b1⟩
  have B1 := hide b1
  clear b1
  go_wp2
  go_returns
  exact AnsPost.mk rfl (unhide B1)
end
end Go.Proofs.YtkcoeofbobkaoabGreatDoor


/-
  seglog's sync and Flush of a log with one segment of one batch that doesn't last; its Start and Synced. Conditions: what the log and its disk are.
-/
namespace Go.Proofs.YtkcoeofbobkaoabGreatDoor
open Go.RowKit
set_option linter.unusedVariables false

section
variable {B : Nat} {w : World} {lb db : Nat} {S : Nat → Prop} {d : Dk} {nm : ByteArray} {gs cap : Nat} {v : Value} {a : Option Addr} {c la : Nat} {s : Sg}
/-- More of the segment lasts. -/
theorem Lg1.lasts (h : Lg1 B w lb db S d nm gs cap s) (n : Nat) : Lg1 B (w.setCell ⟨gs, 2, none⟩ (.int .i64 (n : Nat))) lb db S d nm gs cap ⟨s.base, s.v, s.ls, n⟩ ∧ Below B w (w.setCell ⟨gs, 2, none⟩ (.int .i64 (n : Nat))) := by
  have ts := touch_set w gs 2 (.int .i64 (n : Nat))
  obtain ⟨cs, hg⟩ := h.heapG
  obtain ⟨lcs, hlh⟩ := h.ready.heap
  have hlg : lb ≠ gs := fun e => by
    rw [e, hg] at hlh
    exact absurd (Obj.cells.inj (Option.some.inj hlh)).2.1 (by decide)
  have hv : ∀ k, s.v.ownBlock = some k → k ≠ gs := wide_not h.sg.row hg (by decide)
  have hrow : Wide (w.setCell ⟨gs, 2, none⟩ (.int .i64 (n : Nat))) 104 3 (.slice (some ⟨gs, 0, none⟩) 1 cap) 1 (sgC ⟨s.base, s.v, s.ls, n⟩) := h.row.set 2 (.int .i64 (n : Nat))
  obtain ⟨_, _, e, _, _, _, _, hp⟩ := hrow.parts
  obtain ⟨g, ha, hgl, hc, _⟩ := hp (by omega)
  cases e
  cases ha
  exact ⟨⟨h.ready.keep ts hlg, h.disk.keep ts (fun k hk e => h.neg (e ▸ hk)), hrow, ⟨hc 0 (by omega), hc 1 (by omega), hc 2 (by omega), h.sg.row.keep ts hv, h.sg.low, h.sg.blo, h.sg.bhi⟩, fun x hx => (h.vals x hx).not hg (by decide) (by decide) ts, h.ne, h.neg, h.nev, h.sB, h.lB, h.gB, h.vB, by simpa using h.le⟩, below_touch (Below.refl _ _) ts h.le (fun k hk => by rw [hk]; exact h.gB)⟩
def SyPost (B : Nat) (w : World) (lb db gs cap : Nat) (v : Value) (a : Option Addr) (c : Nat) (e : Ending) (w' : World) : Prop := e = .returned (.int .i64 0) ∧ ∃ S', Lg1 B w' lb db S' (one f0 t3 20) p0 gs cap (sx v a c 20) ∧ Below B w w'
set_option maxRecDepth 100000 in
set_option maxHeartbeats 2000000 in
theorem sync1 (h : Lg1 B w lb db S (one f0 t3 0) p0 gs cap (sx v a c 0)) :
    Calls Tryz.prog 56 #[.pointer (some ⟨lb, 0, none⟩), .pointer (some ⟨gs, 0, none⟩)] w fun e w' => SyPost B w lb db gs cap v a c e w' := by
  obtain ⟨x0, x1, x2⟩ := h.ready.outer
  simp only at x0 x1 x2
  have hlb := h.ready.lt
  have hgs := h.glt
  have X0 := hide x0
  have g0 : w.cell? ⟨gs, 0, none⟩ = some (.int .i64 0) := h.sg.c0
  have g2 : w.cell? ⟨gs, 2, none⟩ = some (.int .i64 0) := h.sg.c2
  have G0 := hide g0
  have G2 := hide g2
  have KF0 : Hid (∀ W, Below w.heap.size w W → Calls Tryz.prog 86 #[.pointer (some ⟨lb, 0, none⟩), .int .i64 0] W fun e w' => e = .returned (.string f0) ∧ Below w.heap.size w w') := fun W hb => fileC h W hb 0 (by omega) f0 fileN_zero
  have KS := hide (sizeC h)
  have KY : Hid (∀ W, Below w.heap.size w W → Calls Tryz.prog 87 #[.pointer (some ⟨db, 0, none⟩), .string f0] W fun e w' => e = .returned (.int .i64 0) ∧ ∃ S', Lg1 B w' lb db S' (one f0 t3 20) p0 gs cap (sx v a c 0) ∧ Below B w w') := fun W hb => by
    have := dsync_any (s := f0) (h.later hb).disk (by decide)
    rw [one_find f0_ok, one_sync f0_ok, t3_len] at this
    exact this.mono fun e w' hh => ⟨hh.1, by
      obtain ⟨S', l1, bl⟩ := (h.later hb).went hh.2
      exact ⟨S', l1, (hb.mono h.le).trans bl⟩⟩
  clear h x0 x1 x2
  go_enter Tryz.func56, Tryz.ntmps56
  go_wp2_with fail
  go_region_held3 (fun w' => w'.cell? ⟨gs, 2, none⟩ = some (.int .i64 0)) (first | exact (Below.cell (p := ⟨gs, 2, none⟩) (by first | assumption | (go_grown; done) | exact below_drewN3 (Below.refl _ _) _ | exact below_drewN3 (by assumption) _ | exact Below.drew (by assumption) | exact (below_drewN3 (Below.refl _ _) _).drew | exact Below.refl _ _) hgs).trans (unhide G2)) (first
    | (go_at_call 63; refine (unhide KS _ (by first | assumption | (go_grown; done) | exact below_drewN3 (Below.refl _ _) _ | exact below_drewN3 (by assumption) _ | exact Below.drew (by assumption) | exact (below_drewN3 (Below.refl _ _) _).drew | exact Below.refl _ _)).mono ?_; rintro e w1 ⟨rfl, b1⟩))
  all_goals
    have q0 : w1.cell? ⟨lb, 0, none⟩ = some (.pointer (some ⟨db, 0, none⟩)) := (b1.cell (p := ⟨lb, 0, none⟩) hlb).trans (unhide X0)
    have q1 : w1.cell? ⟨gs, 0, none⟩ = some (.int .i64 0) := (b1.cell (p := ⟨gs, 0, none⟩) hgs).trans (unhide G0)
    go_wp2_with fail
    go_region_held3 (fun w' => w'.cell? ⟨lb, 0, none⟩ = some (.pointer (some ⟨db, 0, none⟩)) ∧ w'.cell? ⟨gs, 0, none⟩ = some (.int .i64 0)) (first | exact ⟨(unhide L3).ready.outer.1, (unhide L3).sg.c0⟩ | exact ⟨(Below.cell (p := ⟨lb, 0, none⟩) (by first | assumption | (go_grown; done) | exact below_drewN3 (Below.refl _ _) _ | exact below_drewN3 (by assumption) _ | exact Below.drew (by assumption) | exact (below_drewN3 (Below.refl _ _) _).drew | exact Below.refl _ _) hlb).trans (unhide X0), (Below.cell (p := ⟨gs, 0, none⟩) (by first | assumption | (go_grown; done) | exact below_drewN3 (Below.refl _ _) _ | exact below_drewN3 (by assumption) _ | exact Below.drew (by assumption) | exact (below_drewN3 (Below.refl _ _) _).drew | exact Below.refl _ _) hgs).trans (unhide G0)⟩) (first
      | (go_at_call 87; refine (unhide KY _ (by first | assumption | (go_grown; done) | exact below_drewN3 (Below.refl _ _) _ | exact below_drewN3 (by assumption) _ | exact Below.drew (by assumption) | exact (below_drewN3 (Below.refl _ _) _).drew | exact Below.refl _ _)).mono ?_; rintro e w3 ⟨rfl, S3, l3, bl3⟩; have L3 := hide l3; have BL3 := hide bl3; clear l3 bl3)
      | (go_at_call 86; refine (unhide KF0 _ (by first | assumption | (go_grown; done) | exact below_drewN3 (Below.refl _ _) _ | exact below_drewN3 (by assumption) _ | exact Below.drew (by assumption) | exact (below_drewN3 (Below.refl _ _) _).drew | exact Below.refl _ _)).mono ?_; rintro e w2 ⟨rfl, b2⟩))
    all_goals
      have Z3 : Hid (Calls Tryz.prog 63 #[.pointer (some ⟨gs, 0, none⟩)] w3 fun e w' => e = .returned (.int .i64 20) ∧ ∃ n, w' = w3.drewN n) := segSize_any (unhide L3).sg
      clear q0 q1
      go_wp2_with fail
      refine (unhide Z3).mono ?_
      rintro e w4 ⟨rfl, n4, rfl⟩
      have L4 := hide ((unhide L3).later (below_drewN3 (Below.refl _ _) n4))
      have BL4 := hide ((unhide BL3).trans ((below_drewN3 (Below.refl w3.heap.size w3) n4).mono (unhide L3).le))
      have r2 : (w3.drewN n4).cell? ⟨gs, 2, none⟩ = some (.int .i64 0) := (unhide L4).sg.c2
      obtain ⟨cs4, hc4⟩ := (unhide L4).heapG
      have z2 : (w3.drewN n4).frozen? ⟨gs, 2, none⟩ = false := frozen_of hc4 2
      obtain ⟨l5, bl5⟩ := (unhide L4).lasts 20
      have F : Hid (SyPost B w lb db gs cap v a c (.returned (.int .i64 0)) ((w3.drewN n4).setCell ⟨gs, 2, none⟩ (.int .i64 20))) := ⟨rfl, S3, l5, (unhide BL4).trans bl5⟩
      clear l5 bl5 L4 BL4 L3 BL3 Z3 hc4
      go_wp2
      go_returns
      exact unhide F
set_option maxRecDepth 100000 in
set_option maxHeartbeats 2000000 in
theorem flush1 (h : Lg1 B w lb db S (one f0 t3 0) p0 gs cap (sx v a c 0)) :
    Calls Tryz.prog 19 #[.pointer (some ⟨lb, 0, none⟩)] w fun e w' => SyPost B w lb db gs cap v a c e w' := by
  have UO := hide (unopened_no h.ready)
  have ME := hide (mend1 h (by omega))
  have HL := hide h
  clear h
  go_enter Tryz.func19, Tryz.ntmps19
  go_wp2_with fail
  refine (unhide UO).mono ?_
  rintro e w0 ⟨rfl, rfl⟩
  go_wp2_with fail
  refine (unhide ME).mono ?_
  rintro e w1 ⟨rfl, b1⟩
  have L1 := hide ((unhide HL).later b1)
  have B1 := hide (b1.mono (unhide HL).le)
  obtain ⟨x0, x1, x2⟩ := (unhide L1).ready.outer
  simp only at x0 x1 x2
  have SY := hide (sync1 (unhide L1))
  have hcap : 1 ≤ cap ∧ cap ≤ 9223372036854775807 := by
    obtain ⟨_, _, e, h1, h2, _⟩ := (unhide L1).row.parts
    cases e
    unfold maxLen at h2
    exact ⟨h1, by omega⟩
  obtain ⟨hc1, hc2⟩ := hcap
  clear b1 ME UO
  go_wp2_with fail
  go_loopw [18] (fun pl wr => (pl = .int .i64 0 ∧ wr = w1) ∨ (pl = .int .i64 1 ∧ SyPost B w0 lb db gs cap v a c (.returned (.int .i64 0)) wr)) (fun pl _ => 1 - (intOf pl).toNat)
  case atStart => exact .inl ⟨rfl, rfl⟩
  case round =>
    rcases hrel with ⟨rfl, rfl⟩ | ⟨rfl, hF⟩
    · go_wp2_with fail
      refine (unhide SY).mono ?_
      rintro e w2 ⟨rfl, S', lg, bl⟩
      have F : Hid (SyPost B w0 lb db gs cap v a c (.returned (.int .i64 0)) w2) := ⟨rfl, S', lg, (unhide B1).trans bl⟩
      clear lg bl SY
      go_wp2
      go_roundw
      case rel => exact .inr ⟨rfl, unhide F⟩
      case measure => simp [intOf]
    · have F := hide hF
      clear hF
      go_wp2
      go_returns
      exact unhide F
end
end Go.Proofs.YtkcoeofbobkaoabGreatDoor


namespace Go.Proofs.YtkcoeofbobkaoabGreatDoor
open Go.RowKit
set_option linter.unusedVariables false

section
variable {B : Nat} {w : World} {lb db : Nat} {S : Nat → Prop} {gs cap : Nat} {v : Value} {a : Option Addr} {c la : Nat}
theorem sx_cells (h : SgP w gs 0 (sx v a c la)) : ∃ gv cv, v = .slice (some ⟨gv, 0, none⟩) 1 cv ∧ gv < w.heap.size ∧ 1 ≤ cv ∧ cv ≤ 9223372036854775807 ∧ (w.cell? ⟨gv, 0, none⟩ = some (.int .i64 0) ∧ w.cell? ⟨gv, 1, none⟩ = some (.int .i64 0) ∧ w.cell? ⟨gv, 2, none⟩ = some (.int .u64 0) ∧ w.cell? ⟨gv, 3, none⟩ = some (.int .i64 0) ∧ w.cell? ⟨gv, 4, none⟩ = some (.int .i64 0) ∧ w.cell? ⟨gv, 5, none⟩ = some (.bool false) ∧ w.cell? ⟨gv, 6, none⟩ = some (.bool false) ∧ w.cell? ⟨gv, 7, none⟩ = some (.bool false) ∧ w.cell? ⟨gv, 8, none⟩ = some (.slice a 3 c) ∧ w.cell? ⟨gv, 9, none⟩ = some (.int .i64 20)) := by
  obtain ⟨av, cv, e, h1, h2, _, _, hp⟩ := h.row.parts
  obtain ⟨gv, ha, hg, hc, _⟩ := hp (by simp)
  unfold maxLen at h2
  subst ha
  refine ⟨gv, cv, e, hg, h1, by omega, ?_⟩
  exact ⟨hc 0 (by simp), hc 1 (by simp), hc 2 (by simp), hc 3 (by simp), hc 4 (by simp), hc 5 (by simp), hc 6 (by simp), hc 7 (by simp), hc 8 (by simp), hc 9 (by simp)⟩
theorem start1 (h : Lg1 B w lb db S (one f0 t3 la) p0 gs cap (sx v a c la)) : Calls Tryz.prog 22 #[.pointer (some ⟨lb, 0, none⟩)] w fun e w' => e = .returned (.int .i64 0) ∧ w' = w := by
  obtain ⟨x0, x1, x2⟩ := h.ready.outer
  simp only at x0 x1 x2
  have g0 : w.cell? ⟨gs, 0, none⟩ = some (.int .i64 0) := h.sg.c0
  clear h
  go_enter Tryz.func22, Tryz.ntmps22
  go_wp2
  go_returns
  exact ⟨rfl, rfl⟩
set_option maxRecDepth 100000 in
set_option maxHeartbeats 2000000 in
theorem segSynced (h : SgP w gs 0 (sx v a c 0)) (hgs : gs < w.heap.size) : Calls Tryz.prog 62 #[.pointer (some ⟨gs, 0, none⟩)] w fun e w' => AnsPost w (.int .i64 0) e w' := by
  have g0 : w.cell? ⟨gs, 0, none⟩ = some (.int .i64 0) := h.c0
  have g1 : w.cell? ⟨gs, 1, none⟩ = some v := h.c1
  have g2 : w.cell? ⟨gs, 2, none⟩ = some (.int .i64 0) := h.c2
  obtain ⟨gv, cv, rfl, hgv, hc1, hc2, k0, k1, k2, k3, k4, k5, k6, k7, k8, k9⟩ := sx_cells h
  have G0 := hide g0
  have G1 := hide g1
  have G2 := hide g2
  have KS : Hid (∀ W, Below w.heap.size w W → Calls Tryz.prog 63 #[.pointer (some ⟨gs, 0, none⟩)] W fun e w' => e = .returned (.int .i64 20) ∧ Below w.heap.size w w') := fun W hb => (segSize_any (h.keep (Touch.of_below (S := fun _ => False) hb) hgs (fun h => h) (fun _ _ h => h))).mono fun e w' h => ⟨h.1, by obtain ⟨n, hn⟩ := h.2; rw [hn]; exact below_drewN3 hb n⟩
  have KK : Hid (w.cell? ⟨gv, 0, none⟩ = some (.int .i64 0) ∧ w.cell? ⟨gv, 1, none⟩ = some (.int .i64 0) ∧ w.cell? ⟨gv, 2, none⟩ = some (.int .u64 0) ∧ w.cell? ⟨gv, 3, none⟩ = some (.int .i64 0) ∧ w.cell? ⟨gv, 4, none⟩ = some (.int .i64 0) ∧ w.cell? ⟨gv, 5, none⟩ = some (.bool false) ∧ w.cell? ⟨gv, 6, none⟩ = some (.bool false) ∧ w.cell? ⟨gv, 7, none⟩ = some (.bool false) ∧ w.cell? ⟨gv, 8, none⟩ = some (.slice a 3 c) ∧ w.cell? ⟨gv, 9, none⟩ = some (.int .i64 20)) := ⟨k0, k1, k2, k3, k4, k5, k6, k7, k8, k9⟩
  clear h
  go_enter Tryz.func62, Tryz.ntmps62
  go_wp2_with fail
  go_region_held3 (fun w' => w'.cell? ⟨gs, 2, none⟩ = some (.int .i64 0)) (first | exact (Below.cell (p := ⟨gs, 2, none⟩) (by first | assumption | (go_grown; done) | exact below_drewN3 (Below.refl _ _) _ | exact below_drewN3 (by assumption) _ | exact Below.drew (by assumption) | exact (below_drewN3 (Below.refl _ _) _).drew | exact Below.refl _ _) hgs).trans (unhide G2)) (first
    | (go_at_call 63; refine (unhide KS _ (by first | assumption | (go_grown; done) | exact below_drewN3 (Below.refl _ _) _ | exact below_drewN3 (by assumption) _ | exact Below.drew (by assumption) | exact (below_drewN3 (Below.refl _ _) _).drew | exact Below.refl _ _)).mono ?_; rintro e w1 ⟨rfl, b1⟩))
  all_goals
    have q0 : w1.cell? ⟨gs, 0, none⟩ = some (.int .i64 0) := (b1.cell (p := ⟨gs, 0, none⟩) hgs).trans (unhide G0)
    have q1 : w1.cell? ⟨gs, 1, none⟩ = some (.slice (some ⟨gv, 0, none⟩) 1 cv) := (b1.cell (p := ⟨gs, 1, none⟩) hgs).trans (unhide G1)
    have q2 : w1.cell? ⟨gs, 2, none⟩ = some (.int .i64 0) := (b1.cell (p := ⟨gs, 2, none⟩) hgs).trans (unhide G2)
    clear k0 k1 k2 k3 k4 k5 k6 k7 k8 k9
    have k0 : w1.cell? ⟨gv, 0, none⟩ = _ := (b1.cell (p := ⟨gv, 0, none⟩) hgv).trans (unhide KK).1
    have k1 : w1.cell? ⟨gv, 1, none⟩ = _ := (b1.cell (p := ⟨gv, 1, none⟩) hgv).trans (unhide KK).2.1
    have k2 : w1.cell? ⟨gv, 2, none⟩ = _ := (b1.cell (p := ⟨gv, 2, none⟩) hgv).trans (unhide KK).2.2.1
    have k3 : w1.cell? ⟨gv, 3, none⟩ = _ := (b1.cell (p := ⟨gv, 3, none⟩) hgv).trans (unhide KK).2.2.2.1
    have k4 : w1.cell? ⟨gv, 4, none⟩ = _ := (b1.cell (p := ⟨gv, 4, none⟩) hgv).trans (unhide KK).2.2.2.2.1
    have k5 : w1.cell? ⟨gv, 5, none⟩ = _ := (b1.cell (p := ⟨gv, 5, none⟩) hgv).trans (unhide KK).2.2.2.2.2.1
    have k6 : w1.cell? ⟨gv, 6, none⟩ = _ := (b1.cell (p := ⟨gv, 6, none⟩) hgv).trans (unhide KK).2.2.2.2.2.2.1
    have k7 : w1.cell? ⟨gv, 7, none⟩ = _ := (b1.cell (p := ⟨gv, 7, none⟩) hgv).trans (unhide KK).2.2.2.2.2.2.2.1
    have k8 : w1.cell? ⟨gv, 8, none⟩ = _ := (b1.cell (p := ⟨gv, 8, none⟩) hgv).trans (unhide KK).2.2.2.2.2.2.2.2.1
    have k9 : w1.cell? ⟨gv, 9, none⟩ = _ := (b1.cell (p := ⟨gv, 9, none⟩) hgv).trans (unhide KK).2.2.2.2.2.2.2.2.2
    have hgs1 : gs < w1.heap.size := Nat.lt_of_lt_of_le hgs b1.size
    have yA : ∀ X, (w1.alloc X).cell? ⟨gs, 2, none⟩ = some (.int .i64 0) := fun X => (((Below.refl w1.heap.size w1).alloc (Nat.le_refl _) X).cell (p := ⟨gs, 2, none⟩) hgs1).trans q2
    have B1 := hide b1
    clear b1
    go_wp2_with fail
    go_loopw [3, 24] (fun p q wr => p = .int .i64 0 ∧ q = .int .i64 0 ∧ wr = w1) (fun _ _ _ => 0)
    case atStart => exact ⟨rfl, rfl, rfl⟩
    case round =>
      obtain ⟨rfl, rfl, rfl⟩ := hrel
      go_wp2_with fail
      go_quiet (fail)
      go_wp2
      go_returns
      exact AnsPost.mk rfl (below_drewN3 ((unhide B1).alloc (unhide B1).size _) _)
set_option maxRecDepth 100000 in
set_option maxHeartbeats 2000000 in
theorem synced1 (h : Lg1 B w lb db S (one f0 t3 0) p0 gs cap (sx v a c 0)) : Calls Tryz.prog 23 #[.pointer (some ⟨lb, 0, none⟩)] w fun e w' => AnsPost w (.int .i64 0) e w' := by
  obtain ⟨x0, x1, x2⟩ := h.ready.outer
  simp only at x0 x1 x2
  have hgs := h.glt
  have g2 : w.cell? ⟨gs, 2, none⟩ = some (.int .i64 0) := h.sg.c2
  have G2 := hide g2
  have ST := hide (start1 h)
  have SS := hide (segSynced h.sg hgs)
  have KS := hide (sizeC h)
  have hcap : 1 ≤ cap ∧ cap ≤ 9223372036854775807 := by
    obtain ⟨_, _, e, h1, h2, _⟩ := h.row.parts
    cases e
    unfold maxLen at h2
    exact ⟨h1, by omega⟩
  obtain ⟨hc1, hc2⟩ := hcap
  clear h g2
  go_enter Tryz.func23, Tryz.ntmps23
  go_wp2_with fail
  refine (unhide ST).mono ?_
  rintro e w0 ⟨rfl, rfl⟩
  go_wp2_with fail
  go_loopw [3, 15] (fun p q wr => p = .int .i64 0 ∧ q = .int .i64 0 ∧ wr = w0) (fun _ _ _ => 0)
  case atStart => exact ⟨rfl, rfl, rfl⟩
  case round =>
    obtain ⟨rfl, rfl, rfl⟩ := hrel
    go_wp2_with fail
    refine (unhide SS).mono ?_
    rintro e w1 ⟨rfl, b1⟩
    go_wp2_with fail
    go_region_held3 (fun w' => w'.cell? ⟨gs, 2, none⟩ = some (.int .i64 0)) (first | exact (Below.cell (p := ⟨gs, 2, none⟩) (by first | assumption | (go_grown; done) | exact below_drewN3 (Below.refl _ _) _ | exact below_drewN3 (by assumption) _ | exact Below.drew (by assumption) | exact (below_drewN3 (Below.refl _ _) _).drew | exact Below.refl _ _) hgs).trans (unhide G2)) (first
      | (go_at_call 63; refine (unhide KS _ (by first | assumption | (go_grown; done) | exact below_drewN3 (Below.refl _ _) _ | exact below_drewN3 (by assumption) _ | exact Below.drew (by assumption) | exact (below_drewN3 (Below.refl _ _) _).drew | exact Below.refl _ _)).mono ?_; rintro e w2 ⟨rfl, b2⟩))
    all_goals
      have B2 := hide b2
      clear b2 b1
      go_wp2
      go_returns
      exact AnsPost.mk rfl (unhide B2)
end
end Go.Proofs.YtkcoeofbobkaoabGreatDoor
