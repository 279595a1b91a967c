/-
  seglog's bases of a disk without files, and of one whose only file is that of offset 0 of the log "p0". No conditions.
-/
import Derived.Test.YtkcoeofbobkaoabGreatDoorDc8
import Derived.Test.YtkcoeofbobkaoabGreatDoorNm5
import Derived.Lib.OthersKept
import Derived.WalkMore

/-
  slices.Sort of at most one thing; the Names of a disk without files; seglog's isName of "p0". No conditions.
-/
namespace Go.Proofs.YtkcoeofbobkaoabGreatDoor
open Go.RowKit Go.Maps
set_option linter.unusedVariables false

set_option maxRecDepth 100000 in
theorem len64_any (n : Nat) (hn : n = 0 ∨ n = 1) (w : World) : Calls Tryz.prog 107 #[.int .u64 (n : Nat)] w fun e w' => (∃ m, e = .returned (.int .i64 m)) ∧ w' = w := by
  rcases hn with rfl | rfl
  all_goals go_enter Tryz.func107, Tryz.ntmps107
  all_goals go_wp2
  all_goals go_returns
  all_goals exact ⟨⟨_, rfl⟩, rfl⟩
set_option maxRecDepth 100000 in
theorem len_any (n : Nat) (hn : n = 0 ∨ n = 1) (w : World) : Calls Tryz.prog 75 #[.int .u64 (n : Nat)] w fun e w' => (∃ m, e = .returned (.int .i64 m)) ∧ w' = w := by
  have L := hide (len64_any n hn w)
  rcases hn with rfl | rfl
  all_goals go_enter Tryz.func75, Tryz.ntmps75
  all_goals go_wp2_with fail
  all_goals refine (unhide L).mono ?_
  all_goals rintro e w1 ⟨⟨m, rfl⟩, rfl⟩
  all_goals go_wp2
  all_goals go_returns
  all_goals exact ⟨⟨_, rfl⟩, rfl⟩
set_option maxRecDepth 100000 in
theorem insI_any (n : Nat) (hn : n = 0 ∨ n = 1) (a : Option Addr) (cap : Nat) (w : World) : Calls Tryz.prog 139 #[.slice a n cap, .int .i64 0, .int .i64 (n : Nat)] w fun e w' => e = .returned (.tuple #[]) ∧ w' = w := by
  rcases hn with rfl | rfl
  all_goals go_enter Tryz.func139, Tryz.ntmps139
  all_goals go_wp2_with fail
  all_goals go_loopw [6] (fun pl wr => pl = .int .i64 1 ∧ wr = w) (fun _ _ => 0)
  case atStart => exact ⟨rfl, rfl⟩
  case round =>
    obtain ⟨rfl, rfl⟩ := hrel
    go_wp2
    go_returns
    exact ⟨rfl, rfl⟩
  case atStart => exact ⟨rfl, rfl⟩
  case round =>
    obtain ⟨rfl, rfl⟩ := hrel
    go_wp2
    go_returns
    exact ⟨rfl, rfl⟩
set_option maxRecDepth 100000 in
theorem pdqI_any (n : Nat) (hn : n = 0 ∨ n = 1) (a : Option Addr) (cap : Nat) (m : Int) (w : World) : Calls Tryz.prog 120 #[.slice a n cap, .int .i64 0, .int .i64 (n : Nat), .int .i64 m] w fun e w' => e = .returned (.tuple #[]) ∧ w' = w := by
  have I := hide (insI_any n hn a cap w)
  rcases hn with rfl | rfl
  · go_enter Tryz.func120, Tryz.ntmps120
    go_wp2_with fail
    go_loopw [1, 2] (fun p q wr => p = .int .i64 0 ∧ q = .int .i64 0 ∧ wr = w) (fun _ _ _ => 0)
    case atStart => exact ⟨rfl, rfl, rfl⟩
    case round =>
      obtain ⟨rfl, rfl, rfl⟩ := hrel
      go_wp2_with fail
      refine (unhide I).mono ?_
      rintro e w1 ⟨rfl, rfl⟩
      go_wp2
      go_returns
      exact ⟨rfl, rfl⟩
  · go_enter Tryz.func120, Tryz.ntmps120
    go_wp2_with fail
    go_loopw [1, 2] (fun p q wr => p = .int .i64 0 ∧ q = .int .i64 1 ∧ wr = w) (fun _ _ _ => 0)
    case atStart => exact ⟨rfl, rfl, rfl⟩
    case round =>
      obtain ⟨rfl, rfl, rfl⟩ := hrel
      go_wp2_with fail
      refine (unhide I).mono ?_
      rintro e w1 ⟨rfl, rfl⟩
      go_wp2
      go_returns
      exact ⟨rfl, rfl⟩
set_option maxRecDepth 100000 in
theorem sortI_any (n : Nat) (hn : n = 0 ∨ n = 1) (a : Option Addr) (cap : Nat) (w : World) : Calls Tryz.prog 94 #[.slice a n cap] w fun e w' => e = .returned (.tuple #[]) ∧ w' = w := by
  have L := hide (len_any n hn w)
  have Q : Hid (∀ m, Calls Tryz.prog 120 #[.slice a n cap, .int .i64 0, .int .i64 (n : Nat), .int .i64 m] w fun e w' => e = .returned (.tuple #[]) ∧ w' = w) := fun m => pdqI_any n hn a cap m w
  rcases hn with rfl | rfl
  all_goals go_enter Tryz.func94, Tryz.ntmps94
  all_goals go_wp2_with fail
  all_goals refine (unhide L).mono ?_
  all_goals rintro e w1 ⟨⟨m, rfl⟩, rfl⟩
  all_goals go_wp2_with fail
  all_goals refine (unhide Q m).mono ?_
  all_goals rintro e w1 ⟨rfl, rfl⟩
  all_goals go_wp2
  all_goals go_returns
  all_goals exact ⟨rfl, rfl⟩
set_option maxRecDepth 100000 in
theorem insS_any (n : Nat) (hn : n = 0 ∨ n = 1) (a : Option Addr) (cap : Nat) (w : World) : Calls Tryz.prog 97 #[.slice a n cap, .int .i64 0, .int .i64 (n : Nat)] w fun e w' => e = .returned (.tuple #[]) ∧ w' = w := by
  rcases hn with rfl | rfl
  all_goals go_enter Tryz.func97, Tryz.ntmps97
  all_goals go_wp2_with fail
  all_goals go_loopw [6] (fun pl wr => pl = .int .i64 1 ∧ wr = w) (fun _ _ => 0)
  case atStart => exact ⟨rfl, rfl⟩
  case round =>
    obtain ⟨rfl, rfl⟩ := hrel
    go_wp2
    go_returns
    exact ⟨rfl, rfl⟩
  case atStart => exact ⟨rfl, rfl⟩
  case round =>
    obtain ⟨rfl, rfl⟩ := hrel
    go_wp2
    go_returns
    exact ⟨rfl, rfl⟩
set_option maxRecDepth 100000 in
theorem pdqS_any (n : Nat) (hn : n = 0 ∨ n = 1) (a : Option Addr) (cap : Nat) (m : Int) (w : World) : Calls Tryz.prog 74 #[.slice a n cap, .int .i64 0, .int .i64 (n : Nat), .int .i64 m] w fun e w' => e = .returned (.tuple #[]) ∧ w' = w := by
  have I := hide (insS_any n hn a cap w)
  rcases hn with rfl | rfl
  · go_enter Tryz.func74, Tryz.ntmps74
    go_wp2_with fail
    go_loopw [1, 2] (fun p q wr => p = .int .i64 0 ∧ q = .int .i64 0 ∧ wr = w) (fun _ _ _ => 0)
    case atStart => exact ⟨rfl, rfl, rfl⟩
    case round =>
      obtain ⟨rfl, rfl, rfl⟩ := hrel
      go_wp2_with fail
      refine (unhide I).mono ?_
      rintro e w1 ⟨rfl, rfl⟩
      go_wp2
      go_returns
      exact ⟨rfl, rfl⟩
  · go_enter Tryz.func74, Tryz.ntmps74
    go_wp2_with fail
    go_loopw [1, 2] (fun p q wr => p = .int .i64 0 ∧ q = .int .i64 1 ∧ wr = w) (fun _ _ _ => 0)
    case atStart => exact ⟨rfl, rfl, rfl⟩
    case round =>
      obtain ⟨rfl, rfl, rfl⟩ := hrel
      go_wp2_with fail
      refine (unhide I).mono ?_
      rintro e w1 ⟨rfl, rfl⟩
      go_wp2
      go_returns
      exact ⟨rfl, rfl⟩
set_option maxRecDepth 100000 in
theorem sortS_any (n : Nat) (hn : n = 0 ∨ n = 1) (a : Option Addr) (cap : Nat) (w : World) : Calls Tryz.prog 49 #[.slice a n cap] w fun e w' => e = .returned (.tuple #[]) ∧ w' = w := by
  have L := hide (len_any n hn w)
  have Q : Hid (∀ m, Calls Tryz.prog 74 #[.slice a n cap, .int .i64 0, .int .i64 (n : Nat), .int .i64 m] w fun e w' => e = .returned (.tuple #[]) ∧ w' = w) := fun m => pdqS_any n hn a cap m w
  rcases hn with rfl | rfl
  all_goals go_enter Tryz.func49, Tryz.ntmps49
  all_goals go_wp2_with fail
  all_goals refine (unhide L).mono ?_
  all_goals rintro e w1 ⟨⟨m, rfl⟩, rfl⟩
  all_goals go_wp2_with fail
  all_goals refine (unhide Q m).mono ?_
  all_goals rintro e w1 ⟨rfl, rfl⟩
  all_goals go_wp2
  all_goals go_returns
  all_goals exact ⟨rfl, rfl⟩
end Go.Proofs.YtkcoeofbobkaoabGreatDoor


/-
  The Names of a disk without files; seglog's isName of "p0"; seglog's bases of a disk without files, and of one with the file of offset 0. No conditions.
-/
namespace Go.Proofs.YtkcoeofbobkaoabGreatDoor
open Go.RowKit Go.Maps
set_option linter.unusedVariables false

section
variable {w : World} {db : Nat} {S : Nat → Prop} {d : Dk}
set_option maxRecDepth 100000 in
set_option maxHeartbeats 1000000 in
theorem dnames0 (h : Disky w db S d) (h0 : d.fs = []) :
    Calls Tryz.prog 17 #[.pointer (some ⟨db, 0, none⟩)] w fun e w' => AnsPost w (.slice none 0 0) e w' := by
  obtain ⟨⟨mv, fl, h1, h2, h3⟩, hlt⟩ := h
  obtain ⟨fs, armed, fuse, dead⟩ := d
  simp only at h1 h2 h0 ⊢
  subst h0
  obtain rfl : fl = [] := List.map_eq_nil_iff.1 h2
  have c0 : w.cell? ⟨db, 0, none⟩ = some mv := h1.cell 0
  have MV : Hid ((mv = .map none ∧ ([] : Prs) = []) ∨ ∃ mb, mv = .map (some mb) ∧ FM w mb []) := h1.map.imp (fun h => ⟨h.1, rfl⟩) id
  clear h1 hlt h2 h3
  go_enter Tryz.func17, Tryz.ntmps17
  go_wp2_with (at_range; refine wpList_itrange _ rfl _ rfl mv [] rfl (unhide MV) ?_)
  intro w2 it2 t2
  have IT2 := hide it2
  have B2 : Hid (Below w.heap.size w w2) := ⟨t2.os, t2.tape, t2.output, t2.size, fun k hk => t2.block k hk (fun h => h)⟩
  clear it2 t2 MV c0
  go_wp2_with fail
  go_loopw [3, 4] (fun pv sl wr => ∃ v1 : Value, v1 = pv ∧ v1 = .slice none 0 0 ∧ wr = w2) (fun _ _ wr => 0)
  case atStart => exact ⟨_, rfl, rfl, rfl⟩
  case round =>
    obtain ⟨v1, rfl, hv1, rfl⟩ := hrel
    have HV := hide hv1
    clear hv1
    obtain ⟨td, htd⟩ : ∃ td : Prs, td = [] := ⟨[], rfl⟩
    have IT3 : Hid (IT wr mv w.heap.size td td) := by rw [htd]; exact unhide IT2
    have HTD := hide htd
    clear htd IT2
    go_wp2_with (at_next; refine wpList_itnext _ rfl _ rfl mv w.heap.size td td rfl (unhide IT3) ?_ ?_)
    · intro htd
      clear htd
      have SO : Hid (Calls Tryz.prog 49 #[v1] wr fun e w' => e = .returned (.tuple #[]) ∧ w' = wr) := by rw [unhide HV]; exact sortS_any 0 (.inl rfl) none 0 wr
      go_wp2_with fail
      refine (unhide SO).mono ?_
      rintro e w3 ⟨rfl, rfl⟩
      go_wp2
      go_returns
      exact AnsPost.mk (by rw [← unhide HV]; rfl) (unhide B2)
    · intro s g w3 hsg
      rw [unhide HTD] at hsg
      cases hsg
end

abbrev p0 : ByteArray := ⟨#[112, 48]⟩
theorem iter_below (w : World) (s : ByteArray) : Below w.heap.size w (w.iter s 0) := (Below.refl _ _).alloc (Nat.le_refl _) _
theorem iter_at (w : World) (s : ByteArray) : (w.iter s 0).heap[w.heap.size]? = some (.stringIter s 0) := World.iter_heap w s 0
set_option maxRecDepth 100000 in
set_option maxHeartbeats 1000000 in
theorem isname8_any (w : World) :
    Calls Tryz.prog 39 #[.string p0] w fun e w' => AnsPost w (.bool true) e w' := by
  have I0 := hide (iter_below w p0)
  have H0 := hide (iter_at w p0)
  go_enter Tryz.func39, Tryz.ntmps39
  go_wp2_with fail
  go_loopw [4] (fun pl wr => ∃ pos, pos ≤ 2 ∧ wr.heap[w.heap.size]? = some (.stringIter p0 pos) ∧ Below w.heap.size w wr) (fun _ wr => 2 - wr.iterPos w.heap.size)
  case atStart => exact ⟨0, by omega, unhide H0, unhide I0⟩
  case round =>
    obtain ⟨pos, hp, hk, hb⟩ := hrel
    have hmu : wr.iterPos w.heap.size = pos := by simp [World.iterPos, hk]
    have HB := hide hb
    have hsz : p0.size = 2 := rfl
    obtain rfl | rfl | rfl : pos = 0 ∨ pos = 1 ∨ pos = 2 := by omega
    · have hnext : ∀ ty, (Instr.next (.pointer (some ⟨w.heap.size, 0, none⟩)) true ty).run Tryz.prog wr = .ok (.tuple #[.bool true, .int .i64 (0 : Nat), .int .i32 112]) (wr.iterAt w.heap.size p0 (0 + 1)) := fun ty => Lib.run_next_ascii_at wr w.heap.size p0 0 ty hk (by decide) (by decide)
      have K1 : Hid ((wr.iterAt w.heap.size p0 (0 + 1)).heap[w.heap.size]? = some (.stringIter p0 (0 + 1))) := Lib.iterAt_heap wr w.heap.size p0 0 (0 + 1) hk
      have B1 : Hid (Below w.heap.size w (wr.iterAt w.heap.size p0 (0 + 1))) := Lib.below_iterAt hb (Nat.le_refl _) p0 (0 + 1)
      have HM := hide hmu
      have hcv : ∀ W, Sem.run Tryz.prog (convert 21 9 (.int .i32 112)) W = .ok (.string ⟨#[112]⟩) W := fun W => by
        simp [convert, run_underlying Tryz.underlying21, run_underlying Tryz.underlying9, Result.andThen]
        rfl
      clear hk hb hmu
      generalize wr.iterAt w.heap.size p0 (0 + 1) = W1 at *
      go_wp2
      go_roundw
      case rel => exact ⟨0 + 1, by omega, unhide K1, unhide B1⟩
      case measure =>
        have h2 : W1.iterPos w.heap.size = 0 + 1 := by have := unhide K1; simp [World.iterPos, this]
        rw [unhide HM, h2]
        omega
    · have hnext : ∀ ty, (Instr.next (.pointer (some ⟨w.heap.size, 0, none⟩)) true ty).run Tryz.prog wr = .ok (.tuple #[.bool true, .int .i64 (1 : Nat), .int .i32 48]) (wr.iterAt w.heap.size p0 (1 + 1)) := fun ty => Lib.run_next_ascii_at wr w.heap.size p0 1 ty hk (by decide) (by decide)
      have K1 : Hid ((wr.iterAt w.heap.size p0 (1 + 1)).heap[w.heap.size]? = some (.stringIter p0 (1 + 1))) := Lib.iterAt_heap wr w.heap.size p0 1 (1 + 1) hk
      have B1 : Hid (Below w.heap.size w (wr.iterAt w.heap.size p0 (1 + 1))) := Lib.below_iterAt hb (Nat.le_refl _) p0 (1 + 1)
      have HM := hide hmu
      have hcv : ∀ W, Sem.run Tryz.prog (convert 21 9 (.int .i32 48)) W = .ok (.string ⟨#[48]⟩) W := fun W => by
        simp [convert, run_underlying Tryz.underlying21, run_underlying Tryz.underlying9, Result.andThen]
        rfl
      clear hk hb hmu
      generalize wr.iterAt w.heap.size p0 (1 + 1) = W1 at *
      go_wp2
      go_roundw
      case rel => exact ⟨1 + 1, by omega, unhide K1, unhide B1⟩
      case measure =>
        have h2 : W1.iterPos w.heap.size = 1 + 1 := by have := unhide K1; simp [World.iterPos, this]
        rw [unhide HM, h2]
        omega
    · have hnext : ∀ ty, (Instr.next (.pointer (some ⟨w.heap.size, 0, none⟩)) true ty).run Tryz.prog wr = .ok (.tuple #[.bool false]) wr := fun ty => Lib.run_next_end_at wr w.heap.size p0 2 ty hk (by decide)
      clear hk hb
      go_wp2
      go_returns
      exact AnsPost.mk rfl (unhide HB)
end Go.Proofs.YtkcoeofbobkaoabGreatDoor


namespace Go.Proofs.YtkcoeofbobkaoabGreatDoor
open Go.RowKit Go.Maps Go.Shelf
set_option linter.unusedVariables false

abbrev f0 : ByteArray := ⟨#[112, 48, 46, 48, 48, 48, 48, 48, 48, 48, 48]⟩
abbrev z8 : ByteArray := ⟨#[48, 48, 48, 48, 48, 48, 48, 48]⟩
theorem fileN_zero : fileN p0 0 = f0 := by
  have h : Lib.decDigits 0 = [48] := by rw [Lib.decDigits]; rfl
  unfold fileN
  rw [h]
  rfl
theorem z8_at : ∀ pos (h : pos < 8), (z8[pos]'h).toNat = 48 := by decide
theorem cutp (w : World) : Calls Tryz.prog 93 #[.string f0, .string ⟨#[112, 48, 46]⟩] w fun e w' => e = .returned (.tuple #[.string z8, .bool true]) ∧ w' = w :=
  Any.strings_CutPrefix Tryz.lays103 f0 ⟨#[112, 48, 46]⟩ w
section
variable {w : World} {lb db : Nat} {S : Nat → Prop} {d : Dk} {sv : Value}
set_option maxRecDepth 100000 in
theorem bases0 (hr : Ready (Ot db p0 sv) w lb) (hd : Disky w db S d) (h0 : d.fs = []) :
    Calls Tryz.prog 68 #[.pointer (some ⟨lb, 0, none⟩)] w fun e w' => AnsPost w (.slice none 0 0) e w' := by
  obtain ⟨x0, x1, x2⟩ := hr.outer
  simp only at x0 x1 x2
  have NM := hide (dnames0 hd h0)
  clear hr hd
  go_enter Tryz.func68, Tryz.ntmps68
  go_wp2_with fail
  go_step3
  go_wp2_with fail
  go_step3
  go_wp2_with fail
  refine (unhide NM).mono ?_
  rintro e w1 ⟨rfl, b1⟩
  have B1 := hide b1
  clear b1 NM x0 x1 x2
  go_wp2_with fail
  go_loopw [3, 18] (fun pv pl wr => ∃ v1 : Value, v1 = pv ∧ v1 = .slice none 0 0 ∧ pl = .int .i64 0 ∧ wr = w1) (fun _ _ _ => 0)
  case atStart => exact ⟨_, rfl, rfl, rfl, rfl⟩
  case round =>
    obtain ⟨v1, rfl, hv, rfl, rfl⟩ := hrel
    have HV := hide hv
    have SO : Hid (Calls Tryz.prog 94 #[v1] wr fun e w' => e = .returned (.tuple #[]) ∧ w' = wr) := by rw [hv]; exact sortI_any 0 (.inl rfl) none 0 wr
    clear hv
    go_wp2_with fail
    refine (unhide SO).mono ?_
    rintro e w3 ⟨rfl, rfl⟩
    go_wp2
    go_returns
    exact AnsPost.mk (by rw [← unhide HV]; rfl) (unhide B1)

/-- The list [0]. -/
def BsPost (w : World) (e : Ending) (w' : World) : Prop := ∃ g cap, e = .returned (.slice (some ⟨g, 0, none⟩) 1 cap) ∧ w'.cell? ⟨g, 0, none⟩ = some (.int .i64 0) ∧ g < w'.heap.size ∧ w.heap.size ≤ g ∧ 1 ≤ cap ∧ cap ≤ maxLen ∧ Below w.heap.size w w'
set_option maxRecDepth 100000 in
set_option maxHeartbeats 4000000 in
theorem bases1 (hr : Ready (Ot db p0 sv) w lb) (hd : Disky w db S d) {t : List Nat} {la : Nat} (h1 : d.fs = [⟨f0, t, la⟩]) :
    Calls Tryz.prog 68 #[.pointer (some ⟨lb, 0, none⟩)] w fun e w' => BsPost w e w' := by
  obtain ⟨x0, x1, x2⟩ := hr.outer
  simp only at x0 x1 x2
  have hlb := hr.lt
  have NM := hide (dnames_any hd (by rw [h1]; simp))
  clear hr hd
  go_enter Tryz.func68, Tryz.ntmps68
  go_wp2_with fail
  go_step3
  go_wp2_with fail
  go_step3
  go_wp2_with fail
  refine (unhide NM).mono ?_
  rintro e w1 ⟨v1, nl, rfl, nt⟩
  have hnl : nl = [f0] := by
    have := nt.perm
    rw [h1] at this
    exact List.perm_singleton.1 this
  subst hnl
  have x1' : w1.cell? ⟨lb, 1, none⟩ = some (.string p0) := (nt.below.cell (p := ⟨lb, 1, none⟩) hlb).trans x1
  obtain ⟨a1, c1, e1, _, _, _, _, hc⟩ := nt.own.parts
  obtain ⟨g1, rfl, hg1, hcell, _⟩ := hc 0 (by simp [strs])
  simp [strs] at e1 hcell
  subst e1
  have NB := hide nt.below
  have hlb1 : lb < w1.heap.size := Nat.lt_of_lt_of_le hlb nt.below.size
  clear nt hc NM x0 x1 x2 h1
  go_wp2_with fail
  go_loopw [3, 18] (fun pv pl wr => (pl = .int .i64 0 ∧ (∃ v0 : Value, v0 = pv ∧ v0 = .slice none 0 0) ∧ wr = w1) ∨ (pl = .int .i64 1 ∧ ∃ v, v = pv ∧ Own wr 3 v [.int .i64 0] ∧ New w1 v ∧ Below w1.heap.size w1 wr)) (fun _ pl _ => 1 - (intOf pl).toNat)
  case atStart => exact .inl ⟨rfl, ⟨_, rfl, rfl⟩, rfl⟩
  case round =>
    rcases hrel with ⟨rfl, ⟨v0, rfl, hv0⟩, rfl⟩ | ⟨rfl, v2, rfl, ho, hn, hb⟩
    · have HV0 := hide hv0
      clear hv0
      have CP := hide (cutp wr)
      have I0 := hide (iter_below wr z8)
      have H0 := hide (iter_at wr z8)
      go_wp2_with fail
      refine (unhide CP).mono ?_
      rintro e w2 ⟨rfl, rfl⟩
      clear CP
      go_wp2_with fail
      have hz8 : z8.size = 8 := rfl
      obtain ⟨ti, hi, hz, hsz, hby⟩ := int_info
      have HI := hide hi
      have HZ := hide hz
      clear hi hz
      go_loopw [8] (fun pb wr => pb = .int .i64 0 ∧ ∃ pos, pos ≤ 8 ∧ wr.heap[w2.heap.size]? = some (.stringIter z8 pos) ∧ Below w2.heap.size w2 wr) (fun _ wr => 8 - wr.iterPos w2.heap.size)
      case atStart => exact ⟨rfl, 0, by omega, unhide H0, unhide I0⟩
      case round =>
        obtain ⟨rfl, pos, hp, hk, hb⟩ := hrel
        have hmu : wr.iterPos w2.heap.size = pos := by simp [World.iterPos, hk]
        have HM := hide hmu
        have HB := hide hb
        by_cases hpos : pos < 8
        · have hch := z8_at pos hpos
          have hnext : ∀ ty, (Instr.next (.pointer (some ⟨w2.heap.size, 0, none⟩)) true ty).run Tryz.prog wr = .ok (.tuple #[.bool true, .int .i64 (pos : Nat), .int .i32 48]) (wr.iterAt w2.heap.size z8 (pos + 1)) := fun ty => by
            have := Lib.run_next_ascii_at (P := Tryz.prog) wr w2.heap.size z8 pos ty hk hpos (by rw [hch]; decide)
            rw [hch] at this
            exact this
          have K1 : Hid ((wr.iterAt w2.heap.size z8 (pos + 1)).heap[w2.heap.size]? = some (.stringIter z8 (pos + 1))) := Lib.iterAt_heap wr w2.heap.size z8 pos (pos + 1) hk
          have B1 : Hid (Below w2.heap.size w2 (wr.iterAt w2.heap.size z8 (pos + 1))) := Lib.below_iterAt hb (Nat.le_refl _) z8 (pos + 1)
          clear hk hb hmu hch
          generalize wr.iterAt w2.heap.size z8 (pos + 1) = W1 at *
          go_wp2
          go_roundw
          case rel => exact ⟨rfl, pos + 1, by omega, unhide K1, unhide B1⟩
          case measure =>
            have h2 : W1.iterPos w2.heap.size = pos + 1 := by have := unhide K1; simp [World.iterPos, this]
            rw [unhide HM, h2]
            omega
        · have hnext : ∀ ty, (Instr.next (.pointer (some ⟨w2.heap.size, 0, none⟩)) true ty).run Tryz.prog wr = .ok (.tuple #[.bool false]) wr := fun ty => Lib.run_next_end_at wr w2.heap.size z8 pos ty hk (by omega)
          clear hk hb hmu HM
          have SRC : Hid (∀ j u, ([Value.int .i64 0] : List Value)[j]? = some u → ∃ b off, some (⟨wr.heap.size, 0, none⟩ : Addr) = some ⟨b, off, none⟩ ∧ (wr.alloc (.cells #[.int .i64 0] 3)).cell? ⟨b, off + j, none⟩ = some u) := fun j u hj => by
            match j, hj with
            | 0, hj => cases hj; exact ⟨_, 0, rfl, cell_of (heap_new _ _) 0⟩
          have OWN : Hid (Own (wr.alloc (.cells #[.int .i64 0] 3)) 3 v0 []) := by rw [unhide HV0]; exact Own.nil _ _
          have ONE : Hid (∀ u ∈ ([Value.int .i64 0] : List Value), u.oneCell' = true) := by intro u hu; rw [List.mem_singleton] at hu; subst hu; rfl
          go_wp2_with (at_builtin; refine wpList_app _ rfl (.tmp 74) (.tmp 76) 53 rfl 3 ti (.int .i64 0) 8 Tryz.underlying53 (unhide HI) (unhide HZ) hsz hby rfl v0 [] rfl (unhide OWN) (some ⟨wr.heap.size, 0, none⟩) 1 1 [.int .i64 0] rfl rfl (unhide SRC) (unhide ONE) (fun h => by cases h) (by decide) (by decide) ?_)
          intro v4 w4 o4 t4 m4
          have NX : Hid (Own w4 3 v4 [.int .i64 0] ∧ New w2 v4 ∧ Below w2.heap.size w2 w4) := by
            have hsz3 := (unhide HB).size
            refine ⟨o4, fun k hk => ?_, ?_⟩
            · rcases m4 k hk with e | e
              · rw [unhide HV0] at e; simp [Value.ownBlock] at e
              · simp at e; omega
            · exact below_touch (below_touch (unhide HB) ((Touch.refl (fun _ => False) wr).alloc _) hsz3 (fun _ h => h.elim)) t4 (by simp; omega) (fun k hk => by rw [unhide HV0] at hk; simp [Value.ownBlock] at hk)
          obtain ⟨a4, n4, c4, rfl⟩ := own_shape o4
          clear o4 t4 m4
          go_wp2
          go_roundw
          case rel => exact .inr ⟨rfl, _, rfl, unhide NX⟩
          case measure => simp [intOf]
    · obtain ⟨a2, c2, rfl, hc2, hm2, _, _, hpt⟩ := ho.parts
      obtain ⟨g2, rfl, hg2, hcell2, _⟩ := hpt 0 (by simp)
      have SO : Hid (Calls Tryz.prog 94 #[.slice (some ⟨g2, 0, none⟩) 1 c2] wr fun e w' => e = .returned (.tuple #[]) ∧ w' = wr) := sortI_any 1 (.inr rfl) _ c2 wr
      have F : Hid (BsPost w (.returned (.slice (some ⟨g2, 0, none⟩) 1 c2)) wr) := ⟨g2, c2, rfl, by simpa using hcell2, hg2, Nat.le_trans (unhide NB).size (hn g2 rfl), by simpa using hc2, hm2, (unhide NB).trans (hb.mono (unhide NB).size)⟩
      clear ho hn hb hpt hcell2
      go_wp2_with fail
      refine (unhide SO).mono ?_
      rintro e w3 ⟨rfl, rfl⟩
      go_wp2
      go_returns
      exact unhide F
end
end Go.Proofs.YtkcoeofbobkaoabGreatDoor
