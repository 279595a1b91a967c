/-
  The inner calls keep and crash of a file, add and drop of a disk. Conditions: what the file and the disk are.
-/
import Derived.Test.YtfdpnfeaagijhaaDk1
import Derived.Deep.RegionHeld3

namespace Go.Proofs.Ytfdpnfeaagijhaa
open Go.RowKit Go.Maps
set_option linter.unusedVariables false

section
variable {w : World} {f : Fl}
theorem FileAt.cell0 (h : FileAt w f) : w.cell? ⟨f.fb, 0, none⟩ = some f.v := cell_of h.heap 0
theorem FileAt.cell1 (h : FileAt w f) : w.cell? ⟨f.fb, 1, none⟩ = some (.int .i64 (f.last : Nat)) := cell_of h.heap 1
theorem FileAt.frozen (h : FileAt w f) (i : Nat) : w.frozen? ⟨f.fb, i, none⟩ = false := frozen_of h.heap i
theorem FileAt.row_ne (h : FileAt w f) : ∀ k, f.v.ownBlock = some k → k ≠ f.fb := fun k hk e => by
  obtain ⟨cs, h1⟩ := row_heap h.row hk
  rw [e, h.heap] at h1
  simp at h1

/-- What a file has become: the same name and block, its row or a new one. -/
structure FileTo (w w' : World) (f f' : Fl) : Prop where
  nm : f'.nm = f.nm
  fb : f'.fb = f.fb
  at_ : FileAt w' f'
  touch : Touch (· = f.fb) w w'
  row : ∀ k, f'.v.ownBlock = some k → f.v.ownBlock = some k ∨ w.heap.size ≤ k

def KeptTo (w w' : World) (f : Fl) (text : List Nat) (last : Nat) : Prop := ∃ f', FileTo w w' f f' ∧ f'.text = text ∧ f'.last = last

set_option maxRecDepth 100000 in
theorem keep_any (h : FileAt w f) (n : Nat) (hn : n ≤ f.text.length) (hl : f.text.length ≤ 4194304) :
    Calls Try.prog 41 #[.pointer (some ⟨f.fb, 0, none⟩), .int .i64 (n : Nat)] w fun e w' => e = .returned (.tuple #[]) ∧ KeptTo w w' f (f.text.take n) (min f.last n) := by
  have hlast := h.last
  obtain ⟨a, cap, ev, la, hcap, _, hnil, hob, _⟩ := h.row.parts
  have c0 : w.cell? ⟨f.fb, 0, none⟩ = some (.slice a f.text.length cap) := by rw [← ev]; exact h.cell0
  have c1 := h.cell1
  have z0 := h.frozen 0
  have z1 := h.frozen 1
  have hmin : min (f.last : Int) (n : Int) = ((min f.last n : Nat) : Int) := by omega
  by_cases hlt : n < f.text.length
  · have hlt' : (n : Int) < (f.text.length : Int) := by omega
    have hsl := slice_h a f.text.length cap n (by omega)
    have htl : (f.text.take n).length = n := by rw [List.length_take]; omega
    have CL := clone_any a (f.text.take n) cap w (la.take n) hnil (by omega)
    rw [htl] at CL
    have CLH := hide CL
    have HF := hide h
    clear CL la h hob htl
    have HEV := hide ev
    clear ev
    go_enter Try.func41, Try.ntmps41
    go_wp2_with fail
    refine (unhide CLH).mono ?_
    rintro e w1 ⟨v1, rfl, r1, n1, b1⟩
    have hb1 : w1.heap[f.fb]? = some (.cells #[f.v, .int .i64 (f.last : Nat)] 77) := below_keep b1 (unhide HF).heap
    have d0 : w1.cell? ⟨f.fb, 0, none⟩ = some f.v := cell_of hb1 0
    have d1 : w1.cell? ⟨f.fb, 1, none⟩ = some (.int .i64 (f.last : Nat)) := cell_of hb1 1
    have y0 := frozen_of hb1 0
    have y1 := frozen_of hb1 1
    have hfl := lt_of_heap (unhide HF).heap
    have F : Hid (∃ x : Int, x = ((min f.last n : Nat) : Int) ∧ KeptTo w ((w1.setCell ⟨f.fb, 0, none⟩ v1).setCell ⟨f.fb, 1, none⟩ (.int .i64 x)) f (f.text.take n) (min f.last n)) := by
      refine ⟨_, rfl, { f with v := v1, text := f.text.take n, last := min f.last n }, ⟨rfl, rfl, ⟨heap_set (heap_set hb1 0 v1) 1 _, ?_, ?_, (unhide HF).name⟩, ?_, fun k hk => .inr (n1 k hk)⟩, rfl, rfl⟩
      · refine (r1.keep (touch_set w1 f.fb 0 v1) (fun k hk e => ?_)).keep (touch_set _ f.fb 1 _) (fun k hk e => ?_)
        · have := n1 k hk; omega
        · have := n1 k hk; omega
      · show min f.last n ≤ (f.text.take n).length
        rw [List.length_take]; omega
      · exact ((Touch.of_below (S := (· = f.fb)) b1).trans (touch_set w1 f.fb 0 v1)).trans (touch_set _ f.fb 1 _)
    obtain ⟨a1, m1, c1', rfl⟩ := r1.shape
    clear r1 n1 b1 hb1 CLH HF HEV
    go_wp2
    all_goals
      obtain ⟨x, hx, K⟩ := unhide F
      go_end0
      first
        | (obtain rfl : x = (n : Int) := by omega
           exact ⟨rfl, K⟩)
        | (obtain rfl : x = (f.last : Int) := by omega
           exact ⟨rfl, K⟩)
  · have hlt' : ¬ (n : Int) < (f.text.length : Int) := by omega
    have F : Hid (∃ x : Int, x = ((min f.last n : Nat) : Int) ∧ KeptTo w (w.setCell ⟨f.fb, 1, none⟩ (.int .i64 x)) f (f.text.take n) (min f.last n)) := by
      refine ⟨_, rfl, { f with last := min f.last n }, ⟨rfl, rfl, ⟨heap_set h.heap 1 _, h.row.keep (touch_set w f.fb 1 _) (fun k hk e => h.row_ne k hk e), ?_, h.name⟩, touch_set w f.fb 1 _, fun k hk => .inl hk⟩, ?_, rfl⟩
      · show min f.last n ≤ f.text.length
        omega
      · show f.text = f.text.take n
        rw [List.take_of_length_le (by omega)]
    clear la h hob ev
    go_enter Try.func41, Try.ntmps41
    go_wp2
    all_goals
      obtain ⟨x, hx, K⟩ := unhide F
      go_end0
      first
        | (obtain rfl : x = (n : Int) := by omega
           exact ⟨rfl, K⟩)
        | (obtain rfl : x = (f.last : Int) := by omega
           exact ⟨rfl, K⟩)

/-- What a crash leaves of a file. -/
def crashN (k : Nat) (f : Ft) : Nat := f.last + k % (f.text.length - f.last + 1)
def crashF (k : Nat) (f : Ft) : Ft := { nm := f.nm, text := f.text.take (crashN k f), last := crashN k f }
theorem crashN_le (k : Nat) {f : Ft} (h : f.last ≤ f.text.length) : crashN k f ≤ f.text.length := by
  unfold crashN
  have := Nat.mod_lt k (show 0 < f.text.length - f.last + 1 by omega)
  omega
def CrashTo (w w' : World) (f : Fl) (k : Nat) : Prop := ∃ f', FileTo w w' f f' ∧ f'.toFt = crashF k f.toFt

set_option maxRecDepth 100000 in
theorem crash_any (h : FileAt w f) (k : Nat) (hk : k < 18446744073709551616) (hl : f.text.length ≤ 4194304) :
    Calls Try.prog 26 #[.pointer (some ⟨f.fb, 0, none⟩), .int .u64 (k : Nat)] w fun e w' => e = .returned (.tuple #[]) ∧ CrashTo w w' f k := by
  have hlast := h.last
  have hcn := crashN_le k hlast
  obtain ⟨a, cap, ev, la, hcap, _, hnil, hob, _⟩ := h.row.parts
  have c0 : w.cell? ⟨f.fb, 0, none⟩ = some (.slice a f.text.length cap) := by rw [← ev]; exact h.cell0
  have c1 := h.cell1
  obtain ⟨lo, hlo⟩ : ∃ lo : Nat, lo = f.text.length - f.last := ⟨_, rfl⟩
  have hlo' : (f.text.length : Int) - (f.last : Int) = (lo : Int) := by omega
  obtain ⟨q, hq⟩ : ∃ q : Nat, q = k % (lo + 1) := ⟨_, rfl⟩
  have hq' : (k : Int) % ((lo : Int) + 1) = (q : Int) := by subst hq; simp
  have EN : Hid (crashN k f.toFt = f.last + q) := by show crashN k f.toFt = _; unfold crashN; rw [hq, hlo]
  have hqm : q ≤ lo := by rw [hq]; have := Nat.mod_lt k (show 0 < lo + 1 by omega); omega
  have KA : Hid (∀ w1, Touch (fun _ => False) w w1 → Calls Try.prog 41 #[.pointer (some ⟨f.fb, 0, none⟩), .int .i64 ((f.last : Int) + (q : Int))] w1 fun e w' => e = .returned (.tuple #[]) ∧ KeptTo w1 w' f (f.text.take (f.last + q)) (min f.last (f.last + q))) := fun w1 t =>
    keep_any (w := w1) (h.keep t (fun h => h) (fun _ _ h => h)) (f.last + q) (by omega) hl
  have hrem : ∀ w, (Op.intDiv .rem .u64 (k : Int) ((lo : Int) + 1)).run Try.prog w = .ok (.int .u64 (q : Int)) w := fun w => by
    have e1 : ¬ (lo : Int) + 1 = 0 := by omega
    have e2 : (k : Int).tmod ((lo : Int) + 1) = (q : Int) := by rw [← hq']; exact Int.tmod_eq_emod_of_nonneg (by omega)
    simp [go_sem, e1, e2]
  have HF := hide h
  have hk2 : ((lo : Int) + 1) % 18446744073709551616 = (lo : Int) + 1 := by omega
  have hk3 : (((lo : Int) + 1) == 0) = false := by rw [beq_eq_false_iff_ne]; omega
  have hk4 : IntKind.u64.wrap ((lo : Int) + 1) = (lo : Int) + 1 := by simp [IntKind.wrap, IntKind.bits, IntKind.signed]; omega
  have hk6 : IntKind.i64.wrap (q : Int) = (q : Int) := by simp [IntKind.wrap, IntKind.bits, IntKind.signed]; omega
  have hk7 : ¬ (lo : Int) + 1 = 0 := by omega
  have hk8 : IntKind.i64.wrap ((lo : Int) + 1) = (lo : Int) + 1 := by simp [IntKind.wrap, IntKind.bits, IntKind.signed]; omega
  have hk9 : IntKind.i64.wrap ((f.last : Int) + (q : Int)) = (f.last : Int) + (q : Int) := by simp [IntKind.wrap, IntKind.bits, IntKind.signed]; omega
  have hk5 : (k : Int).tmod ((lo : Int) + 1) = (q : Int) := by rw [← hq']; exact Int.tmod_eq_emod_of_nonneg (by omega)
  clear la h hob ev hnil hq hlo hq' hk2 hrem
  go_enter Try.func26, Try.ntmps26
  go_wp2_with fail
  go_quiet (fail)
  have c1' : (w.drewN nq).cell? ⟨f.fb, 1, none⟩ = some (.int .i64 (f.last : Nat)) := c1
  have TT : Hid (Touch (fun _ => False) w (w.drewN nq)) := ⟨rfl, rfl, rfl, Nat.le_refl _, fun _ _ _ => rfl⟩
  clear c0 c1
  generalize w.drewN nq = w1 at *
  go_wp2_with fail
  go_region_with (go_at_call 41; refine (unhide KA _ (unhide TT).drew).mono ?_; rintro e w2 ⟨rfl, k2⟩)
  all_goals
    obtain ⟨f2, to2, et2, el2⟩ := k2
    have hb2 := to2.at_.heap
    obtain ⟨a2, cap2, ev2, _⟩ := to2.at_.row.parts
    have d0 : w2.cell? ⟨f.fb, 0, none⟩ = some (.slice a2 (f.last + q) cap2) := by
      have := to2.at_.cell0
      rw [to2.fb, ev2, et2, List.length_take] at this
      rw [this]
      congr 2
      omega
    have d1 : w2.cell? ⟨f.fb, 1, none⟩ = some (.int .i64 (f2.last : Nat)) := by have := to2.at_.cell1; rwa [to2.fb] at this
    have y1 : w2.frozen? ⟨f.fb, 1, none⟩ = false := by have := to2.at_.frozen 1; rwa [to2.fb] at this
    have F : Hid (CrashTo w (w2.setCell ⟨f.fb, 1, none⟩ (.int .i64 ((f.last : Int) + (q : Int)))) f k) := by
      refine ⟨{ f2 with last := f.last + q }, ⟨to2.nm, to2.fb, ⟨?_, ?_, ?_, to2.at_.name⟩, ?_, fun j hj => ?_⟩, ?_⟩
      · show (w2.setCell ⟨f.fb, 1, none⟩ _).heap[f2.fb]? = _
        have := heap_set hb2 1 (.int .i64 ((f.last : Int) + (q : Int)))
        rw [to2.fb] at this ⊢
        exact this
      · have := to2.at_.row.keep (touch_set w2 f2.fb 1 (.int .i64 ((f.last : Int) + (q : Int)))) (fun j hj e => to2.at_.row_ne j hj e)
        rw [to2.fb] at this
        exact this
      · show f.last + q ≤ f2.text.length
        rw [et2, List.length_take]; omega
      · exact (touch_more (S := (· = f.fb)) ((unhide TT).drew.mono (fun _ h => h.elim)) to2.touch (fun j hj => .inl hj)).trans (touch_set w2 f.fb 1 _)
      · rcases to2.row j hj with e | e
        · exact .inl e
        · exact .inr (Nat.le_trans (unhide TT).size e)
      · show ({ nm := f2.nm, text := f2.text, last := f.last + q } : Ft) = { nm := f.nm, text := f.text.take (crashN k f.toFt), last := crashN k f.toFt }
        rw [unhide EN, to2.nm, et2]
    clear to2 hb2 ev2 c1'
    go_wp2
    go_end0
    exact ⟨rfl, unhide F⟩
end
end Go.Proofs.Ytfdpnfeaagijhaa
