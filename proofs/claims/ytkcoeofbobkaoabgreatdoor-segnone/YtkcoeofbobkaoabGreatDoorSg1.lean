/-
  seglog's laid.end, segment.end, segment.size and Log.last. Conditions: offsets and sizes of at most 2^40.
-/
import Derived.Test.YtkcoeofbobkaoabGreatDoorSg0
import Derived.Test.YtkcoeofbobkaoabGreatDoorCk7
import Derived.Test.YtkcoeofbobkaoabGreatDoorLFr3
import Derived.Deep.RegionWith
import Derived.Deep.RegionHeld3
import Derived.BigQuiet

namespace Go.Proofs.YtkcoeofbobkaoabGreatDoor
open Go.RowKit
set_option linter.unusedVariables false

/-- A batch's numbers are small. -/
structure Low (x : Ld) : Prop where
  lo : 0 ≤ x.b.base
  hi : x.b.base ≤ 1099511627776
  sz : szB x.b ≤ 4096
  up : x.up ≤ 1099511627776
theorem Low.end {x : Ld} (h : Low x) : 0 ≤ endB x.b ∧ endB x.b ≤ 1099511631872 := by
  have := h.lo; have := h.hi; have := h.sz
  unfold endB; omega
/-- A segment, at an address: its three cells, its row. -/
structure SgP (w : World) (g o : Nat) (s : Sg) : Prop where
  c0 : w.cell? ⟨g, o, none⟩ = some (.int .i64 s.base)
  c1 : w.cell? ⟨g, o + 1, none⟩ = some s.v
  c2 : w.cell? ⟨g, o + 2, none⟩ = some (.int .i64 (s.last : Nat))
  row : Wide w 107 10 s.v s.ls.length (s.ls.flatMap ldC)
  low : ∀ x ∈ s.ls, Low x
  blo : 0 ≤ s.base
  bhi : s.base ≤ 1099511627776
def AnsPost (w : World) (v : Value) (e : Ending) (w' : World) : Prop := e = .returned v ∧ Below w.heap.size w w'
theorem AnsPost.mk {w w' : World} {v v' : Value} (h : v' = v) (hb : Below w.heap.size w w') : AnsPost w v (.returned v') w' := ⟨by rw [h], hb⟩

theorem wrap_low {i : Int} (h0 : 0 ≤ i) (h1 : i ≤ 9223372036854775807) : IntKind.i64.wrap i = i := by
  simp [IntKind.wrap, IntKind.bits, IntKind.signed]
  omega
theorem below_box0 {w w1 : World} {o : Obj} (h : Below (w.alloc o).heap.size (w.alloc o) w1) : Below w.heap.size w w1 := ((Below.refl w.heap.size w).alloc (Nat.le_refl _) o).trans (h.mono (by simp))
theorem below_box1 {w w1 : World} {o : Obj} (h : Below (w.alloc o).drew.heap.size (w.alloc o).drew w1) : Below w.heap.size w w1 := by
  have h' : Below (w.alloc o).heap.size (w.alloc o) w1 := ⟨h.os, h.tape, h.output, h.size, fun k hk => h.block k hk⟩
  exact below_box0 h'
theorem keep11 {w w' : World} {a0 a1 a2 a3 a4 a5 a6 a7 a8 a9 a10 : Addr} {u0 u1 u2 u3 u4 u5 u6 u7 u8 u9 u10 : Value} (hb : Below w.heap.size w w') (h0 : a0.block < w.heap.size) (h1 : a1.block < w.heap.size) (h2 : a2.block < w.heap.size) (h3 : a3.block < w.heap.size) (h4 : a4.block < w.heap.size) (h5 : a5.block < w.heap.size) (h6 : a6.block < w.heap.size) (h7 : a7.block < w.heap.size) (h8 : a8.block < w.heap.size) (h9 : a9.block < w.heap.size) (h10 : a10.block < w.heap.size) (k : w.cell? a0 = some u0 ∧ w.cell? a1 = some u1 ∧ w.cell? a2 = some u2 ∧ w.cell? a3 = some u3 ∧ w.cell? a4 = some u4 ∧ w.cell? a5 = some u5 ∧ w.cell? a6 = some u6 ∧ w.cell? a7 = some u7 ∧ w.cell? a8 = some u8 ∧ w.cell? a9 = some u9 ∧ w.cell? a10 = some u10) : w'.cell? a0 = some u0 ∧ w'.cell? a1 = some u1 ∧ w'.cell? a2 = some u2 ∧ w'.cell? a3 = some u3 ∧ w'.cell? a4 = some u4 ∧ w'.cell? a5 = some u5 ∧ w'.cell? a6 = some u6 ∧ w'.cell? a7 = some u7 ∧ w'.cell? a8 = some u8 ∧ w'.cell? a9 = some u9 ∧ w'.cell? a10 = some u10 := by
  obtain ⟨k0, k1, k2, k3, k4, k5, k6, k7, k8, k9, k10⟩ := k
  exact ⟨(hb.cell (p := a0) h0).trans k0, (hb.cell (p := a1) h1).trans k1, (hb.cell (p := a2) h2).trans k2, (hb.cell (p := a3) h3).trans k3, (hb.cell (p := a4) h4).trans k4, (hb.cell (p := a5) h5).trans k5, (hb.cell (p := a6) h6).trans k6, (hb.cell (p := a7) h7).trans k7, (hb.cell (p := a8) h8).trans k8, (hb.cell (p := a9) h9).trans k9, (hb.cell (p := a10) h10).trans k10⟩
set_option maxRecDepth 100000 in
theorem laidEnd_any (x : Ld) (w : World) (h : Low x) :
    Calls Tryz.prog 47 #[.agg #[.int .i64 x.b.base, .int .i64 x.b.epoch, .int .u64 (x.b.pid : Int), .int .i64 x.b.pep, .int .i64 x.b.seq, .bool x.b.txn, .bool x.b.ctl, .bool x.b.com, .slice x.a x.b.vs.length x.cap, .int .i64 (x.up : Nat)]] w fun e w' => AnsPost w (.int .i64 (endB x.b)) e w' := by
  have h1 := h.lo; have h2 := h.hi; have h3 := h.sz
  have EB : Hid (endB x.b = x.b.base + ((szB x.b : Nat) : Int)) := rfl
  have KS : Hid (∀ w', Calls Tryz.prog 71 #[bv x.b x.a x.cap] w' fun e w'' => IntPost w' (szB x.b) e w'') := fun w' => size7_any x.b x.a x.cap w'
  clear h
  obtain ⟨b, up, a, cap⟩ := x
  obtain ⟨base, epoch, pid, pep, seq, txn, ctl, com, vs⟩ := b
  simp only at KS EB h1 h2 h3 ⊢
  generalize szB ⟨base, epoch, pid, pep, seq, txn, ctl, com, vs⟩ = z at *
  generalize endB ⟨base, epoch, pid, pep, seq, txn, ctl, com, vs⟩ = E at *
  go_enter Tryz.func47, Tryz.ntmps47
  go_wp2_with fail
  go_region_with (go_at_call 71; refine (unhide KS _).mono ?_; rintro e w1 ⟨rfl, b1⟩; have y2 : w1.cell? ⟨w.heap.size, 0, none⟩ = some (.int .i64 base) := (b1.cell (p := ⟨w.heap.size, 0, none⟩) (by simp)).trans (cell_of (heap_new _ _) 0); have B1 := hide b1; clear b1)
  all_goals go_wp2
  all_goals go_returns
  all_goals exact AnsPost.mk (by rw [unhide EB]; show Value.int .i64 (IntKind.i64.wrap (base + (z : Int))) = Value.int .i64 (base + (z : Int)); exact ival (wrap_low (by omega) (by omega))) (by first | exact below_box0 (unhide B1) | exact below_box1 (unhide B1))

section
variable {w : World} {g o : Nat} {s : Sg}
/-- The last batch's cells. -/
theorem SgP.lastCells (h : SgP w g o s) (h0 : 0 < s.ls.length) : ∃ gg cap k n x, n = k + 1 ∧ s.ls.length = n ∧ s.v = .slice (some ⟨gg, 0, none⟩) n cap ∧ gg < w.heap.size ∧ n ≤ cap ∧ cap ≤ maxLen ∧ endS s.base s.ls = endB x.b ∧ sizeS s.ls = x.up ∧ Low x ∧ ∀ j, j < 10 → w.cell? ⟨gg, k * 10 + j, none⟩ = (ldC x)[j]? := by
  obtain ⟨a, cap, hv, hcap, hmax, _, _, hp⟩ := h.row.parts
  obtain ⟨gg, rfl, hg, hcell, _⟩ := hp h0
  obtain ⟨k, hk⟩ : ∃ k, s.ls.length = k + 1 := ⟨s.ls.length - 1, by omega⟩
  refine ⟨gg, cap, k, k + 1, s.ls[k]'(by omega), rfl, hk, by rw [hv, hk], hg, by omega, hmax, ?_, ?_, h.low _ (List.getElem_mem _), fun j hj => ?_⟩
  · rw [endS_last h0]; congr 2; congr 1; omega
  · rw [sizeS_last h0]; congr 2; omega
  · rw [hcell (k * 10 + j) (by omega), flat_at ldC ldC_len s.ls k j (by omega) hj]
set_option maxRecDepth 100000 in
theorem segSize_any (h : SgP w g o s) :
    Calls Tryz.prog 63 #[.pointer (some ⟨g, o, none⟩)] w fun e w' => e = .returned (.int .i64 (sizeS s.ls : Nat)) ∧ ∃ n, w' = w.drewN n := by
  have c1 := h.c1
  by_cases h0 : 0 < s.ls.length
  · obtain ⟨gg, cap, k, n, x, hn, hk, hv, hg, hcap, hmax, _, hs, hlow, hcell⟩ := h.lastCells h0
    unfold maxLen at hmax
    rw [hs]
    rw [hv] at c1
    have c9 : w.cell? ⟨gg, k * 10 + 9, none⟩ = some (.int .i64 (x.up : Nat)) := hcell 9 (by omega)
    have hk63 : (n : Int) ≤ 9223372036854775807 := by omega
    have hn1 : (n : Int) - 1 = (k : Int) := by omega
    have hn2 : ¬ (n : Int) = 0 := by omega
    have hn3 : (k : Int) < (n : Int) := by omega
    have hn4 : (0 : Int) ≤ (k : Int) := by omega
    have hn5 : IntKind.i64.wrap ((n : Int) - 1) = (k : Int) := by rw [hn1]; exact wrap_low (by omega) (by omega)
    clear hn hk hcell h hlow hs hv
    go_enter Tryz.func63, Tryz.ntmps63
    go_wp2_with fail
    go_quiet (fail)
    go_wp2
    go_returns
    exact ⟨rfl, _, rfl⟩
  · obtain ⟨a, cap, hv, _⟩ := h.row.parts
    have hl : s.ls.length = 0 := by omega
    have he : s.ls = [] := List.eq_nil_of_length_eq_zero hl
    rw [he, sizeS_nil]
    rw [hv, hl] at c1
    clear h
    go_enter Tryz.func63, Tryz.ntmps63
    go_wp2
    go_returns
    exact ⟨rfl, 0, rfl⟩
set_option maxRecDepth 100000 in
theorem segEnd_any (h : SgP w g o s) (hgo : g < w.heap.size) :
    Calls Tryz.prog 43 #[.pointer (some ⟨g, o, none⟩)] w fun e w' => AnsPost w (.int .i64 (endS s.base s.ls)) e w' := by
  have c0 := h.c0
  have c1 := h.c1
  by_cases h0 : 0 < s.ls.length
  · obtain ⟨gg, cap, k, n, x, hn, hk, hv, hg, hcap, hmax, he, _, hlow, hcell⟩ := h.lastCells h0
    unfold maxLen at hmax
    rw [he]
    rw [hv] at c1
    have e0 : w.cell? ⟨gg, k * 10, none⟩ = some (.int .i64 x.b.base) := hcell 0 (by omega)
    have e1 := hcell 1 (by omega)
    have e2 := hcell 2 (by omega)
    have e3 := hcell 3 (by omega)
    have e4 := hcell 4 (by omega)
    have e5 := hcell 5 (by omega)
    have e6 := hcell 6 (by omega)
    have e7 := hcell 7 (by omega)
    have e8 := hcell 8 (by omega)
    have e9 := hcell 9 (by omega)
    have KE : Hid (∀ w', Below w.heap.size w w' → Calls Tryz.prog 47 #[.agg #[.int .i64 x.b.base, .int .i64 x.b.epoch, .int .u64 (x.b.pid : Int), .int .i64 x.b.pep, .int .i64 x.b.seq, .bool x.b.txn, .bool x.b.ctl, .bool x.b.com, .slice x.a x.b.vs.length x.cap, .int .i64 (x.up : Nat)]] w' fun e w'' => e = .returned (.int .i64 (endB x.b)) ∧ Below w.heap.size w w'') := fun w' hb => (laidEnd_any x w' hlow).mono fun e w'' h => ⟨h.1, hb.trans (h.2.mono hb.size)⟩
    obtain ⟨b, up, a, cap'⟩ := x
    obtain ⟨base, epoch, pid, pep, seq, txn, ctl, com, vs⟩ := b
    simp only [List.getElem?_cons_zero, List.getElem?_cons_succ] at KE e0 e1 e2 e3 e4 e5 e6 e7 e8 e9 ⊢
    have hk63 : (n : Int) ≤ 9223372036854775807 := by omega
    have hn1 : (n : Int) - 1 = (k : Int) := by omega
    have hn2 : ¬ (n : Int) = 0 := by omega
    have hn3 : (k : Int) < (n : Int) := by omega
    have hn4 : (0 : Int) ≤ (k : Int) := by omega
    have hn5 : IntKind.i64.wrap ((n : Int) - 1) = (k : Int) := by rw [hn1]; exact wrap_low (by omega) (by omega)
    have hn6 : IntKind.i64.wrap (k : Int) = (k : Int) := wrap_low (by omega) (by omega)
    clear hn hk hcell h hlow he hv
    generalize endB ⟨base, epoch, pid, pep, seq, txn, ctl, com, vs⟩ = E at *
    go_enter Tryz.func43, Tryz.ntmps43
    go_wp2_with fail
    have K11 : Hid (w.cell? ⟨g, o + 1, none⟩ = some (.slice (some ⟨gg, 0, none⟩) n cap) ∧ w.cell? ⟨gg, k * 10, none⟩ = some (.int .i64 base) ∧ w.cell? ⟨gg, k * 10 + 1, none⟩ = some (.int .i64 epoch) ∧ w.cell? ⟨gg, k * 10 + 2, none⟩ = some (.int .u64 (pid : Int)) ∧ w.cell? ⟨gg, k * 10 + 3, none⟩ = some (.int .i64 pep) ∧ w.cell? ⟨gg, k * 10 + 4, none⟩ = some (.int .i64 seq) ∧ w.cell? ⟨gg, k * 10 + 5, none⟩ = some (.bool txn) ∧ w.cell? ⟨gg, k * 10 + 6, none⟩ = some (.bool ctl) ∧ w.cell? ⟨gg, k * 10 + 7, none⟩ = some (.bool com) ∧ w.cell? ⟨gg, k * 10 + 8, none⟩ = some (.slice a vs.length cap') ∧ w.cell? ⟨gg, k * 10 + 9, none⟩ = some (.int .i64 (up : Nat))) := ⟨c1, e0, e1, e2, e3, e4, e5, e6, e7, e8, e9⟩
    go_region_held3 (fun w' => w'.cell? ⟨g, o + 1, none⟩ = some (.slice (some ⟨gg, 0, none⟩) n cap) ∧ w'.cell? ⟨gg, k * 10, none⟩ = some (.int .i64 base) ∧ w'.cell? ⟨gg, k * 10 + 1, none⟩ = some (.int .i64 epoch) ∧ w'.cell? ⟨gg, k * 10 + 2, none⟩ = some (.int .u64 (pid : Int)) ∧ w'.cell? ⟨gg, k * 10 + 3, none⟩ = some (.int .i64 pep) ∧ w'.cell? ⟨gg, k * 10 + 4, none⟩ = some (.int .i64 seq) ∧ w'.cell? ⟨gg, k * 10 + 5, none⟩ = some (.bool txn) ∧ w'.cell? ⟨gg, k * 10 + 6, none⟩ = some (.bool ctl) ∧ w'.cell? ⟨gg, k * 10 + 7, none⟩ = some (.bool com) ∧ w'.cell? ⟨gg, k * 10 + 8, none⟩ = some (.slice a vs.length cap') ∧ w'.cell? ⟨gg, k * 10 + 9, none⟩ = some (.int .i64 (up : Nat))) (first | exact unhide K11 | exact keep11 (by go_grown) hgo hg hg hg hg hg hg hg hg hg hg (unhide K11)) (first
      | (go_at_call 47; refine (unhide KE _ (by go_grown)).mono ?_; rintro e w1 ⟨rfl, b1⟩))
    all_goals go_wp2
    all_goals go_returns
    all_goals exact AnsPost.mk rfl (by go_grown)
  · obtain ⟨a, cap, hv, _⟩ := h.row.parts
    have hl : s.ls.length = 0 := by omega
    have he : s.ls = [] := List.eq_nil_of_length_eq_zero hl
    rw [he, endS_nil]
    rw [hv, hl] at c1
    clear h
    go_enter Tryz.func43, Tryz.ntmps43
    go_wp2
    go_returns
    exact AnsPost.mk rfl (Below.refl _ _)
end

section
variable {w : World} {lb : Nat} {sv : Value} {ss : List Sg}
theorem row_last (h : Wide w 104 3 sv ss.length (ss.flatMap sgC)) {k : Nat} (hk : ss.length = k + 1) : ∃ gs cap, sv = .slice (some ⟨gs, 0, none⟩) ss.length cap ∧ gs < w.heap.size ∧ ss.length ≤ cap ∧ cap ≤ maxLen ∧ (∀ i (hi : i < ss.length) j, j < 3 → w.cell? ⟨gs, i * 3 + j, none⟩ = (sgC ss[i])[j]?) ∧ ∀ j, w.frozen? ⟨gs, j, none⟩ = false := by
  obtain ⟨a, cap, hv, hcap, hmax, _, _, hp⟩ := h.parts
  obtain ⟨gs, rfl, hg, hcell, hf⟩ := hp (by omega)
  refine ⟨gs, cap, hv, hg, hcap, hmax, fun i hi j hj => ?_, hf⟩
  rw [hcell (i * 3 + j) (by omega), flat_at sgC sgC_len ss i j hi hj]
set_option maxRecDepth 100000 in
theorem last_any (hc : w.cell? ⟨lb, 261, none⟩ = some sv) (h : Wide w 104 3 sv ss.length (ss.flatMap sgC)) {k gs cap : Nat} (hk : ss.length = k + 1) (hv : sv = .slice (some ⟨gs, 0, none⟩) ss.length cap) :
    Calls Tryz.prog 42 #[.pointer (some ⟨lb, 0, none⟩)] w fun e w' => e = .returned (.pointer (some ⟨gs, k * 3, none⟩)) ∧ ∃ n, w' = w.drewN n := by
  obtain ⟨gs', cap', hv', _, hcap, hmax, -, -⟩ := row_last h hk
  unfold maxLen at hmax
  subst hv
  cases hv'
  generalize ss.length = n at *
  have hk63 : (n : Int) ≤ 9223372036854775807 := by omega
  have hn1 : (n : Int) - 1 = (k : Int) := by omega
  have hn3 : (k : Int) < (n : Int) := by omega
  clear h hk
  go_enter Tryz.func42, Tryz.ntmps42
  go_wp2_with fail
  go_quiet (fail)
  go_wp2
  go_returns
  exact ⟨rfl, _, rfl⟩
end
end Go.Proofs.YtkcoeofbobkaoabGreatDoor
