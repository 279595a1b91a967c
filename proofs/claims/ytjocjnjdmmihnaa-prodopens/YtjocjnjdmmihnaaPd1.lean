/-
  prod's keyOf, find, at and add. Conditions: the producer is one; fewer than five last batches (add).
-/
import Derived.Test.YtjocjnjdmmihnaaPd0
import Derived.Deep.RegionWith
import Derived.Deep.RegionHeld3
import Derived.BigQuiet
namespace Go.Proofs.Ytjocjnjdmmihnaa
open Go.RowKit
set_option linter.unusedVariables false

def AnsPost (w : World) (v : Value) (e : Ending) (w' : World) : Prop := e = .returned v ∧ Below w.heap.size w w'
theorem wrap_low {i : Int} (h0 : 0 ≤ i) (h1 : i ≤ 9223372036854775807) : IntKind.i64.wrap i = i := by
  simp [IntKind.wrap, IntKind.bits, IntKind.signed]
  omega
theorem new9_any (w : World) : Calls Try.prog 10 #[] w fun e w' => e = .returned (.pointer (some ⟨w.heap.size, 0, none⟩)) ∧ w' = w.alloc (.cells #[.map none, .slice none 0 0] 49) := by
  go_enter Try.func10, Try.ntmps10
  go_wp2
  go_returns
  exact ⟨rfl, rfl⟩
set_option maxRecDepth 100000 in
theorem keyOf_any (b : Bt) (a : Option Addr) (cap : Nat) (w : World) : Calls Try.prog 16 #[bv b a cap] w fun e w' => AnsPost w (.agg #[.int .i64 b.seq, .int .i64 (b.vs.length : Int)]) e w' := by
  obtain ⟨base, epoch, pid, pep, seq, txn, ctl, com, vs⟩ := b
  generalize hn : vs.length = n
  have A : Hid (Below w.heap.size w ((w.alloc (.cells #[.int .i64 base, .int .i64 epoch, .int .u64 (pid : Int), .int .i64 pep, .int .i64 seq, .bool txn, .bool ctl, .bool com, .slice a n cap] 30)).alloc (.cells #[.int .i64 seq, .int .i64 (n : Int)] 54))) := ((Below.refl _ _).alloc (Nat.le_refl _) _).alloc (by simp) _
  show Calls Try.prog _ #[.agg #[.int .i64 base, .int .i64 epoch, .int .u64 (pid : Int), .int .i64 pep, .int .i64 seq, .bool txn, .bool ctl, .bool com, .slice a vs.length cap]] w _
  rw [hn]
  clear hn
  go_enter Try.func16, Try.ntmps16
  go_wp2
  have hb := heap_new (w.alloc (.cells #[.int .i64 base, .int .i64 epoch, .int .u64 (pid : Int), .int .i64 pep, .int .i64 seq, .bool txn, .bool ctl, .bool com, .slice a n cap] 30)) (.cells #[.int .i64 seq, .int .i64 (n : Int)] 54)
  rw [World.size_alloc] at hb
  have y0 := cell_of hb 0
  have y1 := cell_of hb 1
  simp only [List.getElem?_toArray, List.getElem?_cons_zero, List.getElem?_cons_succ] at y0 y1
  refine bodyPost_ret (by simp [results, Try.results16, go_sem, y0, y1]; try rfl) rfl ?_
  exact ⟨rfl, unhide A⟩

/-- A batch that was sent: its number, how many values, its offset. -/
structure Sn where
  sq : Int
  vl : Int
  ba : Int
abbrev snC (s : Sn) : List Value := [.int .i64 s.sq, .int .i64 s.vl, .int .i64 s.ba]
theorem snC_len (s : Sn) : (snC s).length = 3 := rfl
section
variable {α : Type} (f : α → List Value) {m : Nat} (hm : ∀ x, (f x).length = m)
include hm
theorem flat_len (l : List α) : (l.flatMap f).length = l.length * m := by
  induction l with
  | nil => simp
  | cons x r ih => rw [List.flatMap_cons, List.length_append, hm, ih, List.length_cons, Nat.add_mul]; omega
theorem flat_at : ∀ (l : List α) (i j : Nat) (hi : i < l.length), j < m → (l.flatMap f)[i * m + j]? = (f l[i])[j]? := by
  intro l
  induction l with
  | nil => intro i j hi; cases hi
  | cons x r ih =>
    intro i j hi hj
    rw [List.flatMap_cons]
    cases i with
    | zero => rw [Nat.zero_mul, Nat.zero_add, List.getElem?_append_left (by rw [hm]; exact hj)]; rfl
    | succ i =>
      have e : (i + 1) * m + j = (f x).length + (i * m + j) := by rw [hm, Nat.add_mul]; omega
      rw [e, List.getElem?_append_right (by omega), Nat.add_sub_cancel_left]
      exact ih i j (by simpa using hi) hj
end
/-- A producer in its box. -/
def PdAt (w : World) (gp : Nat) (p : Pd) : Prop := w.heap[gp]? = some (.cells #[.int .i64 p.ep, .int .i64 p.nx, pdS p, .bool p.op, .int .i64 p.fi] 44)
/-- Its last batches. -/
def Lst9 (w : World) (p : Pd) (ls : List Sn) : Prop := Wide w 62 3 (pdS p) ls.length (ls.flatMap snC) ∧ p.n = ls.length
def findE (ls : List Sn) (q n : Int) : Int × Bool := match ls.find? (fun s => decide (s.sq = q ∧ s.vl = n)) with | some s => (s.ba, true) | none => (0, false)
abbrev tup2 (x : Int × Bool) : Value := .tuple #[.int .i64 x.1, .bool x.2]
theorem find_step {ls : List Sn} {k : Nat} (hk : k < ls.length) (q n : Int) : findE (ls.drop k) q n = if (ls[k]).sq = q ∧ (ls[k]).vl = n then ((ls[k]).ba, true) else findE (ls.drop (k + 1)) q n := by
  rw [List.drop_eq_getElem_cons hk]
  unfold findE
  rw [List.find?_cons]
  by_cases h : (ls[k]).sq = q ∧ (ls[k]).vl = n
  · rw [if_pos h]; simp [h]
  · rw [if_neg h]; simp only [decide_eq_false h]
set_option maxRecDepth 100000 in
set_option maxHeartbeats 1000000 in
theorem find_any {w : World} {gp : Nat} {p : Pd} {ls : List Sn} (h : PdAt w gp p) (hl : Lst9 w p ls) (q n : Int) :
    Calls Try.prog 15 #[.pointer (some ⟨gp, 0, none⟩), .agg #[.int .i64 q, .int .i64 n]] w fun e w' => AnsPost w (tup2 (findE ls q n)) e w' := by
  obtain ⟨hw, hnl⟩ := hl
  have hgp := lt_of_heap h
  obtain ⟨a, cap, hv, hcap, hmax, _, _, hcells⟩ := hw.parts
  unfold maxLen at hmax
  have hA : Below w.heap.size w (w.alloc (.cells #[.int .i64 q, .int .i64 n] 54)) := (Below.refl _ _).alloc (Nat.le_refl _) _
  have c2 : (w.alloc (.cells #[.int .i64 q, .int .i64 n] 54)).cell? ⟨gp, 2, none⟩ = some (.slice a ls.length cap) := by rw [cell_of (below_keep hA h), ← hv]; rfl
  have HA := hide hA
  have CK : Hid ((w.alloc (.cells #[.int .i64 q, .int .i64 n] 54)).heap[w.heap.size]? = some (.cells #[.int .i64 q, .int .i64 n] 54)) := heap_new _ _
  have HC : Hid (∀ i (hi : i < ls.length), ∃ g, a = some ⟨g, 0, none⟩ ∧ g < w.heap.size ∧ w.cell? ⟨g, i * 3, none⟩ = some (.int .i64 ls[i].sq) ∧ w.cell? ⟨g, i * 3 + 1, none⟩ = some (.int .i64 ls[i].vl) ∧ w.cell? ⟨g, i * 3 + 2, none⟩ = some (.int .i64 ls[i].ba)) := fun i hi => by
    obtain ⟨g, e1, e2, e3, _⟩ := hcells (by omega)
    refine ⟨g, e1, e2, ?_, ?_, ?_⟩
    · rw [e3 (i * 3) (by omega)]
      have := flat_at snC snC_len ls i 0 hi (by omega)
      rw [Nat.add_zero] at this
      rw [this]; rfl
    · rw [e3 (i * 3 + 1) (by omega), flat_at snC snC_len ls i 1 hi (by omega)]; rfl
    · rw [e3 (i * 3 + 2) (by omega), flat_at snC snC_len ls i 2 hi (by omega)]; rfl
  clear hw hcells hA h hv
  go_enter Try.func15, Try.ntmps15
  go_wp2_with fail
  generalize w.alloc (.cells #[.int .i64 q, .int .i64 n] 54) = W0 at *
  clear c2
  go_loopw [13] (fun pl wr => ∃ k : Nat, k ≤ ls.length ∧ pl = .int .i64 (k : Int) ∧ findE (ls.drop k) q n = findE ls q n ∧ Below W0.heap.size W0 wr) (fun pl _ => ls.length - (intOf pl).toNat)
  case atStart => exact ⟨0, Nat.zero_le _, rfl, rfl, Below.refl _ _⟩
  case round =>
    obtain ⟨k, hk, rfl, hR, bl⟩ := hrel
    have HR := hide hR
    have BL := hide bl
    have BW := hide ((unhide HA).trans (bl.mono (unhide HA).size))
    have ck := below_keep bl (unhide CK)
    have k0 : wr.cell? ⟨w.heap.size, 0, none⟩ = some (.int .i64 q) := by rw [cell_of ck]; rfl
    have k1 : wr.cell? ⟨w.heap.size, 1, none⟩ = some (.int .i64 n) := by rw [cell_of ck]; rfl
    have hws : w.heap.size < wr.heap.size := lt_of_heap ck
    clear hR bl ck
    by_cases hkl : k < ls.length
    · have hkl' : (k : Int) < (ls.length : Int) := by omega
      have hz : (0 : Int) ≤ (k : Int) := by omega
      have hw1 : IntKind.i64.wrap ((k : Int) + 1) = (k : Int) + 1 := wrap_low (by omega) (by omega)
      obtain ⟨g, rfl, hg, y0', y1', y2'⟩ := unhide HC k hkl
      have y0 := ((unhide BW).cell (p := ⟨g, k * 3, none⟩) hg).trans y0'
      have y1 := ((unhide BW).cell (p := ⟨g, k * 3 + 1, none⟩) hg).trans y1'
      have y2 := ((unhide BW).cell (p := ⟨g, k * 3 + 2, none⟩) hg).trans y2'
      have FS := hide (find_step hkl q n)
      have BA : Hid (Below W0.heap.size W0 (wr.alloc (.cells #[.int .i64 (ls[k]'hkl).sq, .int .i64 (ls[k]'hkl).vl, .int .i64 (ls[k]'hkl).ba] 62))) := (unhide BL).alloc (unhide BL).size _
      clear y0' y1' y2' HC BL
      generalize hs : ls[k]'hkl = s at *
      obtain ⟨sq, vl, ba⟩ := s
      simp only at y0 y1 y2 FS BA
      have BAW := hide ((unhide HA).trans ((unhide BA).mono (unhide HA).size))
      by_cases hm : sq = q ∧ vl = n
      · have F : Hid (AnsPost w (tup2 (findE ls q n)) (.returned (tup2 (ba, true))) (wr.alloc (.cells #[.int .i64 sq, .int .i64 vl, .int .i64 ba] 62))) := ⟨by rw [← unhide HR, unhide FS, if_pos hm], unhide BAW⟩
        obtain ⟨rfl, rfl⟩ := hm
        clear HR FS BA BAW BW
        go_wp2
        go_returns
        exact unhide F
      · have F : Hid (findE (ls.drop (k + 1)) q n = findE ls q n) := by show _ = _; rw [← unhide HR, unhide FS, if_neg hm]
        clear HR FS BW BAW
        by_cases hq : sq = q
        · subst hq
          have hv : ¬ vl = n := fun e => hm ⟨rfl, e⟩
          clear hm
          go_wp2
          go_roundw
          case rel => exact ⟨k + 1, by omega, by go_num, unhide F, unhide BA⟩
          case measure => simp [intOf]; omega
        · clear hm
          go_wp2
          go_roundw
          case rel => exact ⟨k + 1, by omega, by go_num, unhide F, unhide BA⟩
          case measure => simp [intOf]; omega
    · have hkl' : ¬ (k : Int) < (ls.length : Int) := by omega
      obtain rfl : k = ls.length := by omega
      have F : Hid (AnsPost w (tup2 (findE ls q n)) (.returned (tup2 (0, false))) wr) := ⟨by rw [← unhide HR, List.drop_length]; rfl, unhide BW⟩
      clear HR BL BW HC
      go_wp2
      go_returns
      exact unhide F
end Go.Proofs.Ytjocjnjdmmihnaa
