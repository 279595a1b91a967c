/-
  epochs' Cache: Cut, Assign. Conditions: the cache is one; its epochs rise; at most 8 * 10^12 epochs.
-/
import Derived.Test.YtfpcocagifmpbaaEc1
namespace Go.Proofs.Ytfpcocagifmpbaa
open Go.RowKit
set_option linter.unusedVariables false

/-- What a call that changes a cache leaves. -/
def ChPost (B : Nat) (w : World) (cb : Nat) (v : Value) (r : Value) (l' : List Pr) (e : Ending) (w' : World) : Prop :=
  e = .returned r ∧ ∃ v', CaAt B w' cb v' l' ∧ Touch (CaOw cb v) w w' ∧ Moved w v v'
/-- A row, cut short. -/
theorem Wide.take {w : World} {e : TypeId} {sz n cap : Nat} {a : Option Addr} {xs : List Value} (h : Wide w e sz (.slice a n cap) n xs) {k : Nat} (hk : k ≤ n) : Wide w e sz (.slice a k cap) k (xs.take (k * sz)) := by
  obtain ⟨h1, h2⟩ := h
  have hk2 : k * sz ≤ n * sz := Nat.mul_le_mul_right _ hk
  refine ⟨by rw [List.length_take]; omega, ?_⟩
  rcases h2 with ⟨e1, h0⟩ | ⟨g, cap', cur, e1, hb, hgg, hn, hm, hs, ht⟩
  · left
    injection e1 with e2 e3 e4
    subst e2 e3 e4
    obtain rfl : k = 0 := by omega
    exact ⟨rfl, rfl⟩
  · right
    injection e1 with e2 e3 e4
    subst e2 e4
    refine ⟨g, cap, cur, rfl, hb, hgg, by omega, hm, hs, ?_⟩
    rw [← ht, List.take_take, Nat.min_eq_left hk2]
theorem slice_own {a : Option Addr} {n k cap : Nat} : (Value.slice a n cap).ownBlock = (Value.slice a k cap).ownBlock := by
  cases a with
  | none => rfl
  | some x => rfl

section
variable {B : Nat} {w : World} {cb : Nat} {v : Value} {l : List Pr}
theorem CaAt.cutTo {a : Option Addr} {n cap : Nat} (h : CaAt B w cb (.slice a n cap) l) (hn : n = l.length) {k : Nat} (hk : k ≤ n) :
    CaAt B (w.setCell ⟨cb, 0, none⟩ (.slice a k cap)) cb (.slice a k cap) (l.take k) ∧ Touch (CaOw cb (.slice a n cap)) w (w.setCell ⟨cb, 0, none⟩ (.slice a k cap)) := by
  have ts := touch_set w cb 0 (.slice a k cap)
  have hne := h.ne
  refine ⟨⟨?_, ?_, h.lo, fun j hj => h.new j (by rw [slice_own (k := k)]; exact hj)⟩, ts.mono (fun j hj => .inl hj)⟩
  · have := heap_set h.box 0 (.slice a k cap)
    exact this
  · rw [List.length_take, Nat.min_eq_left (by omega), flat_take prC prC_len]
    subst hn
    exact (Wide.take h.row hk).keep ts (fun j hj e => by subst e; rw [slice_own (k := l.length)] at hj; exact hne hj)
set_option maxRecDepth 100000 in
set_option maxHeartbeats 1000000 in
theorem cut_any (h : CaAt B w cb v l) (hr : Ris l) (at_ : Int) :
    Calls Try.prog 13 #[.pointer (some ⟨cb, 0, none⟩), .int .i64 at_] w fun e w' => ChPost B w cb v (.tuple #[]) (cutE at_ l) e w' := by
  have c0 := h.cell
  have z0 := h.frz 0
  obtain ⟨a, cap, rfl, hcap, hmax, hcells⟩ := h.cells
  unfold maxLen at hmax
  have hlt := h.lt
  have hc : ∀ i (hi : i < l.length), ∃ g, a = some ⟨g, 0, none⟩ ∧ g < w.heap.size ∧ w.cell? ⟨g, i * 2, none⟩ = some (.int .i64 l[i].1) ∧ w.cell? ⟨g, i * 2 + 1, none⟩ = some (.int .i64 l[i].2) := fun i hi => by
    obtain ⟨g, h1, h2, h3⟩ := hcells (by omega)
    exact ⟨g, h1, h2, h3 i hi⟩
  have HC := hide hc
  have HH := hide h
  have HR := hide hr
  have AN : Hid (a = none → cap = 0) := by
    obtain ⟨a', cap', e1, _, _, e3, _⟩ := h.row.parts
    injection e1 with e4 e5 e6
    subst e4 e6
    exact e3
  clear h hcells hc hr
  go_enter Try.func13, Try.ntmps13
  go_wp2_with fail
  go_loopw [4] (fun pl wr => ∃ (k : Nat), k ≤ l.length ∧ pl = .int .i64 (k : Int) ∧ (∀ i (hi : i < l.length), k ≤ i → at_ ≤ l[i].2) ∧ wr = w) (fun pl _ => (intOf pl).toNat)
  case atStart => exact ⟨l.length, Nat.le_refl _, rfl, fun i hi h => by omega, rfl⟩
  case round =>
    obtain ⟨k, hk, rfl, hgo, rfl⟩ := hrel
    have GO := hide hgo
    clear hgo
    by_cases hst : ∃ (j : Nat) (hj : j < l.length), k = j + 1 ∧ at_ ≤ l[j].2
    · obtain ⟨j, hj, rfl, hle⟩ := hst
      obtain ⟨g, rfl, hg, y0, y1⟩ := unhide HC j hj
      have NX : Hid (∀ i (hi : i < l.length), j ≤ i → at_ ≤ l[i].2) := fun i hi h => by
        by_cases e : i = j
        · subst e; exact hle
        · exact unhide GO i hi (by omega)
      clear HC GO HH HR AN y0
      generalize (l[j]'hj).2 = A at *
      have hz : (0 : Int) < ((j + 1 : Nat) : Int) := by omega
      have hz2 : IntKind.i64.wrap (((j + 1 : Nat) : Int) - 1) = (j : Int) := by rw [show ((j + 1 : Nat) : Int) - 1 = (j : Int) by omega]; exact wrap_low (by omega) (by omega)
      have hz3 : (0 : Int) ≤ (j : Int) := by omega
      have hz4 : (j : Int) < (l.length : Int) := by omega
      generalize hkk : ((j + 1 : Nat) : Int) = K at *
      go_wp2
      go_roundw
      case rel => exact ⟨j, by omega, rfl, unhide NX, trivial⟩
      case measure => simp [intOf]; omega
    · have hlast : ∀ j (hj : j < l.length), k = j + 1 → l[j].2 < at_ := fun j hj e => by
        by_cases h2 : at_ ≤ l[j].2
        · exact absurd ⟨j, hj, e, h2⟩ hst
        · omega
      have F : Hid (ChPost B wr cb (.slice a l.length cap) (.tuple #[]) (cutE at_ l) (.returned (.tuple #[])) (wr.setCell ⟨cb, 0, none⟩ (.slice a k cap))) := by
        have := (unhide HH).cutTo rfl hk
        refine ⟨rfl, _, ?_, this.2, fun j hj => .inl (by rw [slice_own (k := k)]; exact hj)⟩
        rw [← cut_take (unhide HR) hk (unhide GO) hlast]
        exact this.1
      clear hst
      have hz3 : (0 : Int) ≤ (k : Int) := by omega
      have hkc : k ≤ cap := by omega
      have hkc2 : (k : Int) ≤ (cap : Int) := by omega
      cases k with
      | zero =>
        clear HC GO HH HR hlast
        cases a with
        | none =>
          have := unhide AN rfl
          subst this
          clear AN
          go_wp2
          go_returns
          exact unhide F
        | some x =>
          clear AN
          go_wp2
          go_returns
          exact unhide F
      | succ j =>
        obtain ⟨g, rfl, hg, y0, y1⟩ := unhide HC j (by omega)
        have hA := hlast j (by omega) rfl
        clear HC GO HH HR AN y0 hlast
        generalize (l[j]'(by omega)).2 = A at *
        have hA2 : ¬ at_ ≤ A := by omega
        have hz : (0 : Int) < ((j + 1 : Nat) : Int) := by omega
        have hz2 : IntKind.i64.wrap (((j + 1 : Nat) : Int) - 1) = (j : Int) := by rw [show ((j + 1 : Nat) : Int) - 1 = (j : Int) by omega]; exact wrap_low (by omega) (by omega)
        have hz5 : (0 : Int) ≤ (j : Int) := by omega
        have hz4 : (j : Int) < (l.length : Int) := by omega
        generalize hkk : j + 1 = K at *
        go_wp2
        go_returns
        exact unhide F
end
end Go.Proofs.Ytfpcocagifmpbaa
