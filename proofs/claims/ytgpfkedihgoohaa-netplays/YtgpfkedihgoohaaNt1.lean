/-
  A net in memory; its New, Count, and where a number points. Conditions: the net is one.
-/
import Derived.Test.YtgpfkedihgoohaaNt0
namespace Go.Proofs.Ytgpfkedihgoohaa
open Go.RowKit
set_option linter.unusedVariables false

structure NetAt (w : World) (nb : Nat) (v : Value) (cm : Option Nat) (ps : List Pk) (D : Cts) : Prop where
  box : w.heap[nb]? = some (.cells #[v, .map cm] 56)
  list : PL w v ps
  cuts : CutsAt w cm D
/-- Its blocks. -/
def NB (nb : Nat) (v : Value) (cm : Option Nat) (ps : List Pk) (k : Nat) : Prop := k = nb ∨ cm = some k ∨ PLB v ps k
/-- The net at nb, its blocks among R, what is in flight, what is cut. -/
structure NS (w : World) (nb : Nat) (R : Nat → Prop) (qs : List Pa) (D : Cts) : Prop where
  ex : ∃ v cm ps, NetAt w nb v cm ps D ∧ ps.map Pk.abs = qs ∧ ∀ k, NB nb v cm ps k → R k
  lt : ∀ k, R k → k < w.heap.size
/-- What a call leaves. -/
def NPost (w : World) (nb : Nat) (R : Nat → Prop) (qs : List Pa) (D : Cts) (w' : World) : Prop := ∃ R', NS w' nb R' qs D ∧ Touch R w w' ∧ ∀ k, R' k → R k ∨ w.heap.size ≤ k
section
variable {w w' : World} {nb : Nat} {v : Value} {cm : Option Nat} {ps : List Pk} {D : Cts} {R S : Nat → Prop} {qs : List Pa}
theorem NetAt.keep (h : NetAt w nb v cm ps D) (t : Touch S w w') (hs : ∀ k, NB nb v cm ps k → ¬ S k) : NetAt w' nb v cm ps D :=
  ⟨t.keep h.box (hs nb (.inl rfl)), h.list.keep t (fun k hk => hs k (.inr (.inr hk))), h.cuts.keep t (fun m hm => hs m (.inr (.inl hm)))⟩
theorem NetAt.lt (h : NetAt w nb v cm ps D) : ∀ k, NB nb v cm ps k → k < w.heap.size := by
  rintro k (rfl | hk | hk)
  · exact lt_of_heap h.box
  · exact h.cuts.lt k hk
  · exact h.list.lt k hk
theorem NS.keep (h : NS w nb R qs D) (t : Touch S w w') (hs : ∀ k, R k → ¬ S k) : NS w' nb R qs D := by
  obtain ⟨v, cm, ps, h1, h2, h3⟩ := h.ex
  exact ⟨⟨v, cm, ps, h1.keep t (fun k hk => hs k (h3 k hk)), h2, h3⟩, fun k hk => Nat.lt_of_lt_of_le (h.lt k hk) t.size⟩
theorem NS.later (h : NS w nb R qs D) (hb : Below w.heap.size w w') : NS w' nb R qs D := h.keep (Touch.of_below (S := fun _ => False) hb) (fun _ _ h => h)
theorem NS.mem (h : NS w nb R qs D) : R nb := by
  obtain ⟨v, cm, ps, h1, h2, h3⟩ := h.ex
  exact h3 nb (.inl rfl)
/-- What a call leaves that lays blocks alone. -/
theorem NS.post (h : NS w nb R qs D) (hb : Below w.heap.size w w') : NPost w nb R qs D w' := ⟨R, h.later hb, Touch.of_below hb, fun k hk => .inl hk⟩
theorem NPost.later {w'' : World} (h : NPost w nb R qs D w') (hb : Below w'.heap.size w' w'') : NPost w nb R qs D w'' := by
  obtain ⟨R', h1, h2, h3⟩ := h
  exact ⟨R', h1.later hb, h2.trans (Touch.of_below hb), h3⟩
theorem NPost.after {w0 : World} (h : NPost w nb R qs D w') (hb : Below w0.heap.size w0 w) : NPost w0 nb R qs D w' := by
  obtain ⟨R', h1, h2, h3⟩ := h
  refine ⟨R', h1, (Touch.of_below hb).trans h2, fun k hk => ?_⟩
  rcases h3 k hk with e | e
  · exact .inl e
  · exact .inr (Nat.le_trans hb.size e)
theorem NPost.of {qs' : List Pa} {D' : Cts} {v' : Value} {cm' : Option Nat} {ps' : List Pk} (hR : ∀ k, NB nb v cm ps k → R k) (h : NetAt w' nb v' cm' ps' D') (hq : ps'.map Pk.abs = qs') (t : Touch (NB nb v cm ps) w w') (hn : ∀ k, NB nb v' cm' ps' k → NB nb v cm ps k ∨ w.heap.size ≤ k) : NPost w nb R qs' D' w' :=
  ⟨NB nb v' cm' ps', ⟨⟨v', cm', ps', h, hq, fun k hk => hk⟩, h.lt⟩, t.mono hR, fun k hk => (hn k hk).imp (hR k) id⟩
end

theorem new11_any (w : World) : Calls Try.prog 9 #[] w fun e w' => e = .returned (.pointer (some ⟨w.heap.size, 0, none⟩)) ∧ w' = w.alloc (.cells #[.slice none 0 0, .map none] 56) := by
  go_enter Try.func9, Try.ntmps9
  go_wp2
  go_returns
  exact ⟨rfl, rfl⟩
theorem NS.new (w : World) : NS (w.alloc (.cells #[.slice none 0 0, .map none] 56)) w.heap.size (· = w.heap.size) [] [] := by
  refine ⟨⟨.slice none 0 0, none, [], ⟨heap_new _ _, PL.nil _, rfl⟩, rfl, ?_⟩, fun k hk => by rw [hk]; simp⟩
  rintro k (h | h | h | ⟨p, hp, _⟩)
  · exact h
  · cases h
  · simp [Value.ownBlock] at h
  · cases hp

theorem count_any {w : World} {nb n cap : Nat} {a : Option Addr} (h : w.cell? ⟨nb, 0, none⟩ = some (.slice a n cap)) : Calls Try.prog 26 #[.pointer (some ⟨nb, 0, none⟩)] w fun e w' => e = .returned (.int .i64 (n : Int)) ∧ w' = w := by
  go_enter Try.func26, Try.ntmps26
  go_wp2
  go_returns
  exact ⟨rfl, rfl⟩
theorem Count_cell {w : World} {nb n cap : Nat} {a : Option Addr} (h : w.cell? ⟨nb, 0, none⟩ = some (.slice a n cap)) : Calls Try.prog 24 #[.pointer (some ⟨nb, 0, none⟩)] w fun e w' => e = .returned (.int .i64 (n : Int)) ∧ w' = w := by
  have K := hide (count_any h)
  clear h
  go_enter Try.func24, Try.ntmps24
  go_wp2_with fail
  refine (unhide K).mono ?_
  rintro e w1 ⟨rfl, rfl⟩
  clear K
  go_wp2
  go_returns
  exact ⟨rfl, rfl⟩
theorem NetAt.cell {w : World} {nb : Nat} {v : Value} {cm : Option Nat} {ps : List Pk} {D : Cts} (h : NetAt w nb v cm ps D) : ∃ a cap, v = .slice a ps.length cap ∧ w.cell? ⟨nb, 0, none⟩ = some (.slice a ps.length cap) ∧ ps.length ≤ cap ∧ cap ≤ maxLen := by
  obtain ⟨a, cap, e, h1, h2, _⟩ := h.list.row.parts
  refine ⟨a, cap, e, ?_, h1, h2⟩
  rw [cell_of h.box, ← e]; rfl
theorem Count_any {w : World} {nb : Nat} {R : Nat → Prop} {qs : List Pa} {D : Cts} (h : NS w nb R qs D) : Calls Try.prog 24 #[.pointer (some ⟨nb, 0, none⟩)] w fun e w' => e = .returned (.int .i64 (qs.length : Int)) ∧ w' = w := by
  obtain ⟨v, cm, ps, h1, rfl, h3⟩ := h.ex
  obtain ⟨a, cap, _, hc, _⟩ := h1.cell
  rw [List.length_map]
  exact Count_cell hc

/-- Where a number points among n. -/
def rnd (i : Int) (n : Nat) : Nat := (i % (n : Int)).toNat
theorem rnd_lt (i : Int) {n : Nat} (h : 0 < n) : rnd i n < n := by
  have h1 := Int.emod_nonneg i (show (n : Int) ≠ 0 by omega)
  have h2 := Int.emod_lt_of_pos i (show (0 : Int) < n by omega)
  unfold rnd; omega
theorem rnd_int (i : Int) {n : Nat} (h : 0 < n) : ((rnd i n : Nat) : Int) = i % (n : Int) := by
  have h1 := Int.emod_nonneg i (show (n : Int) ≠ 0 by omega)
  unfold rnd; omega
theorem tmod_low {i : Int} {n : Nat} (h : 0 < n) (h0 : ¬ Int.tmod i n < 0) : Int.tmod i n = (rnd i n : Int) := by
  have e := Int.tmod_eq_emod (a := i) (b := (n : Int))
  have h1 := Int.emod_lt_of_pos i (show (0 : Int) < n by omega)
  rw [rnd_int i h]
  generalize Int.tmod i n = x at *
  generalize i % (n : Int) = y at *
  split at e <;> omega
theorem tmod_neg {i : Int} {n : Nat} (h : 0 < n) (h0 : Int.tmod i n < 0) : Int.tmod i n + (n : Int) = (rnd i n : Int) := by
  have e := Int.tmod_eq_emod (a := i) (b := (n : Int))
  have h1 := Int.emod_nonneg i (show (n : Int) ≠ 0 by omega)
  rw [rnd_int i h]
  generalize Int.tmod i n = x at *
  generalize i % (n : Int) = y at *
  split at e <;> omega
theorem tmod_in (i : Int) {n : Nat} (h : 0 < n) : -(n : Int) ≤ Int.tmod i n ∧ Int.tmod i n < n := by
  have h3 := rnd_lt i h
  by_cases h0 : Int.tmod i n < 0
  · have h4 := tmod_neg h h0
    exact ⟨by omega, by omega⟩
  · have h4 := tmod_low h h0
    exact ⟨by omega, by omega⟩
theorem round_none {w : World} {nb cap : Nat} {a : Option Addr} (h : w.cell? ⟨nb, 0, none⟩ = some (.slice a 0 cap)) (i : Int) : Calls Try.prog 39 #[.pointer (some ⟨nb, 0, none⟩), .int .i64 i] w fun e w' => e = .returned (.tuple #[.int .i64 0, .bool false]) ∧ w' = w := by
  go_enter Try.func39, Try.ntmps39
  go_wp2
  go_returns
  exact ⟨rfl, rfl⟩
theorem round_some {w : World} {nb n cap : Nat} {a : Option Addr} (h : w.cell? ⟨nb, 0, none⟩ = some (.slice a n cap)) (hn : 0 < n) (hm : n ≤ maxLen) (i : Int) (hi : InR i) : Calls Try.prog 39 #[.pointer (some ⟨nb, 0, none⟩), .int .i64 i] w fun e w' => e = .returned (.tuple #[.int .i64 (rnd i n : Int), .bool true]) ∧ w' = w := by
  unfold maxLen at hm
  have hn0 : ¬ (n : Int) = 0 := by omega
  have hT := tmod_in i hn
  have hwT : IntKind.i64.wrap (Int.tmod i (n : Int)) = Int.tmod i (n : Int) := by
    simp [IntKind.wrap, IntKind.bits, IntKind.signed]
    omega
  by_cases h0 : Int.tmod i (n : Int) < 0
  · have hE := tmod_neg hn h0
    have hw2 : IntKind.i64.wrap (Int.tmod i (n : Int) + (n : Int)) = Int.tmod i (n : Int) + (n : Int) := by
      simp [IntKind.wrap, IntKind.bits, IntKind.signed]
      omega
    rw [← hE]
    clear hE
    go_enter Try.func39, Try.ntmps39
    go_wp2
    go_returns
    exact ⟨rfl, rfl⟩
  · have hE := tmod_low hn h0
    rw [← hE]
    clear hE
    go_enter Try.func39, Try.ntmps39
    go_wp2
    go_returns
    exact ⟨rfl, rfl⟩
end Go.Proofs.Ytgpfkedihgoohaa
