/-
  What Scan finds is found again ahead of whatever is laid behind; lists that none of a set of blocks holds.
-/
import Derived.Test.YtfdpnfeaagijhaaAw6
import Derived.Test.YtfdpnfeaagijhaaSm5

namespace Go.Proofs.Ytfdpnfeaagijhaa
open Go.RowKit
set_option linter.unusedVariables false

theorem dec_prefix {t X : List Nat} (hd : (dec t).2.2 = 0) (hX : X.take (dec t).2.1 = t.take (dec t).2.1) (hl : (dec t).2.1 ≤ X.length) : dec X = dec t := by
  obtain ⟨h1, h2, h3⟩ := dec_ok hd
  generalize hk : (dec t).2.1 = k at *
  have hk8 : 8 ≤ k := by omega
  have u0 : unfix X 0 = unfix t 0 := by rw [← unfix_take (t := X) (p := 0) (n := k) (by omega), hX, unfix_take (by omega)]
  have u4 : unfix X 4 = unfix t 4 := by rw [← unfix_take (t := X) (p := 4) (n := k) (by omega), hX, unfix_take (by omega)]
  unfold dec at hd hk ⊢
  by_cases c1 : t.length < 8
  · rw [if_pos c1] at hd; cases hd
  rw [if_neg c1] at hd hk ⊢
  rw [if_neg (show ¬ X.length < 8 by omega), u0, u4]
  by_cases c2 : 4096 < unfix t 0
  · rw [if_pos c2] at hd; cases hd
  rw [if_neg c2] at hd hk ⊢
  rw [if_neg c2]
  by_cases c3 : t.length < 8 + unfix t 0
  · rw [if_pos c3] at hd; cases hd
  rw [if_neg c3] at hd hk ⊢
  by_cases c4 : sm ((t.drop 8).take (unfix t 0)) = unfix t 4
  · rw [if_pos c4] at hk ⊢
    simp only at hk
    have e : (X.drop 8).take (unfix t 0) = (t.drop 8).take (unfix t 0) := by
      have e1 : ∀ l : List Nat, (l.drop 8).take (unfix t 0) = (l.take k).drop 8 := fun l => by rw [List.drop_take]; congr 1; omega
      rw [e1, e1, hX]
    rw [if_neg (show ¬ X.length < 8 + unfix t 0 by omega), e, if_pos c4]
  · rw [if_neg c4] at hd; cases hd
theorem scan_take : ∀ (m : Nat) (t : List Nat), t.length ≤ m → ∀ u, scan (t.take (scan t).2.1 ++ u) = ((scan t).1 ++ (scan u).1, (scan t).2.1 + (scan u).2.1, (scan u).2.2) := by
  intro m
  induction m with
  | zero =>
    intro t ht u
    have : t = [] := List.length_eq_zero_iff.1 (by omega)
    subst this
    rw [scan_nil]; simp
  | succ m ih =>
    intro t ht u
    by_cases h0 : t = []
    · subst h0; rw [scan_nil]; simp
    by_cases hd : (dec t).2.2 = 0
    · obtain ⟨h1, h2, h3⟩ := dec_ok hd
      have hi := ih (t.drop (dec t).2.1) (by rw [List.length_drop]; omega) u
      have hsl := scan_le (t.drop (dec t).2.1)
      rw [List.length_drop] at hsl
      rw [scan_more h0 hd]
      simp only
      obtain ⟨X, hX⟩ : ∃ X, X = t.take ((dec t).2.1 + (scan (t.drop (dec t).2.1)).2.1) ++ u := ⟨_, rfl⟩
      have hXk : X.take (dec t).2.1 = t.take (dec t).2.1 := by
        rw [hX, List.take_append_of_le_length (by rw [List.length_take]; omega), List.take_take]
        congr 1; omega
      have hXl : (dec t).2.1 ≤ X.length := by rw [hX, List.length_append, List.length_take]; omega
      have hXd : X.drop (dec t).2.1 = (t.drop (dec t).2.1).take (scan (t.drop (dec t).2.1)).2.1 ++ u := by
        rw [hX, List.drop_append_of_le_length (by rw [List.length_take]; omega), List.drop_take]
        congr 2; omega
      have e := dec_prefix hd hXk hXl
      have hX0 : X ≠ [] := fun h => by rw [h] at hXl; simp at hXl; omega
      rw [← hX, scan_more hX0 (by rw [e]; exact hd), e, hXd, hi]
      simp
      omega
    · rw [scan_bad h0 hd]; simp
theorem scan_len : ∀ (m : Nat) (t : List Nat), t.length ≤ m → 8 * (scan t).1.length ≤ (scan t).2.1 ∧ ∀ p ∈ (scan t).1, p.length ≤ 4096 := by
  intro m
  induction m with
  | zero =>
    intro t ht
    have : t = [] := List.length_eq_zero_iff.1 (by omega)
    subst this
    rw [scan_nil]; simp
  | succ m ih =>
    intro t ht
    by_cases h0 : t = []
    · subst h0; rw [scan_nil]; simp
    by_cases hd : (dec t).2.2 = 0
    · obtain ⟨h1, h2, h3⟩ := dec_ok hd
      obtain ⟨i1, i2⟩ := ih (t.drop (dec t).2.1) (by rw [List.length_drop]; omega)
      rw [scan_more h0 hd]
      refine ⟨by simp only [List.length_cons]; omega, fun p hp => ?_⟩
      rcases List.mem_cons.1 hp with rfl | hp
      · exact h3
      · exact i2 p hp
    · rw [scan_bad h0 hd]; simp

theorem slice_hl (a : Option Addr) (len cap k : Nat) (hk : k ≤ cap) (w : World) : (Instr.slice 22 (.slice a len cap) none (some (.int .i64 (k : Int))) none).run Try.prog w = .ok (.slice a k cap) w := by
  have hel : Try.prog.underlying 22 = some (.slice (Try.prog.elem 22)) := by kernel_rfl
  have hsz : ∀ w, (sizeOf (Try.prog.elem 22)).run Try.prog w = .ok 1 w := fun _ => by kernel_rfl
  rw [run_slice_h w 22 a len cap hel .i64 (k : Int) (by omega) (by omega), hsz]
  have e : ∀ a : Option Addr, a.map (fun x => x.add 0) = a := fun a => by cases a <;> simp [Addr.add]
  simp [Result.andThen, sliced, e]

/-- A list of slices none of whose blocks is in S. -/
def Clear (S : Nat → Prop) (w : World) (a : Option Addr) (ls : List (List Nat)) : Prop :=
  ∀ i, i < ls.length → ∃ b off x c, a = some ⟨b, off, none⟩ ∧ b < w.heap.size ∧ ¬ S b ∧ w.cell? ⟨b, off + i, none⟩ = some (.slice x (ls.getD i []).length c) ∧ LAt w x (ls.getD i []) ∧ (x = none → c = 0) ∧ (0 < (ls.getD i []).length → ∀ y, x = some y → ¬ S y.block)
theorem Clear.rat {S : Nat → Prop} {w : World} {a : Option Addr} {ls : List (List Nat)} (h : Clear S w a ls) : RAt w a ls := fun i hi => by
  obtain ⟨b, off, x, c, h1, h2, _, h3, h4, h5, _⟩ := h i hi
  exact ⟨b, off, _, h1, h2, h3, x, c, rfl, h4, h5⟩
theorem cell_touch {S : Nat → Prop} {w w' : World} (t : Touch S w w') {b o : Nat} (hb : b < w.heap.size) (hs : ¬ S b) : w'.cell? ⟨b, o, none⟩ = w.cell? ⟨b, o, none⟩ := by
  have := t.block b hb hs
  simp only [World.cell?, this]
theorem Clear.step {S S' : Nat → Prop} {w w' : World} {a : Option Addr} {ls : List (List Nat)} (h : Clear S w a ls) (t : Touch S w w') (hg : ∀ k, S' k → S k ∨ w.heap.size ≤ k) : Clear S' w' a ls := fun i hi => by
  obtain ⟨b, off, x, c, h1, h2, h6, h3, h4, h5, h7⟩ := h i hi
  refine ⟨b, off, x, c, h1, Nat.lt_of_lt_of_le h2 t.size, fun hk => ?_, by rw [cell_touch t h2 h6]; exact h3, h4.keep t h7, h5, fun h0 y hy hk => ?_⟩
  · rcases hg b hk with e | e
    · exact h6 e
    · omega
  · rcases hg _ hk with e | e
    · exact h7 h0 y hy e
    · have := lat_lt h4 h0 hy; omega
/-- What DocScan told. -/
theorem told_clear {S : Nat → Prop} {w0 w1 w2 : World} {a : Option Addr} {t : List Nat} {v : Value} {ls : List (List Nat)} (h : Told a w1 w2 v ls) (hn : New w1 v) (hb : Below w1.heap.size w1 w2) (hp : LAt w0 a t) (h0 : 0 < ls.length → 0 < t.length) (hs : ∀ k, S k → w0.heap.size ≤ k ∧ k < w1.heap.size) : ∃ c cap, v = .slice c ls.length cap ∧ Clear S w2 c ls := by
  obtain ⟨vs, sp⟩ := h
  obtain ⟨c, cap, e1, e2, e3, e4, e5, e6⟩ := sp.own.parts
  rw [sp.len] at e1 e2
  refine ⟨c, cap, e1, fun i hi => ?_⟩
  obtain ⟨g, ha, hg, hc, _⟩ := e6 i (by rw [sp.len]; exact hi)
  obtain ⟨u, u1, ⟨x, cx, rfl, u2, u3⟩, u4⟩ := sp.each i hi
  refine ⟨g, 0, x, cx, ha, hg, fun hk => ?_, by rw [Nat.zero_add, hc, u1], u2.later hb, u3, fun hl y hy hk => ?_⟩
  · have := hn g (e5 ⟨g, 0, none⟩ ha)
    have := (hs g hk).2
    omega
  · subst hy
    obtain ⟨z, hz, ez⟩ := u4 y _ _ rfl
    have := lat_lt hp (h0 (by omega)) hz
    have := (hs _ hk).1
    omega
theorem scan_pos {t : List Nat} (h : 0 < (scan t).1.length) : 0 < t.length := by
  have := (scan_len _ t (Nat.le_refl _)).1
  have := scan_le t
  omega
end Go.Proofs.Ytfdpnfeaagijhaa
