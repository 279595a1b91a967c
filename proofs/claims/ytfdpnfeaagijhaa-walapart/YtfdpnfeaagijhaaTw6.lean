/-
  A disk of the two files "w" and "v", and what the calls make of it, in plain words.
-/
import Derived.Test.YtfdpnfeaagijhaaWl8
import Derived.Test.YtfdpnfeaagijhaaCp6

namespace Go.Proofs.Ytfdpnfeaagijhaa
open Go.RowKit
set_option linter.unusedVariables false

def nmV : ByteArray := ⟨#[118]⟩
def nmX : ByteArray := ⟨#[119, 126]⟩
theorem ok_V : okName nmV = true := by decide
theorem ok_X : okName nmX = true := by decide
theorem size_V : nmV.size ≤ maxLen := by unfold maxLen; show 1 ≤ _; decide
def two (t u : List Nat) (la lb : Nat) : Dk := ⟨[⟨nmW, t, la⟩, ⟨nmV, u, lb⟩], false, 0, false⟩
section
variable {t u b : List Nat} {la lb : Nat}
theorem two_W : ftOf (two t u la lb).fs nmW = some ⟨nmW, t, la⟩ := rfl
theorem two_V : ftOf (two t u la lb).fs nmV = some ⟨nmV, u, lb⟩ := rfl
theorem two_X : ftOf (two t u la lb).fs nmX = none := rfl
theorem two_findW : findE (two t u la lb).dead (two t u la lb).fs nmW = 0 := find_ok.2 ⟨rfl, ok_W, rfl⟩
theorem two_findV : findE (two t u la lb).dead (two t u la lb).fs nmV = 0 := find_ok.2 ⟨rfl, ok_V, rfl⟩
theorem two_rdW : rdF (two t u la lb) nmW = ⟨nmW, t, la⟩ := rdF_ok two_findW two_W
theorem two_rdV : rdF (two t u la lb) nmV = ⟨nmV, u, lb⟩ := rdF_ok two_findV two_V
theorem two_used : usedF (two t u la lb).fs = t.length + u.length := by simp [usedF, two]
theorem two_apW (hl : t.length + u.length + b.length ≤ 4194304) : apE (two t u la lb) nmW b.length = 0 ∧ apD (two t u la lb) nmW b = two (t ++ b) u la lb := by
  have h1 : apR (two t u la lb) nmW b.length = 0 := by
    unfold apR
    rw [two_findW, two_used, if_neg (by omega), if_neg (by omega)]
  have h2 : apE (two t u la lb) nmW b.length = 0 := by
    unfold apE
    rw [h1, if_neg (by omega)]
    rfl
  exact ⟨h2, by rw [apD_ok h2]; rfl⟩
theorem two_apV (hl : t.length + u.length + b.length ≤ 4194304) : apE (two t u la lb) nmV b.length = 0 ∧ apD (two t u la lb) nmV b = two t (u ++ b) la lb := by
  have h1 : apR (two t u la lb) nmV b.length = 0 := by
    unfold apR
    rw [two_findV, two_used, if_neg (by omega), if_neg (by omega)]
  have h2 : apE (two t u la lb) nmV b.length = 0 := by
    unfold apE
    rw [h1, if_neg (by omega)]
    rfl
  exact ⟨h2, by rw [apD_ok h2]; rfl⟩
theorem two_openW (hl : t.length + u.length ≤ 4194304) : apE (two t u la lb) nmW 0 = 0 ∧ opT (two t u la lb) nmW = t ∧ opN (two t u la lb) nmW = (scan t).2.1 ∧ opD (two t u la lb) nmW = two (t.take (scan t).2.1) u (min la (scan t).2.1) lb := by
  obtain ⟨h1, h2⟩ := two_apW (t := t) (u := u) (la := la) (lb := lb) (b := []) (by simpa using hl)
  rw [List.append_nil] at h2
  have h3 : opT (two t u la lb) nmW = t := by unfold opT; rw [h2, two_rdW]
  have h4 : opN (two t u la lb) nmW = (scan t).2.1 := by unfold opN; rw [h3]
  refine ⟨h1, h3, h4, ?_⟩
  unfold opD
  rw [h2, h4]
  rfl
theorem two_openV (hl : t.length + u.length ≤ 4194304) : apE (two t u la lb) nmV 0 = 0 ∧ opT (two t u la lb) nmV = u ∧ opN (two t u la lb) nmV = (scan u).2.1 ∧ opD (two t u la lb) nmV = two t (u.take (scan u).2.1) la (min lb (scan u).2.1) := by
  obtain ⟨h1, h2⟩ := two_apV (t := t) (u := u) (la := la) (lb := lb) (b := []) (by simpa using hl)
  rw [List.append_nil] at h2
  have h3 : opT (two t u la lb) nmV = u := by unfold opT; rw [h2, two_rdV]
  have h4 : opN (two t u la lb) nmV = (scan u).2.1 := by unfold opN; rw [h3]
  refine ⟨h1, h3, h4, ?_⟩
  unfold opD
  rw [h2, h4]
  rfl
/-- The second file is made. -/
theorem one_openW (hl : u.length ≤ 4194304) : apE (one nmV u lb) nmW 0 = 0 ∧ opT (one nmV u lb) nmW = [] ∧ opN (one nmV u lb) nmW = 0 ∧ opD (one nmV u lb) nmW = two [] u 0 lb := by
  have h0 : findE (one nmV u lb).dead (one nmV u lb).fs nmW = 4 := find_no.2 ⟨rfl, ok_W, rfl⟩
  have h1 : apR (one nmV u lb) nmW ([] : List Nat).length = 0 := by
    unfold apR
    rw [h0, one_used]
    have : (one nmV u lb).fs.length = 1 := rfl
    rw [if_neg (by omega), if_neg (by simp only [List.length_nil]; omega)]
  have h2 : apE (one nmV u lb) nmW ([] : List Nat).length = 0 := by
    unfold apE
    rw [h1, if_neg (by omega)]
    rfl
  have h3 : apD (one nmV u lb) nmW [] = two [] u 0 lb := by rw [apD_ok h2]; rfl
  have h4 : opT (one nmV u lb) nmW = [] := by unfold opT; rw [h3, two_rdW]
  have h5 : opN (one nmV u lb) nmW = 0 := by unfold opN; rw [h4, scan_nil]
  refine ⟨h2, h4, h5, ?_⟩
  unfold opD
  rw [h3, h5]
  rfl
/-- Rewrite of the one leaves the other. -/
theorem two_re (hl : t.length + u.length + b.length ≤ 4194304) : ReOk (two t u la lb) nmW nmX b ∧ reD (two t u la lb) nmW nmX b = two b u b.length lb := by
  have f0 : findE (two t u la lb).dead (two t u la lb).fs nmX = 4 := find_no.2 ⟨rfl, ok_X, rfl⟩
  have r0 : rmD (two t u la lb) nmX = two t u la lb := by unfold rmD; rw [f0, if_neg (by omega)]
  have s0 : syD (two t u la lb) nmW = two t u t.length lb := by unfold syD; rw [if_pos two_findW]; rfl
  have f1 : findE (two t u t.length lb).dead (two t u t.length lb).fs nmX = 4 := find_no.2 ⟨rfl, ok_X, rfl⟩
  have a1 : apR (two t u t.length lb) nmX b.length = 0 := by
    unfold apR
    rw [f1, two_used]
    have : (two t u t.length lb).fs.length = 2 := rfl
    rw [if_neg (by omega), if_neg (by omega)]
  have a2 : apE (two t u t.length lb) nmX b.length = 0 := by
    unfold apE
    rw [a1, if_neg (by omega)]
    rfl
  have a3 : apD (two t u t.length lb) nmX b = ⟨[⟨nmX, b, 0⟩, ⟨nmW, t, t.length⟩, ⟨nmV, u, lb⟩], false, 0, false⟩ := by rw [apD_ok a2]; rfl
  refine ⟨⟨.inr f0, ?_, ?_, ?_, ?_, ?_, ?_⟩, ?_⟩
  · rw [r0]; unfold roomFor; rw [two_used]
    have : (two t u la lb).fs.length = 2 := rfl
    rw [this]; simp; omega
  · rw [r0]; exact List.cons_ne_nil _ _
  · rw [r0]; rfl
  · rw [r0]; exact two_findW
  · rw [r0, s0]; exact a2
  · rw [r0, s0, a3]; rfl
  · unfold reD
    rw [r0, s0, a3]
    rfl
end

/-- Two wals on one disk. -/
structure Tw (w0 w : World) (vb wb db : Nat) (S : Nat → Prop) (d : Dk) (nv cv nw cw : Int) : Prop where
  fv : Wl w vb db S d nmV nv cv
  fw : Wl w wb db S d nmW nw cw
  ne : vb ≠ wb
  base : ∀ k, S k → w0.heap.size ≤ k
  vbase : w0.heap.size ≤ vb
  wbase : w0.heap.size ≤ wb
  below : Below w0.heap.size w0 w
section
variable {w0 w w' : World} {vb wb db : Nat} {S S' : Nat → Prop} {d d' : Dk} {nv cv nw cw n' c' : Int}
theorem beside {s s' : ByteArray} {n c : Int} (h : Wl w wb db S d s n c) (g : Wto w w' vb db S S' d' s' n' c') (hne : vb ≠ wb) : Wl w' wb db S' d' s n c := by
  have hwb := h.ready.lt
  refine ⟨h.ready.keep g.touch (fun hk => ?_), g.wl.disk, fun hk => ?_⟩
  · rcases hk with e | e
    · exact h.ne e
    · exact hne e.symm
  · rcases g.grow _ hk with e | e
    · exact h.ne e
    · omega
theorem Tw.stepV (h : Tw w0 w vb wb db S d nv cv nw cw) (g : Wto w w' vb db S S' d' nmV n' c') : Tw w0 w' vb wb db S' d' n' c' nw cw :=
  ⟨g.wl, beside h.fw g h.ne, h.ne, fun k hk => by rcases g.grow k hk with e | e; exact h.base k e; exact Nat.le_trans h.below.size e, h.vbase, h.wbase, below_touch h.below g.touch h.below.size (fun k hk => by rcases hk with e | e; exact h.base k e; rw [e]; exact h.vbase)⟩
theorem Tw.stepW (h : Tw w0 w vb wb db S d nv cv nw cw) (g : Wto w w' wb db S S' d' nmW n' c') : Tw w0 w' vb wb db S' d' nv cv n' c' :=
  ⟨beside h.fv g (Ne.symm h.ne), g.wl, h.ne, fun k hk => by rcases g.grow k hk with e | e; exact h.base k e; exact Nat.le_trans h.below.size e, h.vbase, h.wbase, below_touch h.below g.touch h.below.size (fun k hk => by rcases hk with e | e; exact h.base k e; rw [e]; exact h.wbase)⟩
theorem Tw.later (h : Tw w0 w vb wb db S d nv cv nw cw) (hb : Below w.heap.size w w') : Tw w0 w' vb wb db S d nv cv nw cw :=
  ⟨(Wto.idle h.fv (Touch.of_below (S := fun _ => False) hb)).wl, (Wto.idle h.fw (Touch.of_below (S := fun _ => False) hb)).wl, h.ne, h.base, h.vbase, h.wbase, h.below.trans (hb.mono h.below.size)⟩
theorem Tw.ds (h : Tw w0 w vb wb db S d nv cv nw cw) : Ds w0 w db S d := ⟨h.fv.disk, h.base, h.below⟩
end
end Go.Proofs.Ytfdpnfeaagijhaa
