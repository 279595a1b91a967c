/-
  A disk of the one file "w", armed or not: what Rewrite, a break, Crash and Open make of it, in plain words.
-/
import Derived.Test.YtfccddcoindnlabWl9
import Derived.Test.YtfccddcoindnlabTw6

namespace Go.Proofs.Ytfccddcoindnlab
open Go.RowKit
set_option linter.unusedVariables false

def oneG (t : List Nat) (la : Nat) (ar : Bool) (fu : Int) : Dk := ⟨[⟨nmW, t, la⟩], ar, fu, false⟩
/-- The second file beside it. -/
def twoX (x t : List Nat) (lx la : Nat) (ar : Bool) (fu : Int) (de : Bool) : Dk := ⟨[⟨nmX, x, lx⟩, ⟨nmW, t, la⟩], ar, fu, de⟩
section
variable {t b x : List Nat} {la lx : Nat} {ar : Bool} {fu : Int}
theorem one_G : one nmW t la = oneG t la false 0 := rfl
theorem g_ft : ftOf (oneG t la ar fu).fs nmW = some ⟨nmW, t, la⟩ := rfl
theorem g_find : findE (oneG t la ar fu).dead (oneG t la ar fu).fs nmW = 0 := find_ok.2 ⟨rfl, ok_W, rfl⟩
theorem g_findX : findE (oneG t la ar fu).dead (oneG t la ar fu).fs nmX = 4 := find_no.2 ⟨rfl, ok_X, rfl⟩
theorem g_used : usedF (oneG t la ar fu).fs = t.length := by simp [usedF, oneG]
theorem g_arm {f : Int} (h : 0 ≤ f) : armD (oneG t la ar fu) f = oneG t la true f := by
  unfold armD
  rw [if_neg (by simp [oneG])]
  simp [oneG, h]
theorem g_rm : rmD (oneG t la ar fu) nmX = oneG t la ar fu := by unfold rmD; rw [g_findX, if_neg (by omega)]
theorem g_sync : syD (oneG t la ar fu) nmW = oneG t t.length ar fu := by unfold syD; rw [if_pos g_find]; rfl
theorem g_apR (hl : t.length + b.length ≤ 4194304) : apR (oneG t la ar fu) nmX b.length = 0 := by
  unfold apR
  rw [g_findX, g_used]
  have : (oneG t la ar fu).fs.length = 1 := rfl
  rw [if_neg (by omega), if_neg (by omega)]
/-- The fuse suffices. -/
theorem g_ap (hl : t.length + b.length ≤ 4194304) (hf : ar = true → (b.length : Int) ≤ fu) : apE (oneG t la ar fu) nmX b.length = 0 ∧ ∃ fu', apD (oneG t la ar fu) nmX b = twoX b t 0 la ar fu' false := by
  have hb : burnD (oneG t la ar fu).armed (oneG t la ar fu).fuse b.length (oneG t la ar fu).dead = false := by
    show (false || decide (ar = true ∧ fu < b.length)) = false
    cases ar
    · simp
    · have := hf rfl; simp; omega
  have hn : burnN (oneG t la ar fu).armed (oneG t la ar fu).fuse b.length = b.length := by
    show burnN ar fu b.length = _
    unfold burnN
    cases ar
    · simp
    · have := hf rfl; rw [if_neg (by omega)]
  refine ⟨by unfold apE; rw [g_apR hl, if_neg (by omega), hb]; rfl, burnF ar fu b.length, ?_⟩
  unfold apD
  rw [g_apR hl, if_neg (by omega), hb, hn, List.take_length]
  rfl
/-- It doesn't. -/
theorem g_br (hl : t.length + b.length ≤ 4194304) (h0 : 0 ≤ fu) (hf : fu < (b.length : Int)) : apE (oneG t la true fu) nmX b.length = 9 ∧ ∃ fu', apD (oneG t la true fu) nmX b = twoX (b.take fu.toNat) t 0 la true fu' true := by
  have hb : burnD (oneG t la true fu).armed (oneG t la true fu).fuse b.length (oneG t la true fu).dead = true := by
    show (false || decide (true = true ∧ fu < b.length)) = true
    simp; omega
  have hn : burnN (oneG t la true fu).armed (oneG t la true fu).fuse b.length = fu.toNat := by
    show burnN true fu b.length = _
    unfold burnN
    rw [if_pos ⟨rfl, hf⟩]
  refine ⟨by unfold apE; rw [g_apR hl, if_neg (by omega), hb]; rfl, burnF true fu b.length, ?_⟩
  unfold apD
  rw [g_apR hl, if_neg (by omega), hb, hn]
  rfl
theorem g_room (hl : t.length + b.length ≤ 4194304) : roomFor (oneG t la ar fu) b.length = true := by
  unfold roomFor; rw [g_used]
  have : (oneG t la ar fu).fs.length = 1 := rfl
  rw [this]; simp; omega
/-- Rewrite on a disk that takes it. -/
theorem g_re (hl : t.length + b.length ≤ 4194304) (hf : ar = true → (b.length : Int) ≤ fu) : ReOk (oneG t la ar fu) nmW nmX b ∧ ∃ fu', reD (oneG t la ar fu) nmW nmX b = oneG b b.length ar fu' := by
  obtain ⟨h1, fu', h2⟩ := g_ap (t := t) (b := b) (la := t.length) (ar := ar) (fu := fu) hl hf
  refine ⟨⟨.inr g_findX, ?_, ?_, ?_, ?_, ?_, ?_⟩, fu', ?_⟩
  · rw [g_rm]; exact g_room hl
  · rw [g_rm]; exact List.cons_ne_nil _ _
  · rw [g_rm]; rfl
  · rw [g_rm]; exact g_find
  · rw [g_rm, g_sync]; exact h1
  · rw [g_rm, g_sync, h2]; rfl
  · unfold reD
    rw [g_rm, g_sync, h2]
    rfl
/-- Rewrite on a disk that breaks. -/
theorem g_rb (hl : t.length + b.length ≤ 4194304) (h0 : 0 ≤ fu) (hf : fu < (b.length : Int)) : ReBr (oneG t la true fu) nmW nmX b ∧ ∃ fu', rbD (oneG t la true fu) nmW nmX b = twoX (b.take fu.toNat) t 0 t.length true fu' true := by
  obtain ⟨h1, fu', h2⟩ := g_br (t := t) (b := b) (la := t.length) (fu := fu) hl h0 hf
  refine ⟨⟨.inr g_findX, ?_, ?_, ?_, ?_, ?_⟩, fu', ?_⟩
  · rw [g_rm]; exact g_room hl
  · rw [g_rm]; exact List.cons_ne_nil _ _
  · rw [g_rm]; rfl
  · rw [g_rm]; exact g_find
  · rw [g_rm, g_sync]; exact h1
  · unfold rbD; rw [g_rm, g_sync, h2]
/-- What lasted is there behind a crash. -/
theorem g_crash (K : Nat) : crD K (oneG t t.length ar fu) = oneG t t.length false fu := by
  have e : crashN K ⟨nmW, t, t.length⟩ = t.length := by unfold crashN; simp [Nat.mod_one]
  show (⟨[crashF K ⟨nmW, t, t.length⟩], false, fu, false⟩ : Dk) = _
  unfold crashF
  rw [e]
  simp [oneG]
theorem x_crash (K : Nat) {de : Bool} : ∃ x' lx', x'.length ≤ x.length ∧ crD K (twoX x t lx t.length ar fu de) = twoX x' t lx' t.length false fu false := by
  have e : crashN K ⟨nmW, t, t.length⟩ = t.length := by unfold crashN; simp [Nat.mod_one]
  refine ⟨x.take (crashN K ⟨nmX, x, lx⟩), crashN K ⟨nmX, x, lx⟩, by rw [List.length_take]; omega, ?_⟩
  show (⟨[crashF K ⟨nmX, x, lx⟩, crashF K ⟨nmW, t, t.length⟩], false, fu, false⟩ : Dk) = _
  unfold crashF
  rw [e]
  simp [twoX]
theorem x_find : findE (twoX x t lx la false fu false).dead (twoX x t lx la false fu false).fs nmW = 0 := find_ok.2 ⟨rfl, ok_W, rfl⟩
theorem x_ft : ftOf (twoX x t lx la false fu false).fs nmW = some ⟨nmW, t, la⟩ := rfl
theorem x_used : usedF (twoX x t lx la false fu false).fs = x.length + t.length := by simp [usedF, twoX]
theorem g_ap0 (hl : t.length ≤ 4194304) : apE (oneG t la false fu) nmW 0 = 0 ∧ apD (oneG t la false fu) nmW [] = oneG t la false fu := by
  have h1 : apR (oneG t la false fu) nmW ([] : List Nat).length = 0 := by
    unfold apR
    rw [g_find, g_used, if_neg (by omega), if_neg (by simp; omega)]
  have h2 : apE (oneG t la false fu) nmW ([] : List Nat).length = 0 := by
    unfold apE
    rw [h1, if_neg (by omega)]
    rfl
  refine ⟨h2, ?_⟩
  unfold apD
  rw [h1, if_neg (by omega)]
  show (⟨[⟨nmW, t ++ [], la⟩], false, fu, false⟩ : Dk) = _
  rw [List.append_nil]; rfl
theorem x_ap0 (hl : x.length + t.length ≤ 4194304) : apE (twoX x t lx la false fu false) nmW 0 = 0 ∧ apD (twoX x t lx la false fu false) nmW [] = twoX x t lx la false fu false := by
  have h1 : apR (twoX x t lx la false fu false) nmW ([] : List Nat).length = 0 := by
    unfold apR
    rw [x_find, x_used, if_neg (by omega), if_neg (by simp; omega)]
  have h2 : apE (twoX x t lx la false fu false) nmW ([] : List Nat).length = 0 := by
    unfold apE
    rw [h1, if_neg (by omega)]
    rfl
  refine ⟨h2, ?_⟩
  unfold apD
  rw [h1, if_neg (by omega)]
  show (⟨[⟨nmX, x, lx⟩, ⟨nmW, t ++ [], la⟩], false, fu, false⟩ : Dk) = _
  rw [List.append_nil]; rfl
/-- Open finds the payloads of the first file. -/
theorem g_open (hl : t.length ≤ 4194304) : apE (oneG t la false fu) nmW 0 = 0 ∧ opT (oneG t la false fu) nmW = t := by
  obtain ⟨h1, h2⟩ := g_ap0 (t := t) (la := la) (fu := fu) hl
  exact ⟨h1, by unfold opT; rw [h2]; exact congrArg Ft.text (rdF_ok g_find g_ft)⟩
theorem x_open (hl : x.length + t.length ≤ 4194304) : apE (twoX x t lx la false fu false) nmW 0 = 0 ∧ opT (twoX x t lx la false fu false) nmW = t := by
  obtain ⟨h1, h2⟩ := x_ap0 (x := x) (t := t) (lx := lx) (la := la) (fu := fu) hl
  exact ⟨h1, by unfold opT; rw [h2]; exact congrArg Ft.text (rdF_ok x_find x_ft)⟩
end
end Go.Proofs.Ytfccddcoindnlab
