/-
  What holds all through a name's life. Plain words: no Go text is read here. Conditions: fewer than 2^50 acts.
-/
import Derived.Test.YtijfjhafjblefaaLf15
namespace Go.Proofs.Ytijfjhafjblefaa
open Go.RowKit Go.Maps
set_option linter.unusedVariables false

theorem srt_len (l : List Int) : (srt l).length = l.length := by unfold srt; rw [List.length_mergeSort]
theorem compact_pos {l : List Int} (h : l ≠ []) : 0 < (Lib.compact l).length := by
  unfold Lib.compact
  cases l with
  | nil => exact absurd rfl h
  | cons x r =>
    unfold Lib.compactUpTo
    rw [List.length_map]
    have : 0 ∈ (List.range (x :: r).length).filter (Lib.keeps (x :: r).toArray) := by
      rw [List.mem_filter]
      exact ⟨by simp, by simp [Lib.keeps]⟩
    exact List.length_pos_of_mem this
theorem uni_ne {a b : List Int} (h : b ≠ []) : uni a b ≠ [] := by
  intro e
  have h1 : srt (a ++ b) ≠ [] := fun e2 => by
    have := srt_len (a ++ b)
    rw [e2] at this
    cases b with
    | nil => exact h rfl
    | cons x r => simp at this
  have := compact_pos h1
  unfold uni at e
  rw [e] at this
  simp at this
theorem uni_len (a b : List Int) : (uni a b).length ≤ a.length + b.length := by
  unfold uni
  refine Nat.le_trans (compact_len _) ?_
  rw [srt_len, List.length_append]
  exact Nat.le_refl _
structure LI (x : Tx) (k : Nat) (next : Int) : Prop where
  st : x.st = 0 ∨ x.st = 1 ∨ x.st = 2 ∨ x.st = 3 ∨ x.st = 4
  ep0 : 0 ≤ x.ep
  ep1 : x.ep ≤ 1000
  ev : x.ep % 2 = 0
  op : (x.st = 2 ∨ x.st = 3) ↔ x.ps ≠ []
  lim : x.st ≠ 4 → x.ep ≤ 998
  prep : x.st = 3 → x.la = x.ep ∧ x.lp = x.pid
  pid0 : 0 ≤ x.pid
  pid : x.pid < next
  lpid : x.lp < next
  nx : 1 ≤ next
  nk : next ≤ (k : Int) + 1
  inc0 : 0 ≤ x.inc
  inc : x.inc ≤ (k : Int)
  len : x.ps.length ≤ k
  sep : x.st ≠ 3 → x.lp ≠ x.pid ∨ x.la < x.ep
theorem LI.zero : LI tx0 0 1 := ⟨.inl rfl, by decide, by decide, by decide, by simp [tx0], fun _ => by decide, (fun h => by cases h), by decide, by decide, by decide, by decide, by decide, by decide, by decide, by decide, fun _ => .inr (by decide)⟩
theorem LI.wait {x : Tx} {k : Nat} {next : Int} (h : LI x k next) : LI x (k + 1) next :=
  { h with nk := by have := h.nk; omega, inc := by have := h.inc; omega, len := by have := h.len; omega }
def nextD (next : Int) (d : Dn) : Int := if d.ok = true then next + 1 else next
structure LStep (x x' : Tx) : Prop where
  same : x'.pid = x.pid → x.ep ≤ x'.ep
  other : x'.pid ≠ x.pid → x'.ep = 0
  inc : x.inc ≤ x'.inc
theorem LStep.refl (x : Tx) : LStep x x := ⟨fun _ => Int.le_refl _, fun h => absurd rfl h, Int.le_refl _⟩
theorem li_none {x : Tx} {k : Nat} {next : Int} (h : LI x k next) (e : Int) : LI (lifeX x (noneD e)) (k + 1) (nextD next (noneD e)) ∧ LStep x (lifeX x (noneD e)) := ⟨h.wait, LStep.refl x⟩
theorem li_begin {x : Tx} {k : Nat} {next : Int} (h : LI x k next) (inc : Int) (h0 : x.inc ≤ inc) (h1 : inc ≤ x.inc + 1) : LI (lifeX x (beginD 0 inc next)) (k + 1) (nextD next (beginD 0 inc next)) ∧ LStep x (lifeX x (beginD 0 inc next)) := by
  have hx := h.nx
  have e : beginD 0 inc next = ⟨⟨1, 0, inc, next, 0, [], false⟩, true, 0⟩ := by unfold beginD; rw [if_neg (by omega)]
  rw [e]
  have e2 : lifeX x ⟨⟨1, 0, inc, next, 0, [], false⟩, true, 0⟩ = ⟨1, inc, next, 0, [], x.la, x.lp, x.co⟩ := rfl
  have e3 : nextD next ⟨⟨1, 0, inc, next, 0, [], false⟩, true, 0⟩ = next + 1 := rfl
  rw [e2, e3]
  have hl := h.lpid
  have hi := h.inc0
  have hj := h.inc
  have hp := h.pid
  have hn := h.nk
  refine ⟨⟨.inr (.inl rfl), by show (0 : Int) ≤ 0; decide, by show (0 : Int) ≤ 1000; decide, by show (0 : Int) % 2 = 0; decide, by simp, fun _ => by show (0 : Int) ≤ 998; decide, (fun h => by cases h), by show 0 ≤ next; omega, by show next < next + 1; omega, by show x.lp < next + 1; omega, by omega, by omega, by show 0 ≤ inc; omega, by show inc ≤ _; omega, Nat.zero_le _, fun _ => .inl (by show x.lp ≠ next; omega)⟩, ⟨fun h => ?_, fun _ => rfl, h0⟩⟩
  have h' : next = x.pid := h
  omega
theorem li_step {x : Tx} {k : Nat} {next : Int} (h : LI x k next) (hk : k < 1125899906842624) (o : Oq) : LI (lifeX x (lifeD x o next)) (k + 1) (nextD next (lifeD x o next)) ∧ LStep x (lifeX x (lifeD x o next)) := by
  have m2i := m2_in o.inc
  have m6i := m6_in o.pt
  have hi0 := h.inc0
  have hi1 := h.inc
  have e0 := h.ep0
  have e1 := h.ep1
  have ev := h.ev
  have hn := h.nk
  have hnx := h.nx
  have hp := h.pid
  have hp0 := h.pid0
  have hlp := h.lpid
  have hw : wrap64 (x.inc + m2 o.inc) = x.inc + m2 o.inc := wrap64_low (by omega) (by omega)
  have we : wrap64 (x.ep + 2) = x.ep + 2 := wrap64_low (by omega) (by omega)
  unfold lifeD
  by_cases k0 : o.kd = 0
  · rw [if_pos k0, hw]
    unfold initD
    rw [if_neg (by decide)]
    by_cases s0 : x.st = 0
    · rw [if_pos s0]; exact li_begin h _ (by omega) (by omega)
    rw [if_neg s0, if_neg (show ¬ x.inc + m2 o.inc < x.inc by omega)]
    by_cases s3 : x.st = 3
    · rw [if_pos s3]; exact li_none h _
    rw [if_neg s3]
    by_cases i0 : x.inc + m2 o.inc = x.inc
    · rw [if_pos i0]; exact li_none h _
    rw [if_neg i0]
    by_cases s2 : x.st = 2
    · rw [if_pos s2]
      have hne := h.op.1 (.inl s2)
      have hl := h.lim (by rw [s2]; decide)
      refine ⟨⟨.inr (.inr (.inr (.inl rfl))), e0, e1, ev, ⟨fun _ => hne, fun _ => .inr rfl⟩, fun _ => hl, fun _ => ⟨rfl, rfl⟩, hp0, by show x.pid < next + 1; omega, by show x.pid < next + 1; omega, by show 1 ≤ next + 1; omega, by show next + 1 ≤ _; omega, hi0, by show x.inc ≤ _; omega, Nat.le_succ_of_le h.len, fun h3 => absurd rfl h3⟩, ⟨fun _ => Int.le_refl _, fun hq => absurd rfl hq, Int.le_refl _⟩⟩
    rw [if_neg s2, we]
    by_cases h9 : 999 ≤ x.ep + 2
    · rw [if_pos h9]; exact li_begin h _ (by omega) (by omega)
    · rw [if_neg h9]
      have hs := h.sep s3
      refine ⟨⟨.inr (.inl rfl), by show 0 ≤ x.ep + 2; omega, by show x.ep + 2 ≤ 1000; omega, by show (x.ep + 2) % 2 = 0; omega, ⟨(fun h => by rcases h with h | h <;> cases h), fun h => absurd rfl h⟩, fun _ => by show x.ep + 2 ≤ 998; omega, (fun h => by cases h), hp0, by show x.pid < next + 1; omega, by show x.lp < next + 1; omega, by show 1 ≤ next + 1; omega, by show next + 1 ≤ _; omega, by show 0 ≤ x.inc + m2 o.inc; omega, by show x.inc + m2 o.inc ≤ _; omega, Nat.zero_le _, fun _ => hs.imp id (fun hh => by show x.la < x.ep + 2; omega)⟩, ⟨fun _ => by show x.ep ≤ x.ep + 2; omega, fun hq => absurd rfl hq, by show x.inc ≤ x.inc + m2 o.inc; omega⟩⟩
  rw [if_neg k0]
  by_cases k1 : o.kd = 1
  · rw [if_pos k1]
    unfold addD
    rw [if_neg (by decide), if_neg (not_not_intro m6i)]
    by_cases s0 : x.st = 0
    · rw [if_pos s0]; exact li_none h _
    rw [if_neg s0, if_neg (fun h => h rfl), if_neg (fun h => h rfl)]
    by_cases s3 : x.st = 3
    · rw [if_pos s3]; exact li_none h _
    rw [if_neg s3]
    by_cases h9 : 999 ≤ x.ep
    · rw [if_pos h9]; exact li_none h _
    rw [if_neg h9]
    by_cases hc : x.ps.contains (m6 o.pt) = true
    · rw [if_pos hc]; exact li_none h _
    · rw [if_neg hc]
      have hs := h.sep s3
      have hu := uni_len x.ps [m6 o.pt]
      have hne : uni x.ps [m6 o.pt] ≠ [] := uni_ne (by simp)
      refine ⟨⟨.inr (.inr (.inl rfl)), e0, e1, ev, ⟨fun _ => hne, fun _ => .inl rfl⟩, fun _ => by show x.ep ≤ 998; omega, (fun h => by cases h), hp0, by show x.pid < next + 1; omega, by show x.lp < next + 1; omega, by show 1 ≤ next + 1; omega, by show next + 1 ≤ _; omega, hi0, by show x.inc ≤ _; omega, Nat.le_trans hu (by have := h.len; simp; omega), fun _ => hs⟩, ⟨fun _ => Int.le_refl _, fun hq => absurd rfl hq, Int.le_refl _⟩⟩
  rw [if_neg k1]
  by_cases k2 : o.kd = 2
  · rw [if_pos k2]
    unfold endD
    rw [if_neg (by decide)]
    by_cases s0 : x.st = 0
    · rw [if_pos s0]; exact li_none h _
    rw [if_neg s0, if_neg (fun h => h rfl)]
    by_cases hl : x.ep = x.la ∧ x.pid = x.lp
    · rw [if_pos hl]; exact li_none h _
    rw [if_neg hl, if_neg (fun h => h rfl)]
    by_cases s2 : x.st ≠ 2
    · rw [if_pos s2]; exact li_none h _
    · rw [if_neg s2]
      have s2' : x.st = 2 := Decidable.of_not_not s2
      have hne := h.op.1 (.inl s2')
      have hl := h.lim (by rw [s2']; decide)
      refine ⟨⟨.inr (.inr (.inr (.inl rfl))), e0, e1, ev, ⟨fun _ => hne, fun _ => .inr rfl⟩, fun _ => hl, fun _ => ⟨rfl, rfl⟩, hp0, by show x.pid < next + 1; omega, by show x.pid < next + 1; omega, by show 1 ≤ next + 1; omega, by show next + 1 ≤ _; omega, hi0, by show x.inc ≤ _; omega, Nat.le_succ_of_le h.len, fun h3 => absurd rfl h3⟩, ⟨fun _ => Int.le_refl _, fun hq => absurd rfl hq, Int.le_refl _⟩⟩
  rw [if_neg k2]
  by_cases s3 : x.st = 3
  · have e : decide (x.st = 3) = true := decide_eq_true s3
    rw [e]
    obtain ⟨la, lpp⟩ := h.prep s3
    have hl := h.lim (by rw [s3]; decide)
    have e2 : lifeX x ⟨⟨4, 0, 0, 0, 0, [], false⟩, true, 0⟩ = ⟨4, x.inc, x.pid, wrap64 (x.la + 2), [], x.la, x.lp, x.co⟩ := rfl
    rw [e2, la, we]
    refine ⟨⟨.inr (.inr (.inr (.inr rfl))), by show 0 ≤ x.ep + 2; omega, by show x.ep + 2 ≤ 1000; omega, by show (x.ep + 2) % 2 = 0; omega, ⟨(fun h => by rcases h with h | h <;> cases h), fun h => absurd rfl h⟩, fun hh => absurd rfl hh, (fun h => by cases h), hp0, by show x.pid < next + 1; omega, by show x.lp < next + 1; omega, by show 1 ≤ next + 1; omega, by show next + 1 ≤ _; omega, hi0, by show x.inc ≤ _; omega, Nat.zero_le _, fun _ => .inr (by show x.ep < x.ep + 2; omega)⟩, ⟨fun _ => by show x.ep ≤ x.ep + 2; omega, fun hq => absurd rfl hq, Int.le_refl _⟩⟩
  · have e : decide (x.st = 3) = false := decide_eq_false s3
    rw [e]
    exact ⟨h.wait, LStep.refl x⟩
end Go.Proofs.Ytijfjhafjblefaa
