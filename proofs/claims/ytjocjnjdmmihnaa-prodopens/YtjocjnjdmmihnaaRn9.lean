/-
  A range over the map of producers. Plain lemmas over the library's laws. No conditions.
-/
import Derived.Test.YtjocjnjdmmihnaaQg9
import Derived.Maps.RangeWalk
namespace Go.Proofs.Ytjocjnjdmmihnaa
open Go.RowKit Go.Maps
set_option linter.unusedVariables false

theorem pdel_apart {m : Pps} (h : m.Pairwise (fun p q => p.1 ≠ q.1)) (s : Nat) : (pdel m s).Pairwise (fun p q => p.1 ≠ q.1) := h.filter _
theorem pat_mem {m : Pps} (ha : m.Pairwise (fun p q => p.1 ≠ q.1)) {s : Nat} {g : Pd} (h : (s, g) ∈ m) : patx m s = some g := by
  cases e : patx m s with
  | none => exact absurd rfl (pat_none e _ h)
  | some g' =>
    have h2 := pat_some e
    by_cases he : g' = g
    · rw [he]
    · exfalso
      have key : ∀ (l : Pps), l.Pairwise (fun p q => p.1 ≠ q.1) → (s, g) ∈ l → (s, g') ∈ l → g' = g := by
        intro l
        induction l with
        | nil => intro _ h; cases h
        | cons x r ih =>
          intro hp h1 h2
          obtain ⟨q1, q2⟩ := List.pairwise_cons.1 hp
          rcases List.mem_cons.1 h1 with e1 | e1 <;> rcases List.mem_cons.1 h2 with e2 | e2
          · rw [← e1] at e2; exact (Prod.mk.inj e2).2
          · exact absurd (by rw [← e1]) (q1 _ e2)
          · exact absurd (by rw [← e2]) (q1 _ e1)
          · exact ih q2 e1 e2
      exact he (key m ha h h2)
theorem pgrown {w w' : World} {r : Nat} (h : w.grownBy w' (some r)) : Touch (· = r) w w' := ⟨h.os, h.tape, h.output, h.size, fun k hk hs => h.block k hk (fun e => hs (by simpa using e))⟩
/-- A range under way: todo is what is to come. -/
structure PRG (w : World) (b r : Nat) (m todo : Pps) : Prop where
  ex : ∃ es left cnt, w.ranges Try.prog 27 pdE b r m.length (.map es) left cnt ∧ es.Perm (m.map pent) ∧ (∀ p ∈ m, left (pent p).1 = true → p ∈ todo) ∧ (∀ p ∈ todo, left (pent p).1 = true) ∧ (∀ kl, left kl = true → ∃ p ∈ m, (pent p).1 = kl)
  apart : m.Pairwise (fun p q => p.1 ≠ q.1)
  sub : ∀ p ∈ todo, p ∈ m
section
variable {w w' : World} {b r : Nat} {m todo : Pps} {S : Nat → Prop}
theorem PRG.pm (h : PRG w b r m todo) : PM w b m := by
  obtain ⟨es, left, cnt, h1, h2, _⟩ := h.ex
  exact ⟨⟨es, h1.owns, h2⟩, h.apart⟩
theorem PRG.keep (h : PRG w b r m todo) (t : Touch S w w') (hb : ¬ S b) (hr : ¬ S r) : PRG w' b r m todo := by
  obtain ⟨es, left, cnt, ⟨es0, clock, since, seen, c0, h1, h2, h3, h4, h5, h6⟩, g2⟩ := h.ex
  exact ⟨⟨es, left, cnt, ⟨es0, clock, since, seen, c0, t.keep h1 hb, h2, h3, h4, t.keep h5 hr, h6⟩, g2⟩, h.apart, h.sub⟩
theorem PRG.lt (h : PRG w b r m todo) : r < w.heap.size := by obtain ⟨es, left, cnt, h1, _⟩ := h.ex; exact h1.lt
theorem PM.range (h : PM w b m) : ∃ w', (Instr.range 46 (.map (some b))).run Try.prog w = .ok (.pointer (some ⟨w.heap.size, 0, none⟩)) w' ∧ PRG w' b w.heap.size m m ∧ Touch (fun _ => False) w w' := by
  obtain ⟨es, h1, h2⟩ := h.ex
  obtain ⟨w', hrun, hrg, hg, hsz⟩ := h1.range pkeyed Try.underlying46
  refine ⟨w', hrun, ⟨⟨es, _, _, hrg, h2, fun p hp _ => hp, fun p hp => ?_, fun kl hkl => ?_⟩, h.apart, fun p hp => hp⟩, ⟨hg.os, hg.tape, hg.output, hg.size, fun k hk _ => hg.block k hk (by simp)⟩⟩
  · show Maps.has _ (Lit.int .u64 (p.1 : Nat)) = true
    rw [pes_has h.apart h2, pat_mem h.apart (g := p.2) hp]; rfl
  · obtain ⟨p, hp, hpk⟩ := List.any_eq_true.1 hkl
    obtain ⟨q, hq, rfl⟩ := List.mem_map.1 (h2.mem_iff.1 hp)
    exact ⟨q, hq, WideAt.sameKey_eq hpk⟩
theorem PRG.next (h : PRG w b r m todo) (ty : TypeId) :
    (todo = [] ∧ (Instr.next (.pointer (some ⟨r, 0, none⟩)) false ty).run Try.prog w = .ok (.tuple #[.bool false]) w) ∨
    ∃ p key w', p ∈ todo ∧ (Instr.next (.pointer (some ⟨r, 0, none⟩)) false ty).run Try.prog w = .ok (.tuple #[.bool true, key, pdV p.2]) w' ∧ PRG w' b r m (pdel todo p.1) ∧ w'.rangeLeft b r < w.rangeLeft b r ∧ Touch (· = r) w w' ∧
      (Instr.entry (.pointer (some ⟨r, 0, none⟩))).run Try.prog w' = .ok (.tuple #[key, pdV p.2]) w' := by
  obtain ⟨es, left, cnt, h1, h2, h3, h4, h5⟩ := h.ex
  rcases h1.next pkeyed ty with ⟨hc, hl, hrun⟩ | ⟨key, v, kl, y, w', cnt', hkey, hlk, hv, hat, hrun, hrg, hlt, hgr, hsz, hen⟩
  · refine .inl ⟨?_, hrun⟩
    cases todo with
    | nil => rfl
    | cons x r => have := h4 x (List.mem_cons_self ..); rw [hl] at this; cases this
  · obtain ⟨p, hp, hpk⟩ := h5 kl hlk
    have hpt := h3 p hp (by rw [hpk]; exact hlk)
    have hvv : v = pdV p.2 := by
      have e1 := hat .nil
      rw [← hpk] at e1
      have e2 := pes_at h.apart h2 p.1 .nil
      rw [pat_mem h.apart (g := p.2) hp] at e2
      have e3 : (DataW.map es).atKey (pent p).1 .nil = pdD p.2 := e2
      rw [e3] at e1
      obtain ⟨q, rfl, e4⟩ := pdE_inv hv
      rw [e4] at e1
      rw [pdD_inj e1]
    subst hvv
    refine .inr ⟨p, key, w', hpt, hrun, ⟨⟨es, _, _, hrg, h2, ?_, ?_, ?_⟩, h.apart, fun q hq => h.sub q (pdel_not hq).1⟩, by rw [hrg.left_eq, h1.left_eq]; exact hlt, pgrown hgr, hen⟩
    · intro q hq hl
      simp only [Bool.and_eq_true, Bool.not_eq_true'] at hl
      have := h3 q hq hl.1
      simp only [pdel, List.mem_filter, decide_eq_true_eq]
      refine ⟨this, fun e => ?_⟩
      have e2 : (pent q).1 = kl := by rw [← hpk]; simp [pent, e]
      rw [e2, WideAt.sameKey_self (pkeyed.key hkey)] at hl
      exact absurd hl.2 (by simp)
    · intro q hq
      obtain ⟨h7, h8⟩ := pdel_not hq
      simp only [Bool.and_eq_true, Bool.not_eq_true']
      refine ⟨h4 q h7, ?_⟩
      cases hs : (pent q).1.sameKey kl
      · rfl
      · have := WideAt.sameKey_eq hs
        rw [← hpk] at this
        simp only [pent, Lit.int.injEq, true_and] at this
        exact absurd (by omega) h8
    · intro k2 hk2
      simp only [Bool.and_eq_true] at hk2
      exact h5 k2 hk2.1
theorem pleft_keep (t : Touch S w w') (h1 : b < w.heap.size) (h2 : r < w.heap.size) (hb : ¬ S b) (hr : ¬ S r) : w'.rangeLeft b r = w.rangeLeft b r := by
  unfold World.rangeLeft
  rw [t.block b h1 hb, t.block r h2 hr]
end
end Go.Proofs.Ytjocjnjdmmihnaa
