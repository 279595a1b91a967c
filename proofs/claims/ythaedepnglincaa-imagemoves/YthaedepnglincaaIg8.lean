/-
  fence: a node isn't there any more. Conditions: it is a node; all in sync are nodes; epochs and versions are below 2^62.
-/
import Derived.Test.YthaedepnglincaaIg5
namespace Go.Proofs.Ythaedepnglincaa
open Go.RowKit Go.Maps
set_option linter.unusedVariables false

def without (x : Int) (l : List Int) : List Int := l.filter (fun y => !(y == x))
def cutV : Value → Nat → Value
  | .slice a _ c, n => .slice a n c
  | v, _ => v
def goneQ (ns : List Nd) (x : Int) (q : Pt) : Pt :=
  if q.is.contains x then
    (if q.is.any (thr ns) then
      (if q.ld == x then electQ ns ⟨q.ld, q.ep, q.ve + 1, without x q.is, q.rs, q.ts⟩ else ⟨q.ld, q.ep, q.ve + 1, without x q.is, q.rs, q.ts⟩)
     else (if q.ld == x then electQ ns q else q))
  else q
def goneP (ns : List Nd) (x : Int) (p : Pm) : Pm :=
  ⟨goneQ ns x p.q, if p.q.is.contains x && p.q.is.any (thr ns) then cutV p.vi (without x p.q.is).length else p.vi, p.vr, p.vt⟩
def VOk (q : Pt) : Prop := 0 ≤ q.ve ∧ q.ve ≤ 4611686018427387904
theorem without_in {n : Nat} {x : Int} {l : List Int} (h : inN n l) : inN n (without x l) := fun y hy => h y (List.mem_filter.1 hy).1
section
variable {w w' : World} {mb : Nat} {m : Im}
/-- One leaves those in sync: the list is cut in its place, and the version is one more. -/
theorem ImAt.leave (h : ImAt w mb m) {i pg cap g c : Nat} (hi : i < m.ps.length) (hg : m.pv = .slice (some ⟨pg, 0, none⟩) m.ps.length cap) {q : Pt} {vr vt : Value} {x : Int} (hp : m.ps[i] = ⟨q, .slice (some ⟨g, 0, none⟩) q.is.length c, vr, vt⟩) {w1 : World} (t1 : Touch (· = g) w w1)
    (hl : IL w1 (.slice (some ⟨g, 0, none⟩) (without x q.is).length c) (without x q.is)) :
    ImTo w mb m ((w1.setCell ⟨pg, i * 6 + 3, none⟩ (.slice (some ⟨g, 0, none⟩) (without x q.is).length c)).setCell ⟨pg, i * 6 + 2, none⟩ (.int .i64 (q.ve + 1))) (m.put i ⟨⟨q.ld, q.ep, q.ve + 1, without x q.is, q.rs, q.ts⟩, .slice (some ⟨g, 0, none⟩) (without x q.is).length c, vr, vt⟩) := by
  have hb : m.pv.ownBlock = some pg := by rw [hg]; rfl
  have hB : (m.ps[i]).B g := by rw [hp]; exact .inl rfl
  have hne : pg ≠ g := fun e => (h.ii hi hB).2.2.2 (by rw [hb, e])
  have t2 := touch_set w1 pg (i * 6 + 3) (.slice (some ⟨g, 0, none⟩) (without x q.is).length c)
  have t3 := touch_set (w1.setCell ⟨pg, i * 6 + 3, none⟩ (.slice (some ⟨g, 0, none⟩) (without x q.is).length c)) pg (i * 6 + 2) (.int .i64 (q.ve + 1))
  have t23 := t2.trans t3
  have T : Touch (fun k => k = g ∨ k = pg) w ((w1.setCell ⟨pg, i * 6 + 3, none⟩ (.slice (some ⟨g, 0, none⟩) (without x q.is).length c)).setCell ⟨pg, i * 6 + 2, none⟩ (.int .i64 (q.ve + 1))) := (t1.mono (fun _ h => .inl h)).trans (t23.mono (fun _ h => .inr h))
  have hin := h.each i hi
  rw [hp] at hin
  have hw := (h.pts.keep t1 (fun k hk e => hne (by rw [hb] at hk; cases hk; exact e)))
  rw [hg] at hw
  have hw2 := (hw.set (i * 6 + 3) (.slice (some ⟨g, 0, none⟩) (without x q.is).length c)).set (i * 6 + 2) (.int .i64 (q.ve + 1))
  rw [flat_set pmC pmC_len m.ps i 3 (.slice (some ⟨g, 0, none⟩) (without x q.is).length c) ⟨⟨q.ld, q.ep, q.ve, without x q.is, q.rs, q.ts⟩, .slice (some ⟨g, 0, none⟩) (without x q.is).length c, vr, vt⟩ hi (by omega) (by rw [hp]; rfl), flat_set pmC pmC_len _ i 2 (.int .i64 (q.ve + 1)) ⟨⟨q.ld, q.ep, q.ve + 1, without x q.is, q.rs, q.ts⟩, .slice (some ⟨g, 0, none⟩) (without x q.is).length c, vr, vt⟩ (by simp; exact hi) (by omega) (by simp [pmC]), List.set_set] at hw2
  have og : ∀ k, vr.ownBlock = some k ∨ vt.ownBlock = some k → k ≠ g ∧ k ≠ pg := fun k hk => by
    constructor
    · intro e
      subst e
      rcases hk with hk | hk
      · exact hin.ir k rfl hk
      · exact hin.it k rfl hk
    · intro e
      have : (m.ps[i]).B k := by rw [hp]; exact hk.elim (fun h => .inr (.inl h)) (fun h => .inr (.inr h))
      exact (h.ii hi this).2.2.2 (by rw [hb, e])
  refine h.toPut hi _ T (fun k hk => by rcases hk with rfl | rfl; exact .inr hB; exact .inl hb) (by rw [hg]; exact hw2) ?_ (fun k hk => .inl ?_)
  · refine ⟨hl.keep t23 (fun k hk e => hne (by rw [← e]; exact (by simpa [Value.ownBlock] using hk : g = k).symm)), hin.lr.keep T (fun k hk e => ?_), hin.lt.keep T (fun k hk e => ?_), hin.ir, hin.it, hin.rt⟩
    · rcases e with e | e
      · exact (og k (.inl hk)).1 e
      · exact (og k (.inl hk)).2 e
    · rcases e with e | e
      · exact (og k (.inr hk)).1 e
      · exact (og k (.inr hk)).2 e
  · rw [hp]; exact hk
end
end Go.Proofs.Ythaedepnglincaa
