/-
  prod's producer.add of any batch. Conditions: the producer is one, with at most five last batches.
-/
import Derived.Test.YtjocjnjdmmihnaaQd9
import Derived.Test.YtjocjnjdmmihnaaPd4
import Derived.Deep.CutBlock
import Derived.Deep.DeepCutAuto
namespace Go.Proofs.Ytjocjnjdmmihnaa
open Go.RowKit
set_option linter.unusedVariables false

/-- The last batches ahead of one more. -/
def wnd (ls : List Sn) : List Sn := if ls.length = 5 then ls.drop 1 else ls
abbrev snB (b : Bt) : Sn := ⟨b.seq, (b.vs.length : Int), b.base⟩
abbrev btC (b : Bt) (a : Option Addr) (cap : Nat) : Array Value := #[.int .i64 b.base, .int .i64 b.epoch, .int .u64 (b.pid : Int), .int .i64 b.pep, .int .i64 b.seq, .bool b.txn, .bool b.ctl, .bool b.com, .slice a b.vs.length cap]
/-- Within add: w the world when it was called, p the producer then. -/
structure AdS (w W : World) (gp : Nat) (p p1 : Pd) (ls : List Sn) (b : Bt) (a : Option Addr) (cap : Nat) : Prop where
  pd : PdAt W gp p1
  bat : W.heap[w.heap.size]? = some (.cells (btC b a cap) 30)
  lst : Lst9 W p1 ls
  tch : Touch (fun k => k = gp ∨ (pdS p).ownBlock = some k) w W
  mov : Moved w (pdS p) (pdS p1)
def AdP2 (w : World) (gp : Nat) (p : Pd) (ls : List Sn) (b : Bt) (e : Ending) (w' : World) : Prop :=
  e = .returned (.tuple #[]) ∧ ∃ p', PdAt w' gp p' ∧ Lst9 w' p' (wnd ls ++ [snB b]) ∧ p'.ep = p.ep ∧ p'.nx = IntKind.i64.wrap (b.seq + ((if b.ctl = true then 1 else b.vs.length : Nat) : Int)) ∧ p'.op = (p.op || b.txn) ∧ p'.fi = (if b.txn = true ∧ p.op = false then b.base else p.fi) ∧ Touch (fun k => k = gp ∨ (pdS p).ownBlock = some k) w w' ∧ Moved w (pdS p) (pdS p')
theorem touch_new {S R : Nat → Prop} {w w1 w2 : World} (t1 : Touch S w w1) (t2 : Touch R w1 w2) (h : ∀ k, R k → S k ∨ w.heap.size ≤ k) : Touch S w w2 :=
  ⟨t2.os.trans t1.os, t2.tape.trans t1.tape, t2.output.trans t1.output, Nat.le_trans t1.size t2.size, fun k hk hs => by
    rw [t2.block k (Nat.lt_of_lt_of_le hk t1.size) (fun hr => by rcases h k hr with e | e; exact hs e; omega), t1.block k hk hs]⟩
theorem snC_one (ls : List Sn) : ∀ u ∈ ls.flatMap snC, u.oneCell' = true := by
  intro u hu
  obtain ⟨p, _, h⟩ := List.mem_flatMap.1 hu
  simp only [snC, List.mem_cons, List.not_mem_nil, or_false] at h
  rcases h with rfl | rfl | rfl <;> rfl
theorem PdAt.apart {w : World} {gp : Nat} {p : Pd} {ls : List Sn} (h : PdAt w gp p) (hl : Lst9 w p ls) : (pdS p).ownBlock ≠ some gp := fun e => by
  obtain ⟨cs, hc⟩ := hl.1.heap e
  rw [h] at hc
  exact absurd (Obj.cells.inj (Option.some.inj hc)).2.1 (by decide)
/-- Behind the Delete. -/
theorem AdS.cut {w W W2 : World} {gp : Nat} {p p1 : Pd} {ls : List Sn} {b : Bt} {a : Option Addr} {cap g : Nat} (h : AdS w W gp p p1 ls b a cap) (h5 : ls.length = 5) (hg : p1.g = some g) (hd : DlSent W g p1.n p1.c 0 (ls.flatMap snC) (.returned (.slice (some ⟨g, 0, none⟩) (p1.n - 1) p1.c)) W2) (hgw : gp < w.heap.size) :
    AdS w (W2.setCell ⟨gp, 2, none⟩ (.slice (some ⟨g, 0, none⟩) (p1.n - 1) p1.c)) gp p ⟨p1.ep, p1.nx, some g, p1.n - 1, p1.c, p1.op, p1.fi⟩ (ls.drop 1) b a cap := by
  obtain ⟨_, d2, d3⟩ := hd
  have hob : (pdS p1).ownBlock = some g := by show (Value.slice _ _ _).ownBlock = _; rw [hg]; rfl
  have hgg : g ≠ gp := fun e => h.pd.apart h.lst (by rw [hob, e])
  have hgb : g ≠ w.heap.size := fun e => by
    obtain ⟨cs, hc⟩ := h.lst.1.heap hob
    rw [e, h.bat] at hc
    exact absurd (Obj.cells.inj (Option.some.inj hc)).2.1 (by decide)
  have hn : p1.n = 5 := by rw [h.lst.2, h5]
  have ts := touch_set W2 gp 2 (.slice (some ⟨g, 0, none⟩) (p1.n - 1) p1.c)
  have hpd := d3.keep h.pd (show ¬ gp = g from fun e => hgg e.symm)
  refine ⟨?_, ts.keep (d3.keep h.bat (show ¬ w.heap.size = g from fun e => hgb e.symm)) (show ¬ w.heap.size = gp by omega), ⟨?_, ?_⟩, ?_, ?_⟩
  · have := heap_set hpd 2 (.slice (some ⟨g, 0, none⟩) (p1.n - 1) p1.c)
    simp only [List.setIfInBounds_toArray, List.set_cons_succ, List.set_cons_zero] at this
    exact this
  · have e : (ls.flatMap snC).take (0 * 3) ++ (ls.flatMap snC).drop ((0 + 1) * 3) = (ls.drop 1).flatMap snC := by
      match ls, h5 with
      | s :: r, _ => simp [snC]
    rw [e] at d2
    rw [List.length_drop, h5]
    have d4 := Wide.keep d2 ts (fun k hk e => by
      have : g = k := by simpa [Value.ownBlock] using hk
      omega)
    rw [hn] at d4
    show Wide _ _ 3 (.slice _ (p1.n - 1) p1.c) _ _
    rw [hn]
    exact d4
  · show p1.n - 1 = _
    rw [hn, List.length_drop, h5]
  · refine touch_new (touch_new h.tch d3 (fun k hk => ?_)) ts (fun k hk => .inl (.inl hk))
    subst hk
    exact (h.mov k hob).imp (fun e => .inr e) id
  · intro k hk
    have hk' : (Value.slice (some ⟨g, 0, none⟩) (p1.n - 1) p1.c).ownBlock = some k := hk
    have : g = k := by simpa [Value.ownBlock] using hk'
    subst this
    exact h.mov g hob
/-- Behind the append. -/
theorem AdS.app {w W X W3 : World} {gp : Nat} {p p1 : Pd} {ls : List Sn} {b : Bt} {a : Option Addr} {cap : Nat} (h : AdS w W gp p p1 ls b a cap) (hX : Below W.heap.size W X) {v3 : Value} (o3 : Wide W3 62 3 v3 (ls.length + 1) (ls.flatMap snC ++ snC (snB b))) (t3 : Touch (fun k => (pdS p1).ownBlock = some k) X W3) (m3 : Moved X (pdS p1) v3) (hgw : gp < w.heap.size) :
    W3.cell? ⟨gp, 2, none⟩ = some (pdS p1) ∧ W3.frozen? ⟨gp, 2, none⟩ = false ∧ W3.heap[w.heap.size]? = some (.cells (btC b a cap) 30) ∧ ∃ g3 c3, v3 = .slice (some ⟨g3, 0, none⟩) (ls.length + 1) c3 ∧ AdS w (W3.setCell ⟨gp, 2, none⟩ v3) gp p ⟨p1.ep, p1.nx, some g3, ls.length + 1, c3, p1.op, p1.fi⟩ (ls ++ [snB b]) b a cap := by
  obtain ⟨a3, c3, rfl⟩ := o3.shape
  obtain ⟨g3, ha3⟩ : ∃ g, a3 = some ⟨g, 0, none⟩ := by
    obtain ⟨a', c', e1, _, _, _, _, hp⟩ := o3.parts
    injection e1 with e1 e2 e3
    obtain ⟨g, hg, _⟩ := hp (by omega)
    exact ⟨g, by rw [e1, hg]⟩
  subst ha3
  have hne := h.pd.apart h.lst
  have hnb : (pdS p1).ownBlock ≠ some w.heap.size := fun e => by
    obtain ⟨cs, hc⟩ := h.lst.1.heap e
    rw [h.bat] at hc
    exact absurd (Obj.cells.inj (Option.some.inj hc)).2.1 (by decide)
  have hb : w.heap.size < W.heap.size := lt_of_heap h.bat
  have g3' := keep_heap t3 hne hX h.pd
  have b3' := keep_heap t3 hnb hX h.bat
  have ts := touch_set W3 gp 2 (.slice (some ⟨g3, 0, none⟩) (ls.length + 1) c3)
  have hW : Touch (fun k => k = gp ∨ (pdS p).ownBlock = some k) w X := touch_new h.tch (Touch.of_below (S := fun _ => False) hX) (fun _ h => h.elim)
  refine ⟨by rw [cell_of g3']; rfl, frozen_of g3' 2, b3', g3, c3, rfl, ?_, ts.keep b3' (show ¬ w.heap.size = gp by omega), ⟨?_, ?_⟩, ?_, fun k hk => ?_⟩
  · have := heap_set g3' 2 (.slice (some ⟨g3, 0, none⟩) (ls.length + 1) c3)
    simp only [List.setIfInBounds_toArray, List.set_cons_succ, List.set_cons_zero] at this
    exact this
  · rw [List.length_append, List.length_singleton, List.flatMap_append]
    refine Wide.keep (v := .slice (some ⟨g3, 0, none⟩) (ls.length + 1) c3) ?_ ts (fun k hk e => ?_)
    · rw [List.flatMap_cons, List.flatMap_nil, List.append_nil]
      exact o3
    · rcases m3 k hk with e2 | e2
      · exact hne (by rw [← e]; exact e2)
      · have := hX.size; omega
  · simp
  · refine touch_new (touch_new hW t3 (fun k hk => ?_)) ts (fun k hk => .inl (.inl hk))
    exact (h.mov k hk).imp (fun e => .inr e) id
  · rcases m3 k hk with e2 | e2
    · exact h.mov k e2
    · exact .inr (by have := hX.size; omega)
end Go.Proofs.Ytjocjnjdmmihnaa
