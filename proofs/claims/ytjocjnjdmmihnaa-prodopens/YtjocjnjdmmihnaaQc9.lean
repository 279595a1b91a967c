/-
  A table of producers, any; what each step of Apply leaves. Conditions: none but the table's own.
-/
import Derived.Test.YtjocjnjdmmihnaaQa9
namespace Go.Proofs.Ytjocjnjdmmihnaa
open Go.RowKit
set_option linter.unusedVariables false

/-- What is known of a producer. -/
structure Kn where
  ep : Int
  nx : Int
  op : Bool
  fi : Int
  ls : List Sn
structure Fits (q : Pd) (k : Kn) : Prop where
  ep : q.ep = k.ep
  nx : q.nx = k.nx
  op : q.op = k.op
  fi : q.fi = k.fi
abbrev tabC (mv av : Value) : Obj := .cells #[mv, av] 49
/-- The table at tb: R holds its blocks, K what it knows; at most c producers and aborted transactions. -/
structure Tb (w : World) (tb : Nat) (mv av : Value) (m : Pps) (K : Nat → Option Kn) (n c : Nat) (R : Nat → Prop) : Prop where
  tab : w.heap[tb]? = some (tabC mv av)
  map : (mv = .map none ∧ m = []) ∨ ∃ mb, mv = .map (some mb) ∧ PM w mb m ∧ R mb
  non : ∀ s, patx m s = none → K s = none
  hav : ∀ s q, (s, q) ∈ m → ∃ k, K s = some k ∧ Fits q k ∧ Lst9 w q k.ls ∧ k.ls.length ≤ 5
  own : ∀ s q, (s, q) ∈ m → ∀ k, (pdS q).ownBlock = some k → R k
  apt : ∀ s q t r, (s, q) ∈ m → (t, r) ∈ m → s ≠ t → ∀ k, (pdS q).ownBlock = some k → (pdS r).ownBlock ≠ some k
  abr : ∃ xs, Wide w 57 3 av n xs
  abo : ∀ k, av.ownBlock = some k → R k
  tbr : R tb
  len : m.length ≤ c ∧ n ≤ c
/-- The producer, as it is when a batch of an epoch comes; what a batch makes of it. -/
def atK (o : Option Kn) (ep : Int) : Kn := match o with | none => ⟨ep, 0, false, 0, []⟩ | some k => if k.ep < ep then ⟨ep, 0, k.op, k.fi, []⟩ else k
def apK (b : Bt) (k : Kn) : Kn := if b.ctl = true then ⟨k.ep, k.nx, false, if k.op = true then 0 else k.fi, k.ls⟩ else ⟨k.ep, IntKind.i64.wrap (b.seq + (b.vs.length : Int)), k.op || b.txn, if b.txn = true ∧ k.op = false then b.base else k.fi, wnd k.ls ++ [snB b]⟩
/-- Within Apply: w the world when it was called. -/
structure ApS (w W : World) (tb gp : Nat) (mv av : Value) (m : Pps) (K : Nat → Option Kn) (n : Nat) (R : Nat → Prop) (b : Bt) (a : Option Addr) (cap : Nat) (p : Pd) (ls : List Sn) : Prop where
  tab : W.heap[tb]? = some (tabC mv av)
  bat : W.heap[w.heap.size]? = some (.cells (btC b a cap) 30)
  pd : PdAt W gp p
  lst : Lst9 W p ls
  map : (mv = .map none ∧ m = []) ∨ ∃ mb, mv = .map (some mb) ∧ PM W mb m ∧ (R mb ∨ w.heap.size ≤ mb)
  oth : ∀ s q, (s, q) ∈ m → s ≠ b.pid → ∃ k, K s = some k ∧ Fits q k ∧ Lst9 W q k.ls ∧ k.ls.length ≤ 5
  own : ∀ s q, (s, q) ∈ m → s ≠ b.pid → ∀ k, (pdS q).ownBlock = some k → R k
  apt : ∀ s q t r, (s, q) ∈ m → (t, r) ∈ m → s ≠ b.pid → t ≠ b.pid → s ≠ t → ∀ k, (pdS q).ownBlock = some k → (pdS r).ownBlock ≠ some k
  apn : ∀ s q, (s, q) ∈ m → s ≠ b.pid → ∀ k, (pdS q).ownBlock = some k → (pdS p).ownBlock ≠ some k
  mov : ∀ k, (pdS p).ownBlock = some k → R k ∨ w.heap.size ≤ k
  abr : ∃ xs, Wide W 57 3 av n xs
  abo : ∀ k, av.ownBlock = some k → R k ∨ w.heap.size ≤ k
  tch : Touch R w W
  big : w.heap.size < gp
  tbw : tb < w.heap.size
  tbr : R tb
section
variable {w W W' : World} {tb gp n : Nat} {mv av : Value} {m : Pps} {K : Nat → Option Kn} {R S : Nat → Prop} {b : Bt} {a : Option Addr} {cap : Nat} {p p2 : Pd} {ls ls2 : List Sn}
theorem heap_eq {w : World} {k : Nat} {x y : Obj} (h : w.heap[k]? = some x) (h2 : w.heap[k]? = some y) : x = y := Option.some.inj (h.symm.trans h2)
theorem ApS.lt_row (h : ApS w W tb gp mv av m K n R b a cap p ls) {s : Nat} {q : Pd} (hq : (s, q) ∈ m) (hs : s ≠ b.pid) {k : Nat} (hk : (pdS q).ownBlock = some k) : ∃ cs, W.heap[k]? = some (.cells cs 62) := by
  obtain ⟨kn, _, _, h3, _⟩ := h.oth s q hq hs
  exact h3.1.heap hk
/-- A step that writes but into S. -/
theorem ApS.go (h : ApS w W tb gp mv av m K n R b a cap p ls) (t : Touch S W W') (s1 : ¬ S tb) (s2 : ¬ S w.heap.size) (s3 : ∀ s q, (s, q) ∈ m → s ≠ b.pid → ∀ k, (pdS q).ownBlock = some k → ¬ S k) (s4 : ∀ mb, mv = .map (some mb) → ¬ S mb) (s5 : ∀ k, av.ownBlock = some k → ¬ S k) (s6 : ∀ k, S k → R k ∨ w.heap.size ≤ k) (hp : PdAt W' gp p2) (hl : Lst9 W' p2 ls2) (hm : ∀ k, (pdS p2).ownBlock = some k → (pdS p).ownBlock = some k ∨ W.heap.size ≤ k) :
    ApS w W' tb gp mv av m K n R b a cap p2 ls2 := by
  refine ⟨t.keep h.tab s1, t.keep h.bat s2, hp, hl, ?_, ?_, h.own, h.apt, ?_, ?_, ?_, h.abo, touch_new h.tch t s6, h.big, h.tbw, h.tbr⟩
  · rcases h.map with e | ⟨mb, e1, e2, e3⟩
    · exact .inl e
    · exact .inr ⟨mb, e1, e2.keep t (s4 mb e1), e3⟩
  · intro s q hq hs
    obtain ⟨kn, e1, e2, e3, e4⟩ := h.oth s q hq hs
    exact ⟨kn, e1, e2, ⟨e3.1.keep t (s3 s q hq hs), e3.2⟩, e4⟩
  · intro s q hq hs k hk hk2
    rcases hm k hk2 with e | e
    · exact h.apn s q hq hs k hk e
    · obtain ⟨cs, hc⟩ := h.lt_row hq hs hk
      have := lt_of_heap hc
      omega
  · intro k hk
    rcases hm k hk with e | e
    · exact h.mov k e
    · exact .inr (Nat.le_trans h.tch.size e)
  · obtain ⟨xs, hx⟩ := h.abr
    exact ⟨xs, hx.keep t s5⟩
theorem ApS.later (h : ApS w W tb gp mv av m K n R b a cap p ls) (hb : Below W.heap.size W W') : ApS w W' tb gp mv av m K n R b a cap p ls :=
  h.go (Touch.of_below (S := fun _ => False) hb) id id (fun _ _ _ _ _ _ h => h) (fun _ _ h => h) (fun _ _ h => h) (fun _ h => h.elim) (h.pd.later hb) (h.lst.later hb) (fun k hk => .inl hk)
/-- Blocks apart, by what they hold. -/
theorem ApS.tb_gp (h : ApS w W tb gp mv av m K n R b a cap p ls) : tb ≠ gp := by have := h.big; have := h.tbw; omega
theorem ApS.mb_not (h : ApS w W tb gp mv av m K n R b a cap p ls) {mb : Nat} (hm : mv = .map (some mb)) {k : Nat} {cs : Array Value} {t : TypeId} (hk : W.heap[k]? = some (.cells cs t)) : mb ≠ k := fun e => by
  rcases h.map with ⟨e1, _⟩ | ⟨mb', e1, e2, _⟩
  · rw [hm] at e1; cases e1
  · rw [hm] at e1
    cases e1
    obtain ⟨es, cl, hb⟩ := e2.block
    rw [e] at hb
    cases heap_eq hk hb
theorem ApS.row_not (h : ApS w W tb gp mv av m K n R b a cap p ls) {s : Nat} {q : Pd} (hq : (s, q) ∈ m) (hs : s ≠ b.pid) {k g : Nat} (hk : (pdS q).ownBlock = some k) {cs : Array Value} {t : TypeId} (hg : W.heap[g]? = some (.cells cs t)) (ht : t ≠ 62) : k ≠ g := fun e => by
  obtain ⟨cs', hc⟩ := h.lt_row hq hs hk
  rw [e] at hc
  exact ht (Obj.cells.inj (heap_eq hg hc)).2.1
theorem ApS.ab_not (h : ApS w W tb gp mv av m K n R b a cap p ls) {k g : Nat} (hk : av.ownBlock = some k) {cs : Array Value} {t : TypeId} (hg : W.heap[g]? = some (.cells cs t)) (ht : t ≠ 57) : k ≠ g := fun e => by
  obtain ⟨xs, hx⟩ := h.abr
  obtain ⟨cs', hc⟩ := hx.heap hk
  rw [e] at hc
  exact ht (Obj.cells.inj (heap_eq hg hc)).2.1
/-- Behind add. -/
theorem ApS.added (h : ApS w W tb gp mv av m K n R b a cap p ls) {e : Ending} (ha : AdP2 W gp p ls b e W') : e = .returned (.tuple #[]) ∧ ∃ p2, ApS w W' tb gp mv av m K n R b a cap p2 (wnd ls ++ [snB b]) ∧ p2.ep = p.ep ∧ p2.nx = IntKind.i64.wrap (b.seq + ((if b.ctl = true then 1 else b.vs.length : Nat) : Int)) ∧ p2.op = (p.op || b.txn) ∧ p2.fi = (if b.txn = true ∧ p.op = false then b.base else p.fi) := by
  obtain ⟨rfl, p2, c1, c2, c3, c4, c5, c6, c7, c8⟩ := ha
  have hsent : ∀ k, (pdS p).ownBlock = some k → ∃ cs, W.heap[k]? = some (.cells cs 62) := fun k hk => h.lst.1.heap hk
  have hgW := h.pd
  refine ⟨rfl, p2, h.go c7 ?_ ?_ ?_ ?_ ?_ ?_ c1 c2 c8, c3, c4, c5, c6⟩
  · rintro (e | e)
    · exact h.tb_gp e
    · obtain ⟨cs, hc⟩ := hsent _ e
      exact absurd (Obj.cells.inj (heap_eq h.tab hc)).2.1 (by decide)
  · rintro (e | e)
    · have := h.big; omega
    · obtain ⟨cs, hc⟩ := hsent _ e
      exact absurd (Obj.cells.inj (heap_eq h.bat hc)).2.1 (by decide)
  · rintro s q hq hs k hk (e | e)
    · exact h.row_not hq hs hk hgW (by decide) e
    · exact h.apn s q hq hs k hk e
  · rintro mb hm (e | e)
    · exact h.mb_not hm hgW e
    · obtain ⟨cs, hc⟩ := hsent _ e
      exact h.mb_not hm hc rfl
  · rintro k hk (e | e)
    · exact h.ab_not hk hgW (by decide) e
    · obtain ⟨cs, hc⟩ := hsent _ e
      exact h.ab_not hk hc (by decide) rfl
  · rintro k (e | e)
    · exact .inr (by have := h.big; omega)
    · exact h.mov k e
/-- A store into the producer's own block. -/
theorem ApS.fld (h : ApS w W tb gp mv av m K n R b a cap p ls) (i : Nat) (u : Value) (hp : PdAt (W.setCell ⟨gp, i, none⟩ u) gp p2) (hs : pdS p2 = pdS p) (hn : p2.n = p.n) : ApS w (W.setCell ⟨gp, i, none⟩ u) tb gp mv av m K n R b a cap p2 ls := by
  have t := touch_set W gp i u
  have hgW := h.pd
  have hne := h.pd.apart h.lst
  refine h.go t h.tb_gp (show ¬ w.heap.size = gp by have := h.big; omega) (fun s q hq hs k hk => h.row_not hq hs hk hgW (by decide)) (fun mb hm => h.mb_not hm hgW) (fun k hk => h.ab_not hk hgW (by decide)) (fun k hk => .inr (by have := h.big; omega)) hp ⟨?_, by rw [hn]; exact h.lst.2⟩ (fun k hk => .inl (by rw [← hs]; exact hk))
  rw [hs]
  exact h.lst.1.keep t (fun k hk e => hne (by rw [← e]; exact hk))
end
end Go.Proofs.Ytjocjnjdmmihnaa
