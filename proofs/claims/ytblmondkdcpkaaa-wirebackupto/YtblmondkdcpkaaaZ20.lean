/-
  wire's reader: entry, abort, fetch. Conditions: the reader as it lies.
-/
import Derived.Test.YtblmondkdcpkaaaZ01
import Derived.Test.YtblmondkdcpkaaaZ19
import Derived.Test.YtblmondkdcpkaaaZ15

/-
  Rows of elements of several cells that a call itself makes and grows. Plain lemmas. Conditions: a grown row has at most 2^47 bytes.
-/
namespace Go.Proofs.Ytblmondkdcpkaaa
open Go.RowKit
set_option linter.unusedVariables false

/-- A row of n elements of sz cells each; xs are all its cells. -/
def Wide (w : World) (e : TypeId) (sz : Nat) (v : Value) (n : Nat) (xs : List Value) : Prop := w.ownsRow 0 e sz v n xs
section
variable {w w' : World} {e : TypeId} {sz n : Nat} {v : Value} {xs : List Value} {S : Nat → Prop}
theorem Wide.nil (w : World) (e : TypeId) (sz : Nat) : Wide w e sz (.slice none 0 0) 0 [] := World.ownsRow_nil w 0 e sz
theorem Wide.len (h : Wide w e sz v n xs) : xs.length = n * sz := h.1
theorem Wide.lt (h : Wide w e sz v n xs) : ∀ k, v.ownBlock = some k → k < w.heap.size := fun k hk => (World.ownsRow.lt h k hk).2
theorem Wide.keep (h : Wide w e sz v n xs) (t : Touch S w w') (hs : ∀ k, v.ownBlock = some k → ¬ S k) : Wide w' e sz v n xs := by
  refine ⟨h.1, ?_⟩
  rcases h.2 with hn | ⟨g, cap, cur, rfl, hb, hgg, rest⟩
  · exact .inl hn
  · exact .inr ⟨g, cap, cur, rfl, hb, t.keep hgg (hs g rfl), rest⟩
theorem Wide.later (h : Wide w e sz v n xs) (hb : Below w.heap.size w w') : Wide w' e sz v n xs := h.keep (Touch.of_below (S := fun _ => False) hb) (fun _ _ h => h)
theorem Wide.heap (h : Wide w e sz v n xs) {k : Nat} (hk : v.ownBlock = some k) : ∃ cs, w.heap[k]? = some (.cells cs e) := by
  rcases h.2 with ⟨rfl, _⟩ | ⟨g, cap, cur, rfl, hb, hgg, rest⟩
  · simp [Value.ownBlock] at hk
  · have : g = k := by simpa [Value.ownBlock] using hk
    rw [this] at hgg; exact ⟨_, hgg⟩
theorem Wide.shape (h : Wide w e sz v n xs) : ∃ a cap, v = .slice a n cap := by
  rcases h.2 with ⟨rfl, rfl⟩ | ⟨g, cap, cur, rfl, _⟩
  · exact ⟨_, _, rfl⟩
  · exact ⟨_, _, rfl⟩
theorem Wide.parts (h : Wide w e sz v n xs) : ∃ a cap, v = .slice a n cap ∧ n ≤ cap ∧ cap ≤ maxLen ∧ (a = none → cap = 0) ∧ (∀ x, a = some x → v.ownBlock = some x.block) ∧ (0 < n → ∃ g, a = some ⟨g, 0, none⟩ ∧ g < w.heap.size ∧ (∀ j, j < n * sz → w.cell? ⟨g, j, none⟩ = xs[j]?) ∧ ∀ j, w.frozen? ⟨g, j, none⟩ = false) := by
  rcases h.2 with ⟨rfl, h0⟩ | ⟨g, cap, cur, rfl, _, hgg, hn, hm, hs, ht⟩
  · exact ⟨none, 0, by rw [h0], by omega, Nat.zero_le _, fun _ => rfl, (fun x hx => by cases hx), fun hi => by omega⟩
  · refine ⟨some ⟨g, 0, none⟩, cap, rfl, hn, hm, (fun hx => by cases hx), (fun x hx => by cases hx; rfl), fun _ => ⟨g, rfl, lt_of_heap hgg, fun j hj => ?_, fun j => frozen_of hgg j⟩⟩
    rw [cell_of hgg, ← ht, List.getElem?_take, if_pos hj]
    simp
/-- A store into it. -/
theorem Wide.set {g cap : Nat} (h : Wide w e sz (.slice (some ⟨g, 0, none⟩) n cap) n xs) (j : Nat) (u : Value) : Wide (w.setCell ⟨g, j, none⟩ u) e sz (.slice (some ⟨g, 0, none⟩) n cap) n (xs.set j u) := by
  obtain ⟨h1, h2⟩ := h
  rcases h2 with ⟨e, _⟩ | ⟨g', cap', cur, e, hb, hgg, hn, hm, hs, ht⟩
  · cases e
  · cases e
    refine ⟨by simpa using h1, .inr ⟨g, cap, _, rfl, hb, heap_set hgg j _, hn, hm, by simpa using hs, ?_⟩⟩
    rw [Array.toList_setIfInBounds, List.take_set, ht]
end

theorem addr_add (b off j : Nat) : Addr.add ⟨b, off, none⟩ j = ⟨b, off + j, none⟩ := by
  unfold Addr.add
  split
  · rename_i h0; subst h0; rfl
  · rfl
/-- append of one element to it. -/
theorem run_wide {P : Program} (w : World) (t ty e : TypeId) (i : TypeInfo) (z : Value) (sz bytes : Nat) (ht : P.underlying t = some (.slice e)) (hi : P.info? e = some i) (hz : i.zero = some z)
    (hsize : i.size = sz) (hby : i.bytes = bytes) (hzs : z.cells.size = sz) (hsz : 0 < sz) (v : Value) (n : Nat) (xs : List Value) (hown : Wide w e sz v n xs)
    (g off c : Nat) (news : List Value) (hm : news.length = sz) (hnews : ∀ j u, news[j]? = some u → w.cell? ⟨g, off + j, none⟩ = some u) (h1 : ∀ u ∈ news, u.oneCell' = true)
    (h63 : n + 1 ≤ maxLen) (hbytes : (n + 1) * bytes ≤ 140737488355328) :
    ∃ v' w', (Builtin.append_ #[t, t] ty #[v, .slice (some ⟨g, off, none⟩) 1 c]).run P w = .ok v' w' ∧ Wide w' e sz v' (n + 1) (xs ++ news) ∧ Touch (fun k => v.ownBlock = some k) w w' ∧ Moved w v v' := by
  have hn' : ∀ j u, news[j]? = some u → w.cell? ((⟨g, off, none⟩ : Addr).add j) = some u := fun j u hj => by rw [addr_add]; exact hnews j u hj
  have hl : news.length = 1 * sz := by omega
  obtain ⟨v', w', hrun, o', g', _⟩ := run_append_own (P := P) w 0 t ty e i z sz bytes ht hi hz hsize hby hzs hsz v n xs hown ⟨g, off, none⟩ 1 c news hl hn' h1 h63 hbytes (Nat.zero_le _)
  refine ⟨v', w', hrun, o', ⟨g'.os, g'.tape, g'.output, g'.size, fun k hk hs => g'.block k hk (fun e => hs e.symm)⟩, ?_⟩
  intro k hk
  have hsm : n + 1 ≤ 9223372036854775807 := by simp only [maxLen] at h63; omega
  rcases hown.2 with ⟨rfl, hx0⟩ | ⟨g, cap, cur, rfl, _, hgg, hnc, hcm, hcs, htk⟩
  · have hb : (0 + 1) * bytes ≤ 140737488355328 := by rw [hx0] at hbytes; exact hbytes
    have hr := run_append_nil (P := P) w t ty e i z ht hi hz _ 1 c news (by rw [hsize]; exact hl) hn' (by omega) (by omega) (by simp only [Nat.zero_add] at hb; rw [hby]; omega)
    rw [hr] at hrun
    cases hrun
    right
    have hk' : some w.heap.size = some k := hk
    cases hk'; exact Nat.le_refl _
  · by_cases hroom : n + 1 ≤ cap
    · have hfit : n * i.size + news.length ≤ cur.size := by rw [hsize, hl, hcs, ← Nat.add_mul]; exact Nat.mul_le_mul_right _ hroom
      have hr := run_append_room (P := P) w t ty e i ht hi g n cap cur hgg _ 1 c news (by rw [hsize]; exact hl) hn' h1 hroom hfit
      rw [hr] at hrun
      cases hrun
      exact .inl hk
    · have holds : ∀ j u, xs[j]? = some u → w.cell? ((⟨g, 0, none⟩ : Addr).add j) = some u := World.ownsRow.cells hown (g := g) rfl
      have hr := run_append_grow (P := P) w t ty e i z ht hi hz ⟨g, 0, none⟩ n cap xs (by rw [hsize]; exact hown.1) holds _ 1 c news (by rw [hsize]; exact hl) hn' (by omega) (by omega) (by rw [hby]; exact growslice_fits (by omega) hbytes)
      rw [hr] at hrun
      cases hrun
      right
      have hk' : some w.heap.size = some k := hk
      cases hk'; exact Nat.le_refl _
theorem wpList_wide {P : Program} (w : World) {ops : Array Oper} {rest : List Oper} {o : Oper} {a : Act} {Q : Exit → Act → World → Prop}
    (hg : o.guard = none) (s x : Operand) (t : TypeId) (hop : o.op = Op.call { callee := Callee.builtin Builtin.append, args := #[s, x], argTypes := #[t, t] })
    (e : TypeId) (i : TypeInfo) (z : Value) (sz bytes : Nat) (ht : P.underlying t = some (.slice e)) (hi : P.info? e = some i) (hz : i.zero = some z)
    (hsize : i.size = sz) (hby : i.bytes = bytes) (hzs : z.cells.size = sz) (hsz : 0 < sz) (v : Value) (n : Nat) (xs : List Value) (hs : a.eval s = v) (hown : Wide w e sz v n xs)
    (g off c : Nat) (news : List Value) (hx : a.eval x = .slice (some ⟨g, off, none⟩) 1 c) (hm : news.length = sz) (hnews : ∀ j u, news[j]? = some u → w.cell? ⟨g, off + j, none⟩ = some u) (h1 : ∀ u ∈ news, u.oneCell' = true)
    (h63 : n + 1 ≤ maxLen) (hbytes : (n + 1) * bytes ≤ 140737488355328)
    (hK : ∀ v' w', Wide w' e sz v' (n + 1) (xs ++ news) → Touch (fun k => v.ownBlock = some k) w w' → Moved w v v' → wpList P ops Q rest (a.put o.dst v') w') :
    wpList P ops Q (o :: rest) a w := by
  refine wpList_plain hg fun K hK' => ?_
  obtain ⟨v', w', hrun, r1, r2, r3⟩ := run_wide (P := P) w t o.type e i z sz bytes ht hi hz hsize hby hzs hsz v n xs hown g off c news hm hnews h1 h63 hbytes
  unfold Oper.wp
  simp [execOp, hop, resolve, invoke, builtin, hs, hx, hrun, Result.andThen]
  exact hK' _ _ (hK v' w' r1 r2 r3)
end Go.Proofs.Ytblmondkdcpkaaa


/-
  What a call makes and nobody touches stays; lists of things taken one by one, in plain words. No conditions.
-/
namespace Go.Proofs.Ytblmondkdcpkaaa
open Go.RowKit
set_option linter.unusedVariables false

/-- P holds, and goes on to as long as nobody touches the blocks from lo up to hi. -/
structure Keeps (lo hi : Nat) (w : World) (P : World → Prop) : Prop where
  old : hi ≤ w.heap.size
  all : ∀ (S : Nat → Prop) (w' : World), Touch S w w' → (∀ k, S k → k < lo ∨ hi ≤ k) → P w'
theorem Keeps.now {lo hi : Nat} {w : World} {P : World → Prop} (h : Keeps lo hi w P) : P w := h.all (fun _ => False) w (Touch.refl _ _) (fun _ h => h.elim)
theorem Keeps.step {lo hi : Nat} {w w' : World} {P : World → Prop} {S : Nat → Prop} (h : Keeps lo hi w P) (t : Touch S w w') (hs : ∀ k, S k → k < lo ∨ hi ≤ k) : Keeps lo hi w' P :=
  ⟨Nat.le_trans h.old t.size, fun S' w'' t' hs' => h.all (fun k => S k ∨ S' k) w'' ((t.mono (fun k hk => .inl hk)).trans (t'.mono (fun k hk => .inr hk))) (fun k hk => by rcases hk with e | e; exact hs k e; exact hs' k e)⟩
theorem Keeps.imp {lo hi : Nat} {w : World} {P Q : World → Prop} (h : Keeps lo hi w P) (f : ∀ W, P W → Q W) : Keeps lo hi w Q := ⟨h.old, fun S w' t hs => f _ (h.all S w' t hs)⟩
theorem Keeps.and {lo hi : Nat} {w : World} {P Q : World → Prop} (h : Keeps lo hi w P) (g : Keeps lo hi w Q) : Keeps lo hi w (fun W => P W ∧ Q W) := ⟨h.old, fun S w' t hs => ⟨h.all S w' t hs, g.all S w' t hs⟩⟩
theorem Keeps.wide {lo hi lo' hi' : Nat} {w : World} {P : World → Prop} (h : Keeps lo hi w P) (h1 : lo' ≤ lo) (h2 : hi ≤ hi') (h3 : hi' ≤ w.heap.size) : Keeps lo' hi' w P :=
  ⟨h3, fun S w' t hs => h.all S w' t (fun k hk => by rcases hs k hk with e | e; exact .inl (by omega); exact .inr (by omega))⟩
theorem Keeps.true (lo : Nat) (w : World) {P : World → Prop} (h : ∀ W, P W) : Keeps lo w.heap.size w P := ⟨Nat.le_refl _, fun _ _ _ _ => h _⟩
theorem Keeps.row {w w' : World} {v : Value} {l : List Nat} (h : Row w' v l) (hn : New w v) : Keeps w.heap.size w'.heap.size w' (fun W => Row W v l) :=
  ⟨Nat.le_refl _, fun S w'' t hs => h.keep t (fun k hk hS => by have h1 := hn k hk; have h2 := h.own.lt k hk; rcases hs k hS with e | e <;> omega)⟩
theorem Keeps.irow {w w' : World} {v : Value} {l : List Int} (h : IRow w' v l) (hn : New w v) : Keeps w.heap.size w'.heap.size w' (fun W => IRow W v l) :=
  ⟨Nat.le_refl _, fun S w'' t hs => h.keep t (fun k hk hS => by have h1 := hn k hk; have h2 := Own.lt h k hk; rcases hs k hS with e | e <;> omega)⟩
theorem Keeps.paid {w w' : World} {v : Value} {ls : List (List Nat)} (h : Paid w w' v ls) (hn : New w v) : Keeps w.heap.size w'.heap.size w' (fun W => Paid w W v ls) :=
  ⟨Nat.le_refl _, fun S w'' t hs => by
    obtain ⟨vs, h⟩ := h
    refine ⟨vs, (h.keep t (fun k hk hS => ?_)).imp (fun u l hu => ⟨hu.1.keep t (fun k hk hS => ?_), hu.2⟩)⟩
    · have h1 := hn k hk
      have h2 := h.own.lt k hk
      rcases hs k hS with e | e <;> omega
    · have h1 := hu.2 k hk
      have h2 := hu.1.own.lt k hk
      rcases hs k hS with e | e <;> omega⟩
/-- n things are taken, one behind the other; the first that can't be ends it. -/
def rN {α : Type} (one : Rst → Int × α × Rst) : Nat → Rst → Int × List α × Rst
  | 0, s => (0, [], s)
  | k + 1, s => if (one s).1 ≠ 0 then ((one s).1, [], (one s).2.2) else ((rN one k (one s).2.2).1, (one s).2.1 :: (rN one k (one s).2.2).2.1, (rN one k (one s).2.2).2.2)
theorem rN_zero {α : Type} {one : Rst → Int × α × Rst} {s : Rst} : rN one 0 s = (0, [], s) := rfl
theorem rN_no {α : Type} {one : Rst → Int × α × Rst} {k : Nat} {s : Rst} (h : (one s).1 ≠ 0) : rN one (k + 1) s = ((one s).1, [], (one s).2.2) := by rw [rN, if_pos h]
theorem rN_ok {α : Type} {one : Rst → Int × α × Rst} {k : Nat} {s : Rst} (h : (one s).1 = 0) : rN one (k + 1) s = ((rN one k (one s).2.2).1, (one s).2.1 :: (rN one k (one s).2.2).2.1, (rN one k (one s).2.2).2.2) := by rw [rN, if_neg (by omega)]
/-- How many, and each. -/
def rAll {α : Type} (t : List Nat) (one : Rst → Int × α × Rst) (s : Rst) : Int × List α × Rst := if 512 < (rU t s).1 then (2, [], (rU t s).2) else rN one (rU t s).1 (rU t s).2
def rEn (t : List Nat) (s : Rst) : Int × (Int × List Nat) × Rst := (0, ((rI t s).1, (rB t (rI t s).2).1), (rB t (rI t s).2).2)
def rAb (t : List Nat) (s : Rst) : Int × (Nat × Int × Int) × Rst := (0, ((rU t s).1, (rI t (rU t s).2).1, (rI t (rI t (rU t s).2).2).1), (rI t (rI t (rU t s).2).2).2)
def baE (x : List Nat) : Int := if x.length = 0 then 0 else (decE x : Int)
def baB (x : List Nat) : Bt := if x.length = 0 then zeroB else decB x
def rBa (t : List Nat) (s : Rst) : Int × Bt × Rst := (baE (rB t s).1, baB (rB t s).1, (rB t s).2)
def En.vl (o : En) : Int × List Nat := (o.t, o.d)
def Ba.vl (o : Ba) : Bt := o.b
def Ab.vl (o : Ab) : Nat × Int × Int := (o.p, o.f, o.l)
/-- What a call of the reader leaves: it comes back, or gives up with E. -/
def RP (w : World) (b : Nat) (a : Option Addr) (cap : Nat) (t : List Nat) (E : Int) (s : Rst) (V : Value → World → Prop) (e : Ending) (w' : World) : Prop :=
  Touch (fun q => q = b ∨ w.heap.size ≤ q) w w' ∧ (E = 0 → ∃ v, e = .returned v ∧ RdAt 97 w' b a cap t s ∧ V v w') ∧ (E ≠ 0 → e = gone E)
end Go.Proofs.Ytblmondkdcpkaaa


namespace Go.Proofs.Ytblmondkdcpkaaa
open Go.RowKit
set_option linter.unusedVariables false

/-- A reader in its box, what is told in its own; w is the world in which the call began. -/
structure Rg (w w' : World) (b : Nat) (a : Option Addr) (cap : Nat) (t : List Nat) (s : Rst) (cs : Array Value) (T : TypeId) : Prop where
  rd : RdAt 97 w' b a cap t s
  bx : w'.heap[w.heap.size]? = some (.cells #[.pointer (some ⟨b, 0, none⟩)] 84)
  rs : w'.heap[w.heap.size + 1]? = some (.cells cs T)
  tc : Touch (fun q => q = b ∨ w.heap.size ≤ q) w w'
  bl : b < w.heap.size
  low : 0 < t.length → ∀ x, a = some x → x.block < w.heap.size
section
variable {w w' w'' : World} {b : Nat} {a : Option Addr} {cap : Nat} {t : List Nat} {s s' : Rst} {cs : Array Value} {T : TypeId}
theorem Rg.sz (h : Rg w w' b a cap t s cs T) : w.heap.size + 2 ≤ w'.heap.size := lt_of_heap h.rs
theorem Rg.call (h : Rg w w' b a cap t s cs T) (r : RdAt 97 w'' b a cap t s') (tc : Touch (fun q => q = b ∨ w'.heap.size ≤ q) w' w'') : Rg w w'' b a cap t s' cs T := by
  have h1 := h.sz
  have h2 := h.bl
  exact ⟨r, tc.keep h.bx (by omega), tc.keep h.rs (by omega), h.tc.trans (tc.mono (fun q hq => by rcases hq with e | e; exact .inl e; exact .inr (by omega))), h.bl, h.low⟩
theorem Rg.drew (h : Rg w w' b a cap t s cs T) : Rg w w'.drew b a cap t s cs T := h.call (h.rd.later (Below.refl _ _).drew) (Touch.refl _ _).drew
theorem Rg.box (h : Rg w w' b a cap t s cs T) : w'.cell? ⟨w.heap.size, 0, none⟩ = some (.pointer (some ⟨b, 0, none⟩)) := cell_of h.bx 0
theorem Rg.start (h : RdAt 97 w b a cap t s) (cs : Array Value) (T : TypeId) : Rg w ((w.alloc (.cells #[.pointer (some ⟨b, 0, none⟩)] 84)).alloc (.cells cs T)) b a cap t s cs T := by
  have hb0 := ((Below.refl w.heap.size w).alloc (Nat.le_refl _) (.cells #[.pointer (some ⟨b, 0, none⟩)] 84)).alloc (by simp) (.cells cs T)
  have hZ := heap_new (w.alloc (.cells #[.pointer (some ⟨b, 0, none⟩)] 84)) (.cells cs T)
  have hz0 : (w.alloc (.cells #[.pointer (some ⟨b, 0, none⟩)] 84)).heap.size = w.heap.size + 1 := by simp
  rw [hz0] at hZ
  refine ⟨h.later hb0, heap_old _ (heap_new w _), hZ, Touch.of_below hb0, h.lt, fun h0 x hx => ?_⟩
  obtain ⟨b', o', e', hb', _⟩ := h.text 0 h0
  rw [hx] at e'
  cases e'
  exact hb'
theorem Rg.lay (h : Rg w w' b a cap t s cs T) (L : List Value) (hL : cs.size = L.length) : Rg w (w'.setCells (w.heap.size + 1) 0 L) b a cap t s L.toArray T := by
  obtain ⟨q1, q2⟩ := heap_setCells L 0 w' _ h.rs
  rw [lay_all hL] at q1
  have h2 := h.bl
  exact ⟨h.rd.keep q2 (by omega) (fun h0 x hx e => by have := h.low h0 x hx; omega), q2.keep h.bx (by omega), q1, h.tc.trans (q2.mono (fun q hq => .inr (by omega))), h.bl, h.low⟩
theorem touch_new (tc : Touch (· = b) w w') : Touch (fun q => q = b ∨ w.heap.size ≤ q) w w' := tc.mono (fun q hq => .inl hq)
theorem ri_64 (h : RdAt 97 w b a cap t s) : I64 (rI t s).1 := zag_fits (rU_fits h.text.bytes)
theorem ruint_later {x : Nat} (h : RdAt 97 w b a cap t s) (e : rU t s = (x, s')) :
    Calls Try.prog 78 #[.pointer (some ⟨b, 0, none⟩)] w fun e w' => e = .returned (.int .u64 (x : Int)) ∧ RdAt 97 w' b a cap t s' ∧ Touch (· = b) w w' := by
  have := ruint_any w h
  rw [e] at this
  exact this
theorem rflag_later {x : Bool} (h : RdAt 97 w b a cap t s) (e : rF t s = (x, s')) :
    Calls Try.prog 71 #[.pointer (some ⟨b, 0, none⟩)] w fun e w' => e = .returned (.bool x) ∧ RdAt 97 w' b a cap t s' ∧ Touch (· = b) w w' := by
  have := rflag_any w h
  rw [e] at this
  exact this
theorem rbytes_later {x : List Nat} (h : RdAt 97 w b a cap t s) (e : rB t s = (x, s')) :
    Calls Try.prog 74 #[.pointer (some ⟨b, 0, none⟩)] w fun e w' => ∃ v, e = .returned v ∧ Row w' v x ∧ New w v ∧ RdAt 97 w' b a cap t s' ∧ Touch (· = b) w w' := by
  have := rbytes_any w h
  rw [e] at this
  exact this
theorem res_entry_x {Y : World} {g : Nat} {L : List Value} {tmps : Array Value} (h : Y.heap[g]? = some (.cells L.toArray 65)) (hi : (Try.prog.info? 65).map (·.size) = some L.length) (ht : tmps[2]?.getD undef = .pointer (some ⟨g, 0, none⟩)) :
    (results Try.f73 tmps).run Try.prog Y = .ok (.agg L.toArray) Y := by
  have hlv := run_loadVar_mid (P := Try.prog) Y g 0 65 L _ (range_of (o := 0) h (fun j v hv => by rw [Nat.zero_add]; exact hv)) Try.underlying65 rfl hi
  simp [results, Try.results73, ht, asAddr, hlv]
set_option maxRecDepth 100000 in
set_option maxHeartbeats 8000000 in
theorem entry_x {x1 : Int} {x2 : List Nat} {s0 s1 s2 : Rst} (h : RdAt 97 w b a cap t s0) (e1 : rI t s0 = (x1, s1)) (e2 : rB t s1 = (x2, s2)) :
    Calls Try.prog 73 #[.agg #[.pointer (some ⟨b, 0, none⟩)]] w fun e w' => RP w b a cap t 0 s2 (fun v W => ∃ o : En, v = .agg (cellsEn o).toArray ∧ o.t = x1 ∧ o.d = x2 ∧ Keeps w.heap.size W.heap.size W (fun W => EnIn W o)) e w' := by
  have R := hide (Rg.start h #[.int .i64 0, .slice none 0 0] 65).drew
  have E1 := hide e1
  have E2 := hide e2
  have HTB := hide h.text.bytes
  clear h e1 e2
  go_enter Try.func73, Try.ntmps73
  go_upto_region 1 with fail
  generalize (w.alloc (.cells #[.pointer (some ⟨b, 0, none⟩)] 84)).alloc (.cells #[.int .i64 0, .slice none 0 0] 65) = W1 at *
  have c0 := (unhide R).box
  replace c0 : W1.cell? ⟨w.heap.size, 0, none⟩ = some (.pointer (some ⟨b, 0, none⟩)) := c0
  refine wp_region_held_drew (S := fun w' => w'.cell? ⟨w.heap.size, 0, none⟩ = some (.pointer (some ⟨b, 0, none⟩))) (by kernel_rfl) (by simp [c0]) (fun hHeld => ?_)
  generalize W1.drew = U0 at *
  clear c0
  refine wpAnyH_take (i := 0) (v := .pointer (some ⟨w.heap.size, 0, none⟩)) rfl (by kernel_rfl) (by kernel_rfl) (by kernel_rfl) (fun _ _ _ h => h) (Or.inl ⟨by rfl, by intro w' hSw; (try dsimp only at hSw); go_simp⟩) (by assumption) ?_
  refine wpAnyH_take (i := 1) (v := .pointer (some ⟨b, 0, none⟩)) rfl (by kernel_rfl) (by kernel_rfl) (by kernel_rfl) (fun _ _ _ h => h) (Or.inl ⟨by rfl, by intro w' hSw; (try dsimp only at hSw); go_simp⟩) (by assumption) ?_
  refine wpAnyH_take (i := 3) (v := .pointer (some ⟨w.heap.size, 0, none⟩)) rfl (by kernel_rfl) (by kernel_rfl) (by kernel_rfl) (fun _ _ _ h => h) (Or.inl ⟨by rfl, by intro w' hSw; (try dsimp only at hSw); go_simp⟩) (by assumption) ?_
  refine wpAnyH_take (i := 4) (v := .pointer (some ⟨b, 0, none⟩)) rfl (by kernel_rfl) (by kernel_rfl) (by kernel_rfl) (fun _ _ _ h => h) (Or.inl ⟨by rfl, by intro w' hSw; (try dsimp only at hSw); go_simp⟩) (by assumption) ?_
  refine wpAnyH_ready (rs := [2]) (by kernel_rfl) (by simp) ?_
  refine AllReadyH.cons rfl (fun K hK => ?_) AllReadyH.nil
  go_simp
  refine (rint_later (unhide R).rd (unhide E1) (Below.refl _ _)).mono ?_
  rintro e u1 ⟨rfl, r, t⟩
  have R1 := hide ((unhide R).call r (touch_new t))
  refine hK.out _ _ ?_ (fun hHeld => ?_)
  · (try dsimp only); exact (unhide R1).box
  clear hK K r t R
  refine wpAnyH_ready (rs := [5]) (by kernel_rfl) (by simp) ?_
  refine AllReadyH.cons rfl (fun K hK => ?_) AllReadyH.nil
  go_simp
  refine (rbytes_later (unhide R1).rd (unhide E2)).mono ?_
  rintro e u2 ⟨v2, rfl, rw2, nw2, r, t⟩
  obtain ⟨va2, vc2, ev2, _⟩ := rw2.parts
  subst ev2
  have Q2 := hide (Keeps.row rw2 nw2)
  have U2 := hide (unhide R1).sz
  clear rw2 nw2
  have R2 := hide ((unhide R1).call r (touch_new t))
  refine hK.out _ _ ?_ (fun hHeld => ?_)
  · (try dsimp only); exact (unhide R2).box
  clear hK K r t R1
  refine wpAnyH_take (i := 6) (v := .agg #[.int .i64 x1, .slice va2 x2.length vc2]) rfl (by kernel_rfl) (by kernel_rfl) (by kernel_rfl) (fun _ _ _ h => h) (Or.inl ⟨by rfl, by intro w' hSw; (try dsimp only at hSw); go_simp⟩) (by assumption) ?_
  refine wpAnyH_ready (rs := [7]) (by kernel_rfl) (by simp) ?_
  refine AllReadyH.cons rfl (fun K hK => ?_) AllReadyH.nil
  refine wp_store_mid 65 (.tmp 2) (.tmp 9) rfl (w.heap.size + 1) 0 #[.int .i64 x1, .slice va2 x2.length vc2] rfl rfl (there_of (unhide R2).rs (Nat.le_refl _)) (by kernel_rfl) (by simp [Value.oneCell']) ?_
  have RZ := hide ((unhide R2).lay [.int .i64 x1, .slice va2 x2.length vc2] rfl)
  have QZ2 := hide ((unhide Q2).step (heap_setCells [.int .i64 x1, .slice va2 x2.length vc2] 0 u2 _ (unhide R2).rs).2 (fun k hk => .inl (by have := unhide U2; omega)))
  refine hK.out _ _ ?_ (fun hHeld => ?_)
  · (try dsimp only); exact (unhide RZ).box
  clear hK K R2
  change wpAnyH _ _ _ _ _ _ _ _ (u2.setCells (w.heap.size + 1) 0 [.int .i64 x1, .slice va2 x2.length vc2])
  generalize u2.setCells (w.heap.size + 1) 0 [.int .i64 x1, .slice va2 x2.length vc2] = V at *
  refine wpAnyH_done (by kernel_rfl) ?_ _
  have I1 : I64 x1 := by have := zag_fits (rU_fits (t := t) (s := s0) (unhide HTB)); have e := unhide E1; unfold rI at e; cases e; exact this
  have FF : Hid (RP w b a cap t 0 s2 (fun v W => ∃ o : En, v = .agg (cellsEn o).toArray ∧ o.t = x1 ∧ o.d = x2 ∧ Keeps w.heap.size W.heap.size W (fun W => EnIn W o)) (.returned (.agg #[.int .i64 x1, .slice va2 x2.length vc2])) V) := hide ⟨(unhide RZ).tc, fun _ => ⟨_, rfl, (unhide RZ).rd, ⟨x1, va2, vc2, x2⟩, rfl, rfl, rfl, ((unhide QZ2).wide (by have := unhide U2; omega) (unhide QZ2).old (Nat.le_refl _)).imp (fun W h => by
    obtain ⟨aa, cc, e, l, _, _, z, _⟩ := h.parts
    cases e
    exact ⟨l, z, I1⟩)⟩, fun h => absurd rfl h⟩
  clear QZ2
  go_wp2
  refine bodyPost_ret (res_entry_x (unhide RZ).rs (by kernel_rfl) rfl) rfl ?_
  exact unhide FF
theorem res_abort_x {Y : World} {g : Nat} {L : List Value} {tmps : Array Value} (h : Y.heap[g]? = some (.cells L.toArray 73)) (hi : (Try.prog.info? 73).map (·.size) = some L.length) (ht : tmps[2]?.getD undef = .pointer (some ⟨g, 0, none⟩)) :
    (results Try.f81 tmps).run Try.prog Y = .ok (.agg L.toArray) Y := by
  have hlv := run_loadVar_mid (P := Try.prog) Y g 0 73 L _ (range_of (o := 0) h (fun j v hv => by rw [Nat.zero_add]; exact hv)) Try.underlying73 rfl hi
  simp [results, Try.results81, ht, asAddr, hlv]
set_option maxRecDepth 100000 in
set_option maxHeartbeats 8000000 in
theorem abort_x {x1 : Nat} {x2 : Int} {x3 : Int} {s0 s1 s2 s3 : Rst} (h : RdAt 97 w b a cap t s0) (e1 : rU t s0 = (x1, s1)) (e2 : rI t s1 = (x2, s2)) (e3 : rI t s2 = (x3, s3)) :
    Calls Try.prog 81 #[.agg #[.pointer (some ⟨b, 0, none⟩)]] w fun e w' => RP w b a cap t 0 s3 (fun v W => ∃ o : Ab, v = .agg (cellsAb o).toArray ∧ o.p = x1 ∧ o.f = x2 ∧ o.l = x3 ∧ AbIn W o) e w' := by
  have R := hide (Rg.start h #[.int .u64 0, .int .i64 0, .int .i64 0] 73).drew
  have E1 := hide e1
  have E2 := hide e2
  have E3 := hide e3
  have HTB := hide h.text.bytes
  clear h e1 e2 e3
  go_enter Try.func81, Try.ntmps81
  go_upto_region 1 with fail
  generalize (w.alloc (.cells #[.pointer (some ⟨b, 0, none⟩)] 84)).alloc (.cells #[.int .u64 0, .int .i64 0, .int .i64 0] 73) = W1 at *
  have c0 := (unhide R).box
  replace c0 : W1.cell? ⟨w.heap.size, 0, none⟩ = some (.pointer (some ⟨b, 0, none⟩)) := c0
  refine wp_region_held_drew (S := fun w' => w'.cell? ⟨w.heap.size, 0, none⟩ = some (.pointer (some ⟨b, 0, none⟩))) (by kernel_rfl) (by simp [c0]) (fun hHeld => ?_)
  generalize W1.drew = U0 at *
  clear c0
  refine wpAnyH_take (i := 0) (v := .pointer (some ⟨w.heap.size, 0, none⟩)) rfl (by kernel_rfl) (by kernel_rfl) (by kernel_rfl) (fun _ _ _ h => h) (Or.inl ⟨by rfl, by intro w' hSw; (try dsimp only at hSw); go_simp⟩) (by assumption) ?_
  refine wpAnyH_take (i := 1) (v := .pointer (some ⟨b, 0, none⟩)) rfl (by kernel_rfl) (by kernel_rfl) (by kernel_rfl) (fun _ _ _ h => h) (Or.inl ⟨by rfl, by intro w' hSw; (try dsimp only at hSw); go_simp⟩) (by assumption) ?_
  refine wpAnyH_take (i := 3) (v := .pointer (some ⟨w.heap.size, 0, none⟩)) rfl (by kernel_rfl) (by kernel_rfl) (by kernel_rfl) (fun _ _ _ h => h) (Or.inl ⟨by rfl, by intro w' hSw; (try dsimp only at hSw); go_simp⟩) (by assumption) ?_
  refine wpAnyH_take (i := 4) (v := .pointer (some ⟨b, 0, none⟩)) rfl (by kernel_rfl) (by kernel_rfl) (by kernel_rfl) (fun _ _ _ h => h) (Or.inl ⟨by rfl, by intro w' hSw; (try dsimp only at hSw); go_simp⟩) (by assumption) ?_
  refine wpAnyH_take (i := 6) (v := .pointer (some ⟨w.heap.size, 0, none⟩)) rfl (by kernel_rfl) (by kernel_rfl) (by kernel_rfl) (fun _ _ _ h => h) (Or.inl ⟨by rfl, by intro w' hSw; (try dsimp only at hSw); go_simp⟩) (by assumption) ?_
  refine wpAnyH_take (i := 7) (v := .pointer (some ⟨b, 0, none⟩)) rfl (by kernel_rfl) (by kernel_rfl) (by kernel_rfl) (fun _ _ _ h => h) (Or.inl ⟨by rfl, by intro w' hSw; (try dsimp only at hSw); go_simp⟩) (by assumption) ?_
  refine wpAnyH_ready (rs := [2]) (by kernel_rfl) (by simp) ?_
  refine AllReadyH.cons rfl (fun K hK => ?_) AllReadyH.nil
  go_simp
  refine (ruint_later (unhide R).rd (unhide E1)).mono ?_
  rintro e u1 ⟨rfl, r, t⟩
  have R1 := hide ((unhide R).call r (touch_new t))
  refine hK.out _ _ ?_ (fun hHeld => ?_)
  · (try dsimp only); exact (unhide R1).box
  clear hK K r t R
  refine wpAnyH_ready (rs := [5]) (by kernel_rfl) (by simp) ?_
  refine AllReadyH.cons rfl (fun K hK => ?_) AllReadyH.nil
  go_simp
  refine (rint_later (unhide R1).rd (unhide E2) (Below.refl _ _)).mono ?_
  rintro e u2 ⟨rfl, r, t⟩
  have R2 := hide ((unhide R1).call r (touch_new t))
  refine hK.out _ _ ?_ (fun hHeld => ?_)
  · (try dsimp only); exact (unhide R2).box
  clear hK K r t R1
  refine wpAnyH_ready (rs := [8]) (by kernel_rfl) (by simp) ?_
  refine AllReadyH.cons rfl (fun K hK => ?_) AllReadyH.nil
  go_simp
  refine (rint_later (unhide R2).rd (unhide E3) (Below.refl _ _)).mono ?_
  rintro e u3 ⟨rfl, r, t⟩
  have R3 := hide ((unhide R2).call r (touch_new t))
  refine hK.out _ _ ?_ (fun hHeld => ?_)
  · (try dsimp only); exact (unhide R3).box
  clear hK K r t R2
  refine wpAnyH_take (i := 9) (v := .agg #[.int .u64 (x1 : Int), .int .i64 x2, .int .i64 x3]) rfl (by kernel_rfl) (by kernel_rfl) (by kernel_rfl) (fun _ _ _ h => h) (Or.inl ⟨by rfl, by intro w' hSw; (try dsimp only at hSw); go_simp⟩) (by assumption) ?_
  refine wpAnyH_ready (rs := [10]) (by kernel_rfl) (by simp) ?_
  refine AllReadyH.cons rfl (fun K hK => ?_) AllReadyH.nil
  refine wp_store_mid 73 (.tmp 2) (.tmp 12) rfl (w.heap.size + 1) 0 #[.int .u64 (x1 : Int), .int .i64 x2, .int .i64 x3] rfl rfl (there_of (unhide R3).rs (Nat.le_refl _)) (by kernel_rfl) (by simp [Value.oneCell']) ?_
  have RZ := hide ((unhide R3).lay [.int .u64 (x1 : Int), .int .i64 x2, .int .i64 x3] rfl)
  refine hK.out _ _ ?_ (fun hHeld => ?_)
  · (try dsimp only); exact (unhide RZ).box
  clear hK K R3
  change wpAnyH _ _ _ _ _ _ _ _ (u3.setCells (w.heap.size + 1) 0 [.int .u64 (x1 : Int), .int .i64 x2, .int .i64 x3])
  generalize u3.setCells (w.heap.size + 1) 0 [.int .u64 (x1 : Int), .int .i64 x2, .int .i64 x3] = V at *
  refine wpAnyH_done (by kernel_rfl) ?_ _
  have U1 : x1 < 18446744073709551616 := by have := rU_fits (t := t) (s := s0) (unhide HTB); rw [unhide E1] at this; exact this
  have I2 : I64 x2 := by have := zag_fits (rU_fits (t := t) (s := s1) (unhide HTB)); have e := unhide E2; unfold rI at e; cases e; exact this
  have I3 : I64 x3 := by have := zag_fits (rU_fits (t := t) (s := s2) (unhide HTB)); have e := unhide E3; unfold rI at e; cases e; exact this
  have FF : Hid (RP w b a cap t 0 s3 (fun v W => ∃ o : Ab, v = .agg (cellsAb o).toArray ∧ o.p = x1 ∧ o.f = x2 ∧ o.l = x3 ∧ AbIn W o) (.returned (.agg #[.int .u64 (x1 : Int), .int .i64 x2, .int .i64 x3])) V) := hide ⟨(unhide RZ).tc, fun _ => ⟨_, rfl, (unhide RZ).rd, ⟨x1, x2, x3⟩, rfl, rfl, rfl, rfl, U1, I2, I3⟩, fun h => absurd rfl h⟩
  clear U1 I2 I3
  go_wp2
  refine bodyPost_ret (res_abort_x (unhide RZ).rs (by kernel_rfl) rfl) rfl ?_
  exact unhide FF
theorem res_fetch_x {Y : World} {g : Nat} {L : List Value} {tmps : Array Value} (h : Y.heap[g]? = some (.cells L.toArray 28)) (hi : (Try.prog.info? 28).map (·.size) = some L.length) (ht : tmps[2]?.getD undef = .pointer (some ⟨g, 0, none⟩)) :
    (results Try.f50 tmps).run Try.prog Y = .ok (.agg L.toArray) Y := by
  have hlv := run_loadVar_mid (P := Try.prog) Y g 0 28 L _ (range_of (o := 0) h (fun j v hv => by rw [Nat.zero_add]; exact hv)) Try.underlying28 rfl hi
  simp [results, Try.results50, ht, asAddr, hlv]
set_option maxRecDepth 100000 in
set_option maxHeartbeats 8000000 in
theorem fetch_x {x1 : Int} {x2 : Int} {x3 : Int} {x4 : Int} {x5 : Int} {s0 s1 s2 s3 s4 s5 : Rst} (h : RdAt 97 w b a cap t s0) (e1 : rI t s0 = (x1, s1)) (e2 : rI t s1 = (x2, s2)) (e3 : rI t s2 = (x3, s3)) (e4 : rI t s3 = (x4, s4)) (e5 : rI t s4 = (x5, s5)) :
    Calls Try.prog 50 #[.agg #[.pointer (some ⟨b, 0, none⟩)]] w fun e w' => RP w b a cap t 0 s5 (fun v W => v = .agg #[.int .i64 x1, .int .i64 x2, .int .i64 x3, .int .i64 x4, .int .i64 x5] ∧ I64 x1 ∧ I64 x2 ∧ I64 x3 ∧ I64 x4 ∧ I64 x5) e w' := by
  have R := hide (Rg.start h #[.int .i64 0, .int .i64 0, .int .i64 0, .int .i64 0, .int .i64 0] 28).drew
  have E1 := hide e1
  have E2 := hide e2
  have E3 := hide e3
  have E4 := hide e4
  have E5 := hide e5
  have HTB := hide h.text.bytes
  clear h e1 e2 e3 e4 e5
  go_enter Try.func50, Try.ntmps50
  go_upto_region 1 with fail
  generalize (w.alloc (.cells #[.pointer (some ⟨b, 0, none⟩)] 84)).alloc (.cells #[.int .i64 0, .int .i64 0, .int .i64 0, .int .i64 0, .int .i64 0] 28) = W1 at *
  have c0 := (unhide R).box
  replace c0 : W1.cell? ⟨w.heap.size, 0, none⟩ = some (.pointer (some ⟨b, 0, none⟩)) := c0
  refine wp_region_held_drew (S := fun w' => w'.cell? ⟨w.heap.size, 0, none⟩ = some (.pointer (some ⟨b, 0, none⟩))) (by kernel_rfl) (by simp [c0]) (fun hHeld => ?_)
  generalize W1.drew = U0 at *
  clear c0
  refine wpAnyH_take (i := 0) (v := .pointer (some ⟨w.heap.size, 0, none⟩)) rfl (by kernel_rfl) (by kernel_rfl) (by kernel_rfl) (fun _ _ _ h => h) (Or.inl ⟨by rfl, by intro w' hSw; (try dsimp only at hSw); go_simp⟩) (by assumption) ?_
  refine wpAnyH_take (i := 1) (v := .pointer (some ⟨b, 0, none⟩)) rfl (by kernel_rfl) (by kernel_rfl) (by kernel_rfl) (fun _ _ _ h => h) (Or.inl ⟨by rfl, by intro w' hSw; (try dsimp only at hSw); go_simp⟩) (by assumption) ?_
  refine wpAnyH_take (i := 3) (v := .pointer (some ⟨w.heap.size, 0, none⟩)) rfl (by kernel_rfl) (by kernel_rfl) (by kernel_rfl) (fun _ _ _ h => h) (Or.inl ⟨by rfl, by intro w' hSw; (try dsimp only at hSw); go_simp⟩) (by assumption) ?_
  refine wpAnyH_take (i := 4) (v := .pointer (some ⟨b, 0, none⟩)) rfl (by kernel_rfl) (by kernel_rfl) (by kernel_rfl) (fun _ _ _ h => h) (Or.inl ⟨by rfl, by intro w' hSw; (try dsimp only at hSw); go_simp⟩) (by assumption) ?_
  refine wpAnyH_take (i := 6) (v := .pointer (some ⟨w.heap.size, 0, none⟩)) rfl (by kernel_rfl) (by kernel_rfl) (by kernel_rfl) (fun _ _ _ h => h) (Or.inl ⟨by rfl, by intro w' hSw; (try dsimp only at hSw); go_simp⟩) (by assumption) ?_
  refine wpAnyH_take (i := 7) (v := .pointer (some ⟨b, 0, none⟩)) rfl (by kernel_rfl) (by kernel_rfl) (by kernel_rfl) (fun _ _ _ h => h) (Or.inl ⟨by rfl, by intro w' hSw; (try dsimp only at hSw); go_simp⟩) (by assumption) ?_
  refine wpAnyH_take (i := 9) (v := .pointer (some ⟨w.heap.size, 0, none⟩)) rfl (by kernel_rfl) (by kernel_rfl) (by kernel_rfl) (fun _ _ _ h => h) (Or.inl ⟨by rfl, by intro w' hSw; (try dsimp only at hSw); go_simp⟩) (by assumption) ?_
  refine wpAnyH_take (i := 10) (v := .pointer (some ⟨b, 0, none⟩)) rfl (by kernel_rfl) (by kernel_rfl) (by kernel_rfl) (fun _ _ _ h => h) (Or.inl ⟨by rfl, by intro w' hSw; (try dsimp only at hSw); go_simp⟩) (by assumption) ?_
  refine wpAnyH_take (i := 12) (v := .pointer (some ⟨w.heap.size, 0, none⟩)) rfl (by kernel_rfl) (by kernel_rfl) (by kernel_rfl) (fun _ _ _ h => h) (Or.inl ⟨by rfl, by intro w' hSw; (try dsimp only at hSw); go_simp⟩) (by assumption) ?_
  refine wpAnyH_take (i := 13) (v := .pointer (some ⟨b, 0, none⟩)) rfl (by kernel_rfl) (by kernel_rfl) (by kernel_rfl) (fun _ _ _ h => h) (Or.inl ⟨by rfl, by intro w' hSw; (try dsimp only at hSw); go_simp⟩) (by assumption) ?_
  refine wpAnyH_ready (rs := [2]) (by kernel_rfl) (by simp) ?_
  refine AllReadyH.cons rfl (fun K hK => ?_) AllReadyH.nil
  go_simp
  refine (rint_later (unhide R).rd (unhide E1) (Below.refl _ _)).mono ?_
  rintro e u1 ⟨rfl, r, t⟩
  have R1 := hide ((unhide R).call r (touch_new t))
  refine hK.out _ _ ?_ (fun hHeld => ?_)
  · (try dsimp only); exact (unhide R1).box
  clear hK K r t R
  refine wpAnyH_ready (rs := [5]) (by kernel_rfl) (by simp) ?_
  refine AllReadyH.cons rfl (fun K hK => ?_) AllReadyH.nil
  go_simp
  refine (rint_later (unhide R1).rd (unhide E2) (Below.refl _ _)).mono ?_
  rintro e u2 ⟨rfl, r, t⟩
  have R2 := hide ((unhide R1).call r (touch_new t))
  refine hK.out _ _ ?_ (fun hHeld => ?_)
  · (try dsimp only); exact (unhide R2).box
  clear hK K r t R1
  refine wpAnyH_ready (rs := [8]) (by kernel_rfl) (by simp) ?_
  refine AllReadyH.cons rfl (fun K hK => ?_) AllReadyH.nil
  go_simp
  refine (rint_later (unhide R2).rd (unhide E3) (Below.refl _ _)).mono ?_
  rintro e u3 ⟨rfl, r, t⟩
  have R3 := hide ((unhide R2).call r (touch_new t))
  refine hK.out _ _ ?_ (fun hHeld => ?_)
  · (try dsimp only); exact (unhide R3).box
  clear hK K r t R2
  refine wpAnyH_ready (rs := [11]) (by kernel_rfl) (by simp) ?_
  refine AllReadyH.cons rfl (fun K hK => ?_) AllReadyH.nil
  go_simp
  refine (rint_later (unhide R3).rd (unhide E4) (Below.refl _ _)).mono ?_
  rintro e u4 ⟨rfl, r, t⟩
  have R4 := hide ((unhide R3).call r (touch_new t))
  refine hK.out _ _ ?_ (fun hHeld => ?_)
  · (try dsimp only); exact (unhide R4).box
  clear hK K r t R3
  refine wpAnyH_ready (rs := [14]) (by kernel_rfl) (by simp) ?_
  refine AllReadyH.cons rfl (fun K hK => ?_) AllReadyH.nil
  go_simp
  refine (rint_later (unhide R4).rd (unhide E5) (Below.refl _ _)).mono ?_
  rintro e u5 ⟨rfl, r, t⟩
  have R5 := hide ((unhide R4).call r (touch_new t))
  refine hK.out _ _ ?_ (fun hHeld => ?_)
  · (try dsimp only); exact (unhide R5).box
  clear hK K r t R4
  refine wpAnyH_take (i := 15) (v := .agg #[.int .i64 x1, .int .i64 x2, .int .i64 x3, .int .i64 x4, .int .i64 x5]) rfl (by kernel_rfl) (by kernel_rfl) (by kernel_rfl) (fun _ _ _ h => h) (Or.inl ⟨by rfl, by intro w' hSw; (try dsimp only at hSw); go_simp⟩) (by assumption) ?_
  refine wpAnyH_ready (rs := [16]) (by kernel_rfl) (by simp) ?_
  refine AllReadyH.cons rfl (fun K hK => ?_) AllReadyH.nil
  refine wp_store_mid 28 (.tmp 2) (.tmp 18) rfl (w.heap.size + 1) 0 #[.int .i64 x1, .int .i64 x2, .int .i64 x3, .int .i64 x4, .int .i64 x5] rfl rfl (there_of (unhide R5).rs (Nat.le_refl _)) (by kernel_rfl) (by simp [Value.oneCell']) ?_
  have RZ := hide ((unhide R5).lay [.int .i64 x1, .int .i64 x2, .int .i64 x3, .int .i64 x4, .int .i64 x5] rfl)
  refine hK.out _ _ ?_ (fun hHeld => ?_)
  · (try dsimp only); exact (unhide RZ).box
  clear hK K R5
  change wpAnyH _ _ _ _ _ _ _ _ (u5.setCells (w.heap.size + 1) 0 [.int .i64 x1, .int .i64 x2, .int .i64 x3, .int .i64 x4, .int .i64 x5])
  generalize u5.setCells (w.heap.size + 1) 0 [.int .i64 x1, .int .i64 x2, .int .i64 x3, .int .i64 x4, .int .i64 x5] = V at *
  refine wpAnyH_done (by kernel_rfl) ?_ _
  have I1 : I64 x1 := by have := zag_fits (rU_fits (t := t) (s := s0) (unhide HTB)); have e := unhide E1; unfold rI at e; cases e; exact this
  have I2 : I64 x2 := by have := zag_fits (rU_fits (t := t) (s := s1) (unhide HTB)); have e := unhide E2; unfold rI at e; cases e; exact this
  have I3 : I64 x3 := by have := zag_fits (rU_fits (t := t) (s := s2) (unhide HTB)); have e := unhide E3; unfold rI at e; cases e; exact this
  have I4 : I64 x4 := by have := zag_fits (rU_fits (t := t) (s := s3) (unhide HTB)); have e := unhide E4; unfold rI at e; cases e; exact this
  have I5 : I64 x5 := by have := zag_fits (rU_fits (t := t) (s := s4) (unhide HTB)); have e := unhide E5; unfold rI at e; cases e; exact this
  have FF : Hid (RP w b a cap t 0 s5 (fun v W => v = .agg #[.int .i64 x1, .int .i64 x2, .int .i64 x3, .int .i64 x4, .int .i64 x5] ∧ I64 x1 ∧ I64 x2 ∧ I64 x3 ∧ I64 x4 ∧ I64 x5) (.returned (.agg #[.int .i64 x1, .int .i64 x2, .int .i64 x3, .int .i64 x4, .int .i64 x5])) V) := hide ⟨(unhide RZ).tc, fun _ => ⟨_, rfl, (unhide RZ).rd, rfl, I1, I2, I3, I4, I5⟩, fun h => absurd rfl h⟩
  clear I1 I2 I3 I4 I5
  go_wp2
  refine bodyPost_ret (res_fetch_x (unhide RZ).rs (by kernel_rfl) rfl) rfl ?_
  exact unhide FF
end
end Go.Proofs.Ytblmondkdcpkaaa
