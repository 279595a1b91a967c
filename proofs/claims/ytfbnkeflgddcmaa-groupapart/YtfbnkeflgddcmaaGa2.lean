/-
  What a group's State knows of any groups, of which nothing waits. Conditions: numbers are ints.
-/
import Derived.Test.YtfbnkeflgddcmaaGa1
namespace Go.Proofs.Ytfbnkeflgddcmaa
open Go.RowKit Go.Maps
set_option linter.unusedVariables false

/-- A team in plain words. -/
structure Ga where
  gen : Int
  l : List Int
  o0 : Int
  o1 : Int
  o2 : Int
  o3 : Int
def ga0 : Ga := ⟨0, [], 0, 0, 0, 0⟩
/-- What a record changes of its group. -/
def gaPut (r : Rx) (x : Ga) : Ga :=
  if r.kd = 2 then ⟨x.gen, x.l, if r.pt = 0 then max x.o0 r.off else x.o0, if r.pt = 1 then max x.o1 r.off else x.o1, if r.pt = 2 then max x.o2 r.off else x.o2, if r.pt = 3 then max x.o3 r.off else x.o3⟩
  else if r.gen > x.gen then ⟨r.gen, r.l, x.o0, x.o1, x.o2, x.o3⟩ else x
def gaAll (r : Rx) (A : Int → Ga) (q : Int) : Ga := if q = r.gr then gaPut r (A r.gr) else A q
abbrev adr (g : Option Nat) : Option Addr := Option.map (fun g => (⟨g, 0, none⟩ : Addr)) g
/-- The team as it lies. -/
structure TmA (w : World) (T : Tm) (x : Ga) : Prop where
  gen : T.gen = x.gen
  n : T.n = x.l.length
  l : IAt w (adr T.g) x.l
  o0 : T.o0 = x.o0
  o1 : T.o1 = x.o1
  o2 : T.o2 = x.o2
  o3 : T.o3 = x.o3
  few : x.l.length ≤ 8
/-- Blocks that hold no row of ints: their first cell is none. -/
def Odd (w : World) (k : Nat) : Prop := ∀ n, w.cell? ⟨k, 0, none⟩ ≠ some (.int .i64 n)
theorem IAt.odd {w w' : World} {S : Nat → Prop} {a : Option Nat} {l : List Int} (h : IAt w (adr a) l) (t : Touch S w w') (hs : ∀ k, S k → Odd w k) : IAt w' (adr a) l := by
  refine h.keep t (fun h0 x hx hS => ?_)
  obtain ⟨b, off, h1, _, h3⟩ := h 0 h0
  rw [h1] at hx
  cases hx
  have he : off = 0 := by
    cases a with
    | none => cases h1
    | some g => cases h1; rfl
  subst he
  exact hs _ hS _ h3
theorem TmA.keep {w w' : World} {S : Nat → Prop} {T : Tm} {x : Ga} (h : TmA w T x) (t : Touch S w w') (hs : ∀ k, S k → Odd w k) : TmA w' T x := ⟨h.gen, h.n, h.l.odd t hs, h.o0, h.o1, h.o2, h.o3, h.few⟩
theorem odd_new {w : World} {k : Nat} (h : w.heap.size ≤ k) : Odd w k := fun n e => by
  have := lt_of_cell e
  simp at this
  omega
theorem odd_map {w : World} {k : Nat} {es : Array MapEntry} {ck : Nat} (h : w.heap[k]? = some (.map es ck)) : Odd w k := fun n e => by
  simp [World.cell?, h] at e
theorem odd_obj {w : World} {k : Nat} {mo : Option Nat} {v : Value} {t : TypeId} (h : w.heap[k]? = some (.cells #[.map mo, v] t)) : Odd w k := fun n e => by
  have := cell_of h 0
  rw [this] at e
  simp at e
structure GP (B : Nat) (w : World) (sb : Nat) (mo : Option Nat) (m : List (Int × Tm)) (c : Nat) (A : Int → Ga) : Prop where
  obj : w.heap[sb]? = some (.cells #[.map mo, .map none] 52)
  g : (mo = none ∧ m = []) ∨ ∃ b, mo = some b ∧ MM gK w b m ∧ B ≤ b
  team : ∀ q, TmA w (mgot gK (matx m q)) (A q)
  few : m.length ≤ c
  hb : B ≤ sb
theorem GP.map1 {B : Nat} {w : World} {sb b : Nat} {m : List (Int × Tm)} {c : Nat} {A : Int → Ga} (h : GP B w sb (some b) m c A) : MM gK w b m ∧ B ≤ b := by
  rcases h.g with ⟨e1, _⟩ | ⟨b', e1, h1, h2⟩
  · cases e1
  · cases e1; exact ⟨h1, h2⟩
theorem GP.keep {B : Nat} {S : Nat → Prop} {w w' : World} {sb : Nat} {mo : Option Nat} {m : List (Int × Tm)} {c : Nat} {A : Int → Ga} (h : GP B w sb mo m c A) (t : Touch S w w') (hs : ¬ S sb) (hm : ∀ b, mo = some b → ¬ S b) (ho : ∀ k, S k → Odd w k) : GP B w' sb mo m c A :=
  ⟨t.keep h.obj hs, h.g.imp id (fun ⟨b, e, m, hb⟩ => ⟨b, e, m.keep t (hm b e), hb⟩), fun q => (h.team q).keep t ho, h.few, h.hb⟩
theorem GP.later {B : Nat} {w w' : World} {sb : Nat} {mo : Option Nat} {m : List (Int × Tm)} {c : Nat} {A : Int → Ga} (h : GP B w sb mo m c A) (hb : Below w.heap.size w w') : GP B w' sb mo m c A := h.keep (Touch.of_below (S := fun _ => False) hb) (fun h => h) (fun _ _ h => h) (fun _ h => h.elim)
theorem GP.none {B : Nat} {w : World} {sb : Nat} {m : List (Int × Tm)} {c : Nat} {A : Int → Ga} (h : GP B w sb none m c A) : m = [] := by
  rcases h.g with ⟨_, e⟩ | ⟨b, e, _⟩
  · exact e
  · cases e
/-- The blocks that a change of a state may write. -/
def TP (sb : Nat) (mo : Option Nat) (w : World) (k : Nat) : Prop := k = sb ∨ mo = some k ∨ w.heap.size ≤ k
theorem GP.odd {B : Nat} {w : World} {sb : Nat} {mo : Option Nat} {m : List (Int × Tm)} {c : Nat} {A : Int → Ga} (h : GP B w sb mo m c A) : ∀ k, TP sb mo w k → Odd w k := by
  rintro k (e | e | e)
  · subst e; exact odd_obj h.obj
  · subst e
    obtain ⟨es, ck, h1⟩ := h.map1.1.block
    exact odd_map h1
  · exact odd_new e
theorem TP.low {B sb : Nat} {w : World} {mo : Option Nat} {m : List (Int × Tm)} {c : Nat} {A : Int → Ga} (h : GP B w sb mo m c A) (hB : B ≤ w.heap.size) : ∀ k, TP sb mo w k → B ≤ k := by
  rintro k (e | e | e)
  · subst e; exact h.hb
  · subst e; exact h.map1.2
  · omega
theorem gp_new {B : Nat} {w : World} {sb : Nat} (h : w.heap[sb]? = some (.cells #[.map none, .map none] 52)) (hb : B ≤ sb) : GP B w sb none [] 0 (fun _ => ga0) :=
  ⟨h, .inl ⟨rfl, rfl⟩, fun q => ⟨rfl, rfl, iat_nil rfl, rfl, rfl, rfl, rfl, by simp [ga0]⟩, Nat.le_refl _, hb⟩
theorem key_wf {k : Int} (h : 0 ≤ k ∧ k < 8) : (Lit.int .i64 k).wf = true := by
  have h1 : k = 0 ∨ k = 1 ∨ k = 2 ∨ k = 3 ∨ k = 4 ∨ k = 5 ∨ k = 6 ∨ k = 7 := by omega
  rcases h1 with rfl | rfl | rfl | rfl | rfl | rfl | rfl | rfl <;> decide
theorem GP.look {B : Nat} {w : World} {sb : Nat} {mo : Option Nat} {m : List (Int × Tm)} {c : Nat} {A : Int → Ga} (h : GP B w sb mo m c A) {q : Int} (hq : 0 ≤ q ∧ q < 8) : (Instr.lookup 49 (.map mo) (.int .i64 q) false).run Try.prog w = .ok (tmV (mgot gK (matx m q))) w := by
  rcases h.g with ⟨rfl, e2⟩ | ⟨b, rfl, m, _⟩
  · rw [e2]
    exact mlook1_nil gK (s := q) (key_wf hq) w
  · exact m.look1 (M := gK) (s := q) (key_wf hq)
/-- A team written over. -/
theorem team_put {w : World} {m : List (Int × Tm)} {A : Int → Ga} {q0 : Int} {T : Tm} {x : Ga} (h : ∀ q, TmA w (mgot gK (matx m q)) (A q)) (ht : TmA w T x) : ∀ q, TmA w (mgot gK (matx ((q0, T) :: mdel m q0) q)) (if q = q0 then x else A q) := by
  intro q
  rw [mat_cons]
  by_cases e : q = q0
  · rw [if_pos e, if_pos e]; exact ht
  · rw [if_neg e, if_neg e]; exact h q
theorem few_put {m : List (Int × Tm)} {c : Nat} (q : Int) (T : Tm) (h : m.length ≤ c) : ((q, T) :: mdel m q).length ≤ c + 1 := by
  have : (mdel m q).length ≤ m.length := List.length_filter_le _ _
  simp only [List.length_cons]
  omega
/-- What hold leaves. -/
def HdQ (B : Nat) (w : World) (sb : Nat) (mo : Option Nat) (c : Nat) (A : Int → Ga) (r : Rx) (e : Ending) (w' : World) : Prop :=
  e = .returned (.tuple #[]) ∧ ∃ b m', GP B w' sb (some b) m' (c + 1) (gaAll r A) ∧ (mo = some b ∨ w.heap.size ≤ b) ∧ Touch (TP sb mo w) w w'
theorem hd_end {B : Nat} {w w7 w8 : World} {sb mb : Nat} {mo : Option Nat} {m : List (Int × Tm)} {c : Nat} {A : Int → Ga} {r : Rx} {T : Tm} (h7 : GP B w7 sb (some mb) m c A) (hmb : mo = some mb ∨ w.heap.size ≤ mb) (t7 : Touch (TP sb mo w) w w7) (hm8 : MM gK w8 mb ((r.gr, T) :: mdel m r.gr)) (ht8 : Touch (· = mb) w7 w8) (nsb : sb ≠ mb) (hT : TmA w7 T (gaPut r (A r.gr))) : HdQ B w sb mo c A r (.returned (.tuple #[])) w8 := by
  have ho : ∀ k, k = mb → Odd w7 k := fun k e => h7.odd k (.inr (.inl (by rw [e])))
  exact ⟨rfl, mb, _, ⟨ht8.keep h7.obj nsb, .inr ⟨mb, rfl, hm8, h7.map1.2⟩, team_put (fun q => (h7.team q).keep ht8 ho) (hT.keep ht8 ho), few_put _ _ h7.few, h7.hb⟩, hmb, t7.trans (ht8.mono (fun k hk => by
    subst hk
    rcases hmb with e | e
    · exact .inr (.inl e)
    · exact .inr (.inr e)))⟩
end Go.Proofs.Ytfbnkeflgddcmaa
