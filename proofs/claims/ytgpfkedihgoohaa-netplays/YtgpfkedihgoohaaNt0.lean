/-
  A net's packets and its cuts, as they lie in memory. Plain lemmas over the library's laws on maps and rows. Conditions: numbers within 64 bits.
-/
import Derived.Test.YtgpfkedihgoohaaWd8
import Derived.Maps.OwnSet
import Derived.WideKeyPair
namespace Go.Proofs.Ytgpfkedihgoohaa
open Go.RowKit Go.Maps
set_option linter.unusedVariables false

theorem wrap_low {i : Int} (h0 : 0 ≤ i) (h1 : i ≤ 9223372036854775807) : IntKind.i64.wrap i = i := by
  simp [IntKind.wrap, IntKind.bits, IntKind.signed]
  omega
def InR (i : Int) : Prop := -9223372036854775808 ≤ i ∧ i ≤ 9223372036854775807
theorem InR.wf {i : Int} (h : InR i) : (Lit.int .i64 i).wf = true := by
  obtain ⟨h1, h2⟩ := h
  simp [Lit.wf, IntKind.min, IntKind.max, IntKind.signed, IntKind.bits]; omega
theorem InR.min {a b : Int} (ha : InR a) (hb : InR b) : InR (min a b) := by unfold InR at *; omega
theorem InR.max {a b : Int} (ha : InR a) (hb : InR b) : InR (max a b) := by unfold InR at *; omega

/-- The pairs that are cut: whether nothing goes between two. -/
abbrev Cts := List (Int × Int)
def isC (D : Cts) (a b : Int) : Bool := D.any (fun x => decide (x = (a, b)) || decide (x = (b, a)))
theorem isC_swap (D : Cts) (a b : Int) : isC D a b = isC D b a := by
  unfold isC
  congr 1
  funext x
  exact Bool.or_comm _ _
theorem isC_sort (D : Cts) (a b : Int) : isC D (min a b) (max a b) = isC D a b := by
  by_cases h : a ≤ b
  · rw [Int.min_eq_left h, Int.max_eq_right h]
  · rw [Int.min_eq_right (by omega), Int.max_eq_left (by omega)]; exact isC_swap D b a
theorem isC_snoc (D : Cts) (a b x y : Int) (h : x ≤ y) : isC (D ++ [(a, b)]) x y = (decide (x = min a b ∧ y = max a b) || isC D x y) := by
  have e : (decide ((a, b) = (x, y)) || decide ((a, b) = (y, x))) = decide (x = min a b ∧ y = max a b) := by
    rw [← Bool.decide_or]
    refine decide_eq_decide.2 ?_
    simp only [Prod.mk.injEq]
    omega
  unfold isC
  rw [List.any_append, List.any_cons, List.any_nil, Bool.or_false, e, Bool.or_comm]

/-- A pair as a key. -/
abbrev pairV (a b : Int) : Value := .agg #[.int .i64 a, .int .i64 b]
def pairL (a b : Int) : Lit := .string (keyBytes [.int .i64 a, .int .i64 b])
set_option maxRecDepth 100000 in
theorem pair_arr : WideMaps.ArrKey Try.prog 65 3 2 := ⟨Try.underlying65, by kernel_rfl, by kernel_rfl, by kernel_rfl⟩
theorem types_some : ∃ m, Try.prog.types.size = m + 1 := ⟨Try.prog.types.size - 1, by
  have h : decide (0 < Try.prog.types.size) = true := by kernel_rfl
  have := of_decide_eq_true h
  omega⟩
theorem pair_key {a b : Int} (ha : InR a) (hb : InR b) : keyOf Try.prog 65 (pairV a b) = some (pairL a b) := WideMaps.keyOf_pair pair_arr Try.underlying3 types_some ha.wf hb.wf
theorem pair_keyed : Keyed Try.prog 65 := Keyed.of_law pair_arr.law
theorem pair_inj {a b x y : Int} (ha : InR a) (hb : InR b) (hx : InR x) (hy : InR y) (h : pairL a b = pairL x y) : a = x ∧ b = y := by
  have h1 := pair_key ha hb
  rw [h] at h1
  have := pair_keyed.inj h1 (pair_key hx hy)
  simpa using this
theorem pair_lit (a b : Int) : WideAt.IsKeyLit (pairL a b) := trivial
theorem zero_unit (w : World) : (zeroValue 64).run Try.prog w = .ok (.agg #[]) w := by kernel_rfl

/-- Block m is a map that has just the pairs that are cut. -/
def CM (w : World) (m : Nat) (D : Cts) : Prop := ∃ n X, w.ownsMap Try.prog 65 (unitElem (H := Unit)) m n X ∧ n ≤ D.length ∧ ∀ a b, InR a → InR b → a ≤ b → has X (pairL a b) = isC D a b
def CutsAt (w : World) (cm : Option Nat) (D : Cts) : Prop := match cm with | none => D = [] | some m => CM w m D
section
variable {w w' : World} {m : Nat} {D : Cts} {S : Nat → Prop}
theorem CM.block (h : CM w m D) : ∃ es clock, w.heap[m]? = some (.map es clock) := by
  obtain ⟨n, X, ⟨es, clock, hb, _⟩, _⟩ := h; exact ⟨es, clock, hb⟩
theorem CM.keep (h : CM w m D) (t : Touch S w w') (hs : ¬ S m) : CM w' m D := by
  obtain ⟨n, X, ⟨es, clock, hb, r⟩, h2⟩ := h
  exact ⟨n, X, ⟨es, clock, t.keep hb hs, r⟩, h2⟩
theorem CutsAt.keep {cm : Option Nat} (h : CutsAt w cm D) (t : Touch S w w') (hs : ∀ m, cm = some m → ¬ S m) : CutsAt w' cm D := by
  cases cm with
  | none => exact h
  | some m => exact CM.keep h t (hs m rfl)
theorem CutsAt.lt {cm : Option Nat} (h : CutsAt w cm D) : ∀ m, cm = some m → m < w.heap.size := fun m hm => by
  subst hm
  obtain ⟨es, clock, hb⟩ := CM.block h
  exact lt_of_heap hb
theorem turned11 {b : Nat} (h : w.mapTurned w' b) : Touch (· = b) w w' := by
  obtain ⟨es, clock, es', clock', hb, rfl⟩ := h
  exact ⟨rfl, rfl, rfl, by simp [ChangeMaps.setBlock], fun i _ hi => ChangeMaps.heap_setBlock_other hb _ hi⟩
theorem CM.made (w : World) : CM (w.alloc (.map #[] 0)) w.heap.size [] := ⟨0, _, World.ownsMap_made w Try.prog 65 _, Nat.le_refl _, fun a b _ _ _ => rfl⟩
/-- Asked for. -/
theorem CutsAt.look {cm : Option Nat} (h : CutsAt w cm D) {a b : Int} (ha : InR a) (hb : InR b) (hab : a ≤ b) : (Instr.lookup 54 (.map cm) (pairV a b) true).run Try.prog w = .ok (.tuple #[.agg #[], .bool (isC D a b)]) w := by
  cases cm with
  | none =>
    obtain rfl : D = [] := h
    exact Maps.look_nil true pair_keyed Try.underlying54 (zero_unit w) (pair_key ha hb)
  | some m =>
    obtain ⟨n, X, h1, h2, h3⟩ := h
    obtain ⟨v, ps, hrun, hv⟩ := h1.look_ok pair_keyed Try.underlying54 (zero_unit w) unitElem_mk (pair_key ha hb)
    obtain ⟨rfl, _⟩ := unitElem_inv hv
    rw [hrun, h3 a b ha hb hab]
/-- Cut. -/
theorem CM.store (h : CM w m D) (hn : D.length < maxLen) {a b : Int} (ha : InR a) (hb : InR b) : ∃ w', (Instr.mapUpdate 54 (.map (some m)) (pairV (min a b) (max a b)) (.agg #[])).run Try.prog w = .ok () w' ∧ CM w' m (D ++ [(a, b)]) ∧ Touch (· = m) w w' := by
  obtain ⟨n, X, h1, h2, h3⟩ := h
  obtain ⟨w', hrun, o, t⟩ := h1.store pair_keyed Try.underlying54 (by omega) (pair_key (ha.min hb) (ha.max hb)) unitElem_mk
  refine ⟨w', hrun, ⟨n + 1, _, o, by simp; omega, fun x y hx hy hxy => ?_⟩, turned11 t⟩
  rw [isC_snoc D a b x y hxy]
  by_cases e : x = min a b ∧ y = max a b
  · obtain ⟨rfl, rfl⟩ := e
    rw [has_put_same h1.isMap (pair_lit _ _)]
    simp
  · rw [has_put_other (fun e' => e (pair_inj hx hy (ha.min hb) (ha.max hb) e')), h3 x y hx hy hxy, decide_eq_false e, Bool.false_or]
/-- Healed. -/
theorem CM.clear (h : CM w m D) : ∃ w', (∀ ty, (Builtin.clear_ #[54] ty #[.map (some m)]).run Try.prog w = .ok (.tuple #[]) w') ∧ CM w' m [] ∧ Touch (· = m) w w' := by
  obtain ⟨n, X, ⟨es, clock, hb, F, _⟩, _⟩ := h
  refine ⟨ChangeMaps.setBlock w m (.map #[] clock), fun ty => ?_, ⟨0, .map [], ⟨#[], clock, ChangeMaps.heap_setBlock_same hb _, ⟨by simp, MapKept.stamped_empty clock, by simp⟩, Nat.le_refl _, rfl⟩, Nat.le_refl _, fun a b _ _ _ => rfl⟩, ?_⟩
  · have h1 := MapKept.run_getObj_map (P := Try.prog) hb
    have h2 := MapKept.run_setObj_map (P := Try.prog) (.map #[] clock) hb
    simp [Builtin.clear_, run_underlying (P := Try.prog) Try.underlying54, h1, h2, Result.andThen]
    rfl
  · exact ⟨rfl, rfl, rfl, by simp [ChangeMaps.setBlock], fun i _ hi => ChangeMaps.heap_setBlock_other hb _ hi⟩
end

/-- A packet, as it lies; as it reads. -/
structure Pk where
  fr : Int
  to : Int
  a : Option Addr
  c : Nat
  l : List Nat
structure Pa where
  fr : Int
  to : Int
  l : List Nat
abbrev Pk.abs (p : Pk) : Pa := ⟨p.fr, p.to, p.l⟩
abbrev pkS (p : Pk) : Value := .slice p.a p.l.length p.c
abbrev pkV (p : Pk) : Value := .agg #[.int .i64 p.fr, .int .i64 p.to, pkS p]
def pkC (p : Pk) : List Value := [.int .i64 p.fr, .int .i64 p.to, pkS p]
theorem pkC_len (p : Pk) : (pkC p).length = 3 := rfl
theorem pkC_one (p : Pk) : ∀ u ∈ pkC p, u.oneCell' = true := by
  intro u hu
  simp only [pkC, List.mem_cons, List.not_mem_nil, or_false] at hu
  rcases hu with rfl | rfl | rfl <;> rfl
def pk0 : Pk := ⟨0, 0, none, 0, []⟩
structure PaIn (q : Pa) : Prop where
  fr : InR q.fr
  to : InR q.to
  l : q.l.length ≤ 140737488355328
/-- A packet that is handed in. -/
structure PIn (w : World) (p : Pk) : Prop where
  at_ : LAt w p.a p.l
  none : p.a = none → p.c = 0
  in_ : PaIn p.abs
theorem PIn.keep {w w' : World} {p : Pk} {S : Nat → Prop} (h : PIn w p) (t : Touch S w w') (hs : 0 < p.l.length → ∀ x, p.a = some x → ¬ S x.block) : PIn w' p := ⟨h.at_.keep t hs, h.none, h.in_⟩
theorem PIn.later {w w' : World} {p : Pk} (h : PIn w p) (hb : Below w.heap.size w w') : PIn w' p := ⟨h.at_.later hb, h.none, h.in_⟩
/-- A packet that the call has made. -/
structure PRow (w : World) (p : Pk) : Prop where
  row : Row w (pkS p) p.l
  in_ : PaIn p.abs
theorem PRow.pin {w : World} {p : Pk} (h : PRow w p) : PIn w p := by
  obtain ⟨a, cap, e, h1, _, _, h4, _⟩ := h.row.parts
  injection e with e1 _ e3
  subst e1 e3
  exact ⟨h1, h4, h.in_⟩
theorem PRow.keep {w w' : World} {p : Pk} {S : Nat → Prop} (h : PRow w p) (t : Touch S w w') (hs : ∀ k, (pkS p).ownBlock = some k → ¬ S k) : PRow w' p := ⟨h.row.keep t hs, h.in_⟩
theorem PRow.later {w w' : World} {p : Pk} (h : PRow w p) (hb : Below w.heap.size w w') : PRow w' p := ⟨h.row.later hb, h.in_⟩
theorem PRow.zero (w : World) : PRow w pk0 := ⟨Row.nil w, ⟨by unfold InR pk0; simp, by unfold InR pk0; simp, by simp [pk0]⟩⟩
theorem Row.heap {w : World} {v : Value} {l : List Nat} (h : Row w v l) {k : Nat} (hk : v.ownBlock = some k) : ∃ cs, w.heap[k]? = some (.cells cs 5) := by
  rcases h.own.2 with ⟨rfl, _⟩ | ⟨g, cap, cur, rfl, hb, hgg, rest⟩
  · simp [Value.ownBlock] at hk
  · have : g = k := by simpa [Value.ownBlock] using hk
    rw [this] at hgg; exact ⟨_, hgg⟩

/-- A list of packets that the call has made. -/
structure PL (w : World) (v : Value) (ps : List Pk) : Prop where
  row : Wide w 33 3 v ps.length (ps.flatMap pkC)
  each : ∀ p ∈ ps, PRow w p
/-- Its blocks. -/
def PLB (v : Value) (ps : List Pk) (k : Nat) : Prop := v.ownBlock = some k ∨ ∃ p ∈ ps, (pkS p).ownBlock = some k
section
variable {w w' : World} {v v' : Value} {ps : List Pk} {S : Nat → Prop}
theorem PL.nil (w : World) : PL w (.slice none 0 0) [] := ⟨Wide.nil _ _ _, fun p hp => by cases hp⟩
theorem PL.keep (h : PL w v ps) (t : Touch S w w') (hs : ∀ k, PLB v ps k → ¬ S k) : PL w' v ps :=
  ⟨h.row.keep t (fun k hk => hs k (.inl hk)), fun p hp => (h.each p hp).keep t (fun k hk => hs k (.inr ⟨p, hp, hk⟩))⟩
theorem PL.later (h : PL w v ps) (hb : Below w.heap.size w w') : PL w' v ps := h.keep (Touch.of_below (S := fun _ => False) hb) (fun _ _ h => h)
theorem PL.lt (h : PL w v ps) : ∀ k, PLB v ps k → k < w.heap.size := by
  rintro k (hk | ⟨p, hp, hk⟩)
  · exact h.row.lt k hk
  · exact (h.each p hp).row.lt k hk
/-- The list's own block is no packet's. -/
theorem PL.apart (h : PL w v ps) {k : Nat} (hk : v.ownBlock = some k) : ∀ p ∈ ps, (pkS p).ownBlock ≠ some k := fun p hp e => by
  obtain ⟨c1, h1⟩ := h.row.heap hk
  obtain ⟨c2, h2⟩ := (h.each p hp).row.heap e
  rw [h1] at h2
  exact absurd (Obj.cells.inj (Option.some.inj h2)).2.1 (by decide)
end
end Go.Proofs.Ytgpfkedihgoohaa
