/-
  Ranging over a disk's files, and Crash. Conditions: what the disk is.
-/
import Derived.Test.YtkcoeofbobkaoabGreatDoorFm
import Derived.Test.YtkcoeofbobkaoabGreatDoorWr
import Derived.BigQuiet
import Derived.Deep.RegionLaw
import Derived.Deep.RegionHeld3
import Derived.WalkSpells

/-
  What a disk is in memory: its block, its map, its files, each with its row of bytes; what stays while other blocks are written. Plain lemmas, no conditions.
-/
namespace Go.Proofs.YtkcoeofbobkaoabGreatDoor
open Go.RowKit
set_option linter.unusedVariables false

/-- New blocks don't count. -/
theorem touch_more {S R : Nat → Prop} {w w1 w2 : World} (t1 : Touch S w w1) (t2 : Touch R w1 w2) (h : ∀ k, R k → S k ∨ w.heap.size ≤ k) : Touch S w w2 :=
  ⟨t2.os.trans t1.os, t2.tape.trans t1.tape, t2.output.trans t1.output, Nat.le_trans t1.size t2.size, fun k hk hs => by
    rw [t2.block k (Nat.lt_of_lt_of_le hk t1.size) (fun hr => by rcases h k hr with e | e; exact hs e; omega), t1.block k hk hs]⟩

/-- A file: its name, its bytes, how many last. -/
structure Ft where
  nm : ByteArray
  text : List Nat
  last : Nat
/-- .. and where it lies. -/
structure Fl extends Ft where
  fb : Nat
  v : Value
def pr (f : Fl) : ByteArray × Nat := (f.nm, f.fb)
def usedF (l : List Ft) : Nat := (l.map (fun f => f.text.length)).sum
abbrev fts (fl : List Fl) : List Ft := fl.map Fl.toFt

structure FileAt (w : World) (f : Fl) : Prop where
  heap : w.heap[f.fb]? = some (.cells #[f.v, .int .i64 (f.last : Nat)] 77)
  row : Row w f.v f.text
  last : f.last ≤ f.text.length
  name : 0 < f.nm.size ∧ f.nm.size ≤ 24
def Apart (f g : Fl) : Prop := f.nm ≠ g.nm ∧ f.fb ≠ g.fb ∧ ∀ k, f.v.ownBlock = some k → g.v.ownBlock ≠ some k
theorem Apart.symm {f g : Fl} (h : Apart f g) : Apart g f := ⟨Ne.symm h.1, Ne.symm h.2.1, fun k h1 h2 => h.2.2 k h2 h1⟩

/-- The disk's own blocks. -/
def Owns (db : Nat) (mv : Value) (fl : List Fl) (k : Nat) : Prop := k = db ∨ mv = .map (some k) ∨ ∃ f ∈ fl, k = f.fb ∨ f.v.ownBlock = some k

/-- A disk whose count of bytes may lag behind. -/
structure DiskU (w : World) (db : Nat) (mv : Value) (fl : List Fl) (u : Int) (armed : Bool) (fuse : Int) (dead : Bool) : Prop where
  heap : w.heap[db]? = some (.cells #[mv, .int .i64 u, .bool armed, .int .i64 fuse, .bool dead] 58)
  map : (mv = .map none ∧ fl = []) ∨ ∃ mb, mv = .map (some mb) ∧ FM w mb (fl.map pr)
  each : ∀ f ∈ fl, FileAt w f
  apart : fl.Pairwise Apart
structure DiskAt (w : World) (db : Nat) (mv : Value) (fl : List Fl) (armed : Bool) (fuse : Int) (dead : Bool) : Prop extends DiskU w db mv fl (usedF (fts fl) : Nat) armed fuse dead where
  used : usedF (fts fl) ≤ 4194304
  few : fl.length ≤ 4096
  lo : -9223372036854775808 ≤ fuse
  hi : fuse ≤ 9223372036854775807
  arm : armed = true → 0 ≤ fuse

section
variable {w w' : World} {db : Nat} {mv : Value} {fl : List Fl} {armed dead : Bool} {fuse u : Int} {S : Nat → Prop}
theorem FileAt.keep {f : Fl} (h : FileAt w f) (t : Touch S w w') (h1 : ¬ S f.fb) (h2 : ∀ k, f.v.ownBlock = some k → ¬ S k) : FileAt w' f := ⟨t.keep h.heap h1, h.row.keep t h2, h.last, h.name⟩
theorem DiskU.keep (h : DiskU w db mv fl u armed fuse dead) (t : Touch S w w') (hs : ∀ k, Owns db mv fl k → ¬ S k) : DiskU w' db mv fl u armed fuse dead := by
  refine ⟨t.keep h.heap (hs _ (.inl rfl)), ?_, fun f hf => (h.each f hf).keep t (hs _ (.inr (.inr ⟨f, hf, .inl rfl⟩))) (fun k hk => hs k (.inr (.inr ⟨f, hf, .inr hk⟩))), h.apart⟩
  rcases h.map with ⟨e1, e2⟩ | ⟨mb, e, hm⟩
  · exact .inl ⟨e1, e2⟩
  · exact .inr ⟨mb, e, hm.keep t (hs mb (.inr (.inl e)))⟩
theorem DiskAt.keep (h : DiskAt w db mv fl armed fuse dead) (t : Touch S w w') (hs : ∀ k, Owns db mv fl k → ¬ S k) : DiskAt w' db mv fl armed fuse dead := ⟨h.toDiskU.keep t hs, h.used, h.few, h.lo, h.hi, h.arm⟩
theorem DiskU.lt (h : DiskU w db mv fl u armed fuse dead) : ∀ k, Owns db mv fl k → k < w.heap.size := by
  intro k hk
  rcases hk with rfl | e | ⟨f, hf, rfl | e⟩
  · exact lt_of_heap h.heap
  · rcases h.map with ⟨e1, _⟩ | ⟨mb, e1, hm⟩
    · rw [e] at e1; cases e1
    · rw [e] at e1; cases e1; exact hm.lt
  · exact lt_of_heap (h.each f hf).heap
  · exact (h.each f hf).row.lt k e
/-- A row's block is one of bytes. -/
theorem row_heap {v : Value} {l : List Nat} (r : Row w v l) {k : Nat} (hk : v.ownBlock = some k) : ∃ cs, w.heap[k]? = some (.cells cs 5) := by
  rcases r.own.2 with ⟨rfl, _⟩ | ⟨g, cap, cur, rfl, _, hgg, _⟩
  · simp [Value.ownBlock] at hk
  · have e : g = k := by simpa [Value.ownBlock] using hk
    rw [e] at hgg; exact ⟨_, hgg⟩
theorem DiskU.names (h : DiskU w db mv fl u armed fuse dead) : (fl.map pr).Pairwise (fun p q => p.1 ≠ q.1) := by
  rw [List.pairwise_map]; exact h.apart.imp (fun h => h.1)

/-- The file of a name. -/
def fileOf (fl : List Fl) (s : ByteArray) : Option Fl := fl.find? (fun f => decide (f.nm = s))
theorem fileOf_some {s : ByteArray} {f : Fl} (h : fileOf fl s = some f) : f ∈ fl ∧ f.nm = s := ⟨List.mem_of_find?_eq_some h, by have := List.find?_some h; simpa using this⟩
theorem at_fileOf (fl : List Fl) (s : ByteArray) : at_ (fl.map pr) s = (fileOf fl s).map (·.fb) := by
  unfold at_ fileOf
  rw [List.find?_map, Option.map_map]
  rfl
/-- The abstract one. -/
def ftOf (l : List Ft) (s : ByteArray) : Option Ft := l.find? (fun f => decide (f.nm = s))
theorem ft_fileOf (fl : List Fl) (s : ByteArray) : ftOf (fts fl) s = (fileOf fl s).map Fl.toFt := by
  unfold ftOf fileOf fts
  rw [List.find?_map]
  rfl

theorem DiskU.look (h : DiskU w db mv fl u armed fuse dead) {s : ByteArray} (hs : s.size ≤ maxLen) : (Instr.lookup 56 mv (.string s) true).run Tryz.prog w = .ok (.tuple #[ptrV ((fileOf fl s).map (·.fb)), .bool (fileOf fl s).isSome]) w := by
  rcases h.map with ⟨rfl, rfl⟩ | ⟨mb, rfl, hm⟩
  · exact look_nil hs w
  · rw [hm.look hs, at_fileOf, Option.isSome_map]
theorem DiskU.len (h : DiskU w db mv fl u armed fuse dead) (ty : TypeId) : (Builtin.len_ #[56] ty #[mv]).run Tryz.prog w = .ok (.int .i64 (fl.length : Nat)) w := by
  rcases h.map with ⟨rfl, rfl⟩ | ⟨mb, rfl, hm⟩
  · exact Maps.len_nil Tryz.underlying56 ty
  · rw [hm.len ty, List.length_map]
theorem DiskU.cell (h : DiskU w db mv fl u armed fuse dead) (i : Nat) : w.cell? ⟨db, i, none⟩ = #[mv, .int .i64 u, .bool armed, .int .i64 fuse, .bool dead][i]? := cell_of h.heap i
theorem DiskU.frozen (h : DiskU w db mv fl u armed fuse dead) (i : Nat) : w.frozen? ⟨db, i, none⟩ = false := frozen_of h.heap i
end

def okName (s : ByteArray) : Bool := decide (0 < s.size ∧ s.size ≤ 24)

section
variable {w : World} {db : Nat} {mv : Value} {fl : List Fl} {armed dead : Bool} {fuse : Int} {s : ByteArray}
theorem working_any (h : DiskAt w db mv fl armed fuse dead) :
    Calls Tryz.prog 38 #[.pointer (some ⟨db, 0, none⟩)] w fun e w' => e = .returned (.int .i64 (if dead then 9 else 0)) ∧ w' = w := by
  have c4 : w.cell? ⟨db, 4, none⟩ = some (.bool dead) := h.cell 4
  clear h
  cases dead
  · go_enter Tryz.func38, Tryz.ntmps38
    go_wp2
    go_returns
    exact ⟨rfl, rfl⟩
  · go_enter Tryz.func38, Tryz.ntmps38
    go_wp2
    go_returns
    exact ⟨rfl, rfl⟩
theorem working_nil (w : World) :
    Calls Tryz.prog 38 #[.pointer none] w fun e w' => e = .returned (.int .i64 5) ∧ w' = w := by
  go_enter Tryz.func38, Tryz.ntmps38
  go_wp2
  go_returns
  exact ⟨rfl, rfl⟩
theorem isname_any (s : ByteArray) (w : World) (hs : s.size ≤ maxLen) :
    Calls Tryz.prog 67 #[.string s] w fun e w' => e = .returned (.bool (okName s)) ∧ w' = w := by
  unfold maxLen at hs
  by_cases h1 : 0 < s.size
  · by_cases h2 : s.size ≤ 24
    · have e : okName s = true := decide_eq_true ⟨h1, h2⟩
      have h1' : (0 : Int) < (s.size : Int) := by omega
      have h2' : (s.size : Int) ≤ 24 := by omega
      go_enter Tryz.func67, Tryz.ntmps67
      go_wp2
      go_returns
      exact ⟨by first | rfl | (rw [e]; rfl), rfl⟩
    · have e : okName s = false := decide_eq_false (by omega)
      have h1' : (0 : Int) < (s.size : Int) := by omega
      have h2' : ¬ (s.size : Int) ≤ 24 := by omega
      go_enter Tryz.func67, Tryz.ntmps67
      go_wp2
      go_returns
      exact ⟨by first | rfl | (rw [e]; rfl), rfl⟩
  · have e : okName s = false := decide_eq_false (by omega)
    have h1' : ¬ (0 : Int) < (s.size : Int) := by omega
    go_enter Tryz.func67, Tryz.ntmps67
    go_wp2
    go_returns
    exact ⟨by first | rfl | (rw [e]; rfl), rfl⟩

/-- What find answers. -/
def findG (dead : Bool) (fl : List Fl) (s : ByteArray) : Option Nat := if dead then none else if okName s then (fileOf fl s).map (·.fb) else none
def findE (dead : Bool) (l : List Ft) (s : ByteArray) : Nat := if dead then 9 else if okName s then (if (ftOf l s).isSome then 0 else 4) else 1

set_option maxRecDepth 100000 in
theorem find_any (h : DiskAt w db mv fl armed fuse dead) (hs : s.size ≤ maxLen) :
    Calls Tryz.prog 35 #[.pointer (some ⟨db, 0, none⟩), .string s] w fun e w' => e = .returned (.tuple #[ptrV (findG dead fl s), .int .i64 (findE dead (fts fl) s : Nat)]) ∧ w' = w := by
  have WK := hide (working_any h)
  have NM := hide (isname_any s w hs)
  have c0 : w.cell? ⟨db, 0, none⟩ = some mv := h.cell 0
  have hl := h.look hs
  have EI : Hid ((ftOf (fts fl) s).isSome = (fileOf fl s).isSome) := by show _ = _; rw [ft_fileOf, Option.isSome_map]
  unfold findG findE
  rw [unhide EI]
  clear h hs
  cases dead
  · cases hn : okName s
    · rw [hn] at NM
      go_enter Tryz.func35, Tryz.ntmps35
      go_wp2_with fail
      refine (unhide WK).mono ?_
      rintro e w1 ⟨rfl, rfl⟩
      go_wp2_with fail
      refine (unhide NM).mono ?_
      rintro e w1 ⟨rfl, rfl⟩
      go_wp2
      go_returns
      exact ⟨rfl, rfl⟩
    · rw [hn] at NM
      cases hf : fileOf fl s with
      | none =>
        rw [hf] at hl
        have hl' : ∀ x, x = mv → (Instr.lookup 56 x (.string s) true).run Tryz.prog w = .ok (.tuple #[.pointer none, .bool false]) w := fun x e => by rw [e]; exact hl
        have hl2 := hl' mv rfl
        clear hl hl'
        go_enter Tryz.func35, Tryz.ntmps35
        go_wp2_with fail
        refine (unhide WK).mono ?_
        rintro e w1 ⟨rfl, rfl⟩
        go_wp2_with fail
        refine (unhide NM).mono ?_
        rintro e w1 ⟨rfl, rfl⟩
        go_wp2
        go_returns
        exact ⟨rfl, rfl⟩
      | some f =>
        rw [hf] at hl
        have hl2 : (Instr.lookup 56 mv (.string s) true).run Tryz.prog w = .ok (.tuple #[.pointer (some ⟨f.fb, 0, none⟩), .bool true]) w := hl
        clear hl
        go_enter Tryz.func35, Tryz.ntmps35
        go_wp2_with fail
        refine (unhide WK).mono ?_
        rintro e w1 ⟨rfl, rfl⟩
        go_wp2_with fail
        refine (unhide NM).mono ?_
        rintro e w1 ⟨rfl, rfl⟩
        go_wp2
        go_returns
        exact ⟨rfl, rfl⟩
  · go_enter Tryz.func35, Tryz.ntmps35
    go_wp2_with fail
    refine (unhide WK).mono ?_
    rintro e w1 ⟨rfl, rfl⟩
    go_wp2
    go_returns
    exact ⟨rfl, rfl⟩
theorem find_nil (s : ByteArray) (w : World) :
    Calls Tryz.prog 35 #[.pointer none, .string s] w fun e w' => e = .returned (.tuple #[.pointer none, .int .i64 5]) ∧ w' = w := by
  go_enter Tryz.func35, Tryz.ntmps35
  go_wp2_with fail
  refine (working_nil w).mono ?_
  rintro e w1 ⟨rfl, rfl⟩
  go_wp2
  go_returns
  exact ⟨rfl, rfl⟩
end
end Go.Proofs.YtkcoeofbobkaoabGreatDoor


/-
  What a disk becomes: one file is another, one is there more, one is gone; and the inner calls burn, add, drop, keep and crash. Conditions: what the disk is.
-/
namespace Go.Proofs.YtkcoeofbobkaoabGreatDoor
open Go.RowKit
set_option linter.unusedVariables false

/-- One file in the place of that of its name. -/
def swap (fl : List Fl) (f : Fl) : List Fl := fl.map (fun g => if g.nm = f.nm then f else g)
def swapF (l : List Ft) (f : Ft) : List Ft := l.map (fun g => if g.nm = f.nm then f else g)
theorem fts_swap (fl : List Fl) (f : Fl) : fts (swap fl f) = swapF (fts fl) f.toFt := by
  unfold swap swapF fts
  rw [List.map_map, List.map_map]
  apply List.map_congr_left
  intro g _
  show (if g.nm = f.nm then f else g).toFt = if g.nm = f.nm then f.toFt else g.toFt
  split <;> rfl
theorem name_one {fl : List Fl} (ha : fl.Pairwise Apart) {f g : Fl} (hf : f ∈ fl) (hg : g ∈ fl) (e : f.nm = g.nm) : f = g := by
  induction fl with
  | nil => cases hf
  | cons x r ih =>
    obtain ⟨h1, h2⟩ := List.pairwise_cons.1 ha
    rcases List.mem_cons.1 hf with rfl | hf' <;> rcases List.mem_cons.1 hg with rfl | hg'
    · rfl
    · exact absurd e (h1 g hg').1
    · exact absurd e.symm (h1 f hf').1
    · exact ih h2 hf' hg'
theorem pair_apart {fl : List Fl} (ha : fl.Pairwise Apart) {f g : Fl} (hf : f ∈ fl) (hg : g ∈ fl) (e : f.nm ≠ g.nm) : Apart f g := by
  induction fl with
  | nil => cases hf
  | cons x r ih =>
    obtain ⟨h1, h2⟩ := List.pairwise_cons.1 ha
    rcases List.mem_cons.1 hf with rfl | hf' <;> rcases List.mem_cons.1 hg with rfl | hg'
    · exact absurd rfl e
    · exact h1 g hg'
    · exact (h1 f hf').symm
    · exact ih h2 hf' hg'
theorem fileOf_mem {fl : List Fl} (ha : fl.Pairwise Apart) {f : Fl} (hf : f ∈ fl) : fileOf fl f.nm = some f := by
  cases e : fileOf fl f.nm with
  | none => unfold fileOf at e; rw [List.find?_eq_none] at e; exact absurd (e f hf) (by simp)
  | some g => obtain ⟨h1, h2⟩ := fileOf_some e; rw [name_one ha h1 hf h2]
theorem swap_pr {fl : List Fl} (ha : fl.Pairwise Apart) {f f' : Fl} (hf : f ∈ fl) (h1 : f'.nm = f.nm) (h2 : f'.fb = f.fb) : (swap fl f').map pr = fl.map pr := by
  unfold swap
  rw [List.map_map]
  apply List.map_congr_left
  intro g hg
  show pr (if g.nm = f'.nm then f' else g) = pr g
  split
  · rename_i e
    have := name_one ha hg hf (by rw [e, h1])
    subst this
    show (f'.nm, f'.fb) = (g.nm, g.fb)
    rw [h1, h2]
  · rfl
theorem swap_len (fl : List Fl) (f : Fl) : (swap fl f).length = fl.length := by simp [swap]
theorem used_swapF {l : List Ft} {f f' : Ft} (ha : l.Pairwise (fun a b => a.nm ≠ b.nm)) (hf : f ∈ l) (h1 : f'.nm = f.nm) : usedF (swapF l f') + f.text.length = usedF l + f'.text.length := by
  induction l with
  | nil => cases hf
  | cons x r ih =>
    obtain ⟨h2, h3⟩ := List.pairwise_cons.1 ha
    unfold swapF usedF at *
    simp only [List.map_cons, List.sum_cons]
    by_cases hx : x.nm = f'.nm
    · have hfx : f = x := by
        rcases List.mem_cons.1 hf with e | e
        · exact e
        · exact absurd (hx.trans h1) (h2 f e)
      subst hfx
      have : List.map (fun g => if g.nm = f'.nm then f' else g) r = r := by
        conv => rhs; rw [← List.map_id r]
        apply List.map_congr_left
        intro g hg
        rw [if_neg (fun e => h2 g hg (hx.trans e.symm))]; rfl
      rw [this, if_pos hx]
      omega
    · have hfr : f ∈ r := by
        rcases List.mem_cons.1 hf with e | e
        · subst e; exact absurd h1.symm hx
        · exact e
      have := ih h3 hfr
      rw [if_neg hx]
      omega
theorem apart_names {fl : List Fl} (ha : fl.Pairwise Apart) : (fts fl).Pairwise (fun a b => a.nm ≠ b.nm) := by
  unfold fts
  rw [List.pairwise_map]; exact ha.imp (fun h => h.1)

section
variable {w w' : World} {db : Nat} {mv : Value} {fl : List Fl} {armed dead armed' dead' : Bool} {fuse u fuse' u' : Int} {f f' : Fl}

/-- The kinds of blocks are apart. -/
theorem DiskU.db_ne (h : DiskU w db mv fl u armed fuse dead) (hf : f ∈ fl) : f.fb ≠ db := fun e => by
  have h1 := (h.each f hf).heap
  rw [e, h.heap] at h1
  simp at h1
theorem DiskU.row_ne_db (h : DiskU w db mv fl u armed fuse dead) (hf : f ∈ fl) : ∀ k, f.v.ownBlock = some k → k ≠ db := fun k hk e => by
  obtain ⟨cs, h1⟩ := row_heap (h.each f hf).row hk
  rw [e, h.heap] at h1
  simp at h1
theorem DiskU.row_ne_fb (h : DiskU w db mv fl u armed fuse dead) {g : Fl} (hf : f ∈ fl) (hg : g ∈ fl) : ∀ k, f.v.ownBlock = some k → k ≠ g.fb := fun k hk e => by
  obtain ⟨cs, h1⟩ := row_heap (h.each f hf).row hk
  rw [e, (h.each g hg).heap] at h1
  simp at h1
theorem DiskU.map_ne (h : DiskU w db mv fl u armed fuse dead) {mb : Nat} (hm : mv = .map (some mb)) : mb ≠ db ∧ (∀ f ∈ fl, f.fb ≠ mb) ∧ (∀ f ∈ fl, ∀ k, f.v.ownBlock = some k → k ≠ mb) := by
  rcases h.map with ⟨e1, _⟩ | ⟨mb', e1, hm'⟩
  · rw [hm] at e1; cases e1
  · rw [hm] at e1; cases e1
    obtain ⟨es, cl, hb⟩ := hm'.block
    refine ⟨fun e => ?_, fun f hf e => ?_, fun f hf k hk e => ?_⟩
    · rw [e, h.heap] at hb; cases hb
    · have := (h.each f hf).heap; rw [e, hb] at this; cases this
    · obtain ⟨cs, h1⟩ := row_heap (h.each f hf).row hk
      rw [e, hb] at h1; cases h1

/-- One file is another, and the disk's own block is written. -/
theorem DiskU.change (h : DiskU w db mv fl u armed fuse dead) (hf : f ∈ fl) (h1 : f'.nm = f.nm) (h2 : f'.fb = f.fb) (hat : FileAt w' f') (t : Touch (fun k => k = db ∨ k = f.fb ∨ f.v.ownBlock = some k) w w')
    (hmv : ∀ k, f'.v.ownBlock = some k → f.v.ownBlock = some k ∨ w.heap.size ≤ k) (hh : w'.heap[db]? = some (.cells #[mv, .int .i64 u', .bool armed', .int .i64 fuse', .bool dead'] 58)) : DiskU w' db mv (swap fl f') u' armed' fuse' dead' := by
  have old : ∀ g ∈ fl, g.nm ≠ f.nm → FileAt w' g := fun g hg hne => by
    have ap := pair_apart h.apart hg hf hne
    refine (h.each g hg).keep t ?_ ?_
    · rintro (e | e | e)
      · exact h.db_ne hg e
      · exact ap.2.1 e
      · exact h.row_ne_fb hf hg _ e rfl
    · rintro k hk (e | e | e)
      · exact h.row_ne_db hg k hk e
      · exact h.row_ne_fb hg hf k hk e
      · exact ap.2.2 k hk e
  refine ⟨hh, ?_, ?_, ?_⟩
  · rcases h.map with ⟨_, e2⟩ | ⟨mb, e1, hm⟩
    · rw [e2] at hf; cases hf
    · refine .inr ⟨mb, e1, ?_⟩
      rw [swap_pr h.apart hf h1 h2]
      obtain ⟨n1, n2, n3⟩ := h.map_ne e1
      refine hm.keep t ?_
      rintro (e | e | e)
      · exact n1 e
      · exact n2 f hf e.symm
      · exact n3 f hf mb e rfl
  · intro g hg
    obtain ⟨g0, hg0, rfl⟩ := List.mem_map.1 hg
    by_cases e : g0.nm = f'.nm
    · rw [if_pos e]; exact hat
    · rw [if_neg e]; exact old g0 hg0 (fun e2 => e (by rw [e2, h1]))
  · unfold swap
    rw [List.pairwise_map]
    have : fl.Pairwise (fun a b => a ∈ fl ∧ b ∈ fl ∧ Apart a b) := List.Pairwise.imp_of_mem (fun ha hb hab => ⟨ha, hb, hab⟩) h.apart
    refine this.imp ?_
    rintro a b ⟨ha, hb, hab⟩
    have lt : ∀ g ∈ fl, ∀ k, g.v.ownBlock = some k → k < w.heap.size := fun g hg k hk => (h.each g hg).row.lt k hk
    by_cases ea : a.nm = f'.nm
    · have e1 : a = f := name_one h.apart ha hf (by rw [ea, h1])
      have eb : ¬ b.nm = f'.nm := fun e => hab.1 (by rw [ea, e])
      rw [if_pos ea, if_neg eb]
      subst e1
      exact ⟨by rw [h1]; exact hab.1, by rw [h2]; exact hab.2.1, fun k hk hk2 => by
        rcases hmv k hk with e | e
        · exact hab.2.2 k e hk2
        · have := lt b hb k hk2; omega⟩
    · rw [if_neg ea]
      by_cases eb : b.nm = f'.nm
      · have e1 : b = f := name_one h.apart hb hf (by rw [eb, h1])
        rw [if_pos eb]
        subst e1
        exact ⟨by rw [h1]; exact hab.1, by rw [h2]; exact hab.2.1, fun k hk hk2 => by
          rcases hmv k hk2 with e | e
          · exact hab.2.2 k hk e
          · have := lt a ha k hk; omega⟩
      · rw [if_neg eb]; exact hab
theorem owns_swap {fl : List Fl} (ha : fl.Pairwise Apart) (hf : f ∈ fl) (h1 : f'.nm = f.nm) (h2 : f'.fb = f.fb) {n : Nat} (hmv : ∀ k, f'.v.ownBlock = some k → f.v.ownBlock = some k ∨ n ≤ k) : ∀ k, Owns db mv (swap fl f') k → Owns db mv fl k ∨ n ≤ k := by
  rintro k (e | e | ⟨g, hg, e⟩)
  · exact .inl (.inl e)
  · exact .inl (.inr (.inl e))
  · obtain ⟨g0, hg0, rfl⟩ := List.mem_map.1 hg
    by_cases c : g0.nm = f'.nm
    · rw [if_pos c] at e
      rcases e with e | e
      · exact .inl (.inr (.inr ⟨f, hf, .inl (by rw [e, h2])⟩))
      · rcases hmv k e with e2 | e2
        · exact .inl (.inr (.inr ⟨f, hf, .inr e2⟩))
        · exact .inr e2
    · rw [if_neg c] at e
      exact .inl (.inr (.inr ⟨g0, hg0, e⟩))

/-- The disk's own block alone is written. -/
theorem DiskU.self (h : DiskU w db mv fl u armed fuse dead) (t : Touch (· = db) w w') (hh : w'.heap[db]? = some (.cells #[mv, .int .i64 u', .bool armed', .int .i64 fuse', .bool dead'] 58)) : DiskU w' db mv fl u' armed' fuse' dead' := by
  refine ⟨hh, ?_, fun f hf => (h.each f hf).keep t (h.db_ne hf) (h.row_ne_db hf), h.apart⟩
  rcases h.map with ⟨e1, e2⟩ | ⟨mb, e1, hm⟩
  · exact .inl ⟨e1, e2⟩
  · exact .inr ⟨mb, e1, hm.keep t (h.map_ne e1).1⟩
end

section
variable {w : World} {db : Nat} {mv : Value} {fl : List Fl} {armed dead : Bool} {fuse : Int} {s : ByteArray}

/-- What burn answers, and what it leaves. -/
def burnN (armed : Bool) (fuse : Int) (n : Nat) : Nat := if armed = true ∧ fuse < n then fuse.toNat else n
def burnF (armed : Bool) (fuse : Int) (n : Nat) : Int := if armed = true then fuse - burnN armed fuse n else fuse
def burnD (armed : Bool) (fuse : Int) (n : Nat) (dead : Bool) : Bool := dead || decide (armed = true ∧ fuse < n)
theorem burnN_le (armed : Bool) (fuse : Int) (n : Nat) : burnN armed fuse n ≤ n := by unfold burnN; split <;> omega

theorem burn_any (h : DiskAt w db mv fl armed fuse dead) (n : Nat) (hn : n ≤ 4194304) :
    Calls Tryz.prog 37 #[.pointer (some ⟨db, 0, none⟩), .int .i64 (n : Nat)] w fun e w' => e = .returned (.int .i64 (burnN armed fuse n : Nat)) ∧ DiskAt w' db mv fl armed (burnF armed fuse n) (burnD armed fuse n dead) ∧ Touch (· = db) w w' := by
  have c2 : w.cell? ⟨db, 2, none⟩ = some (.bool armed) := h.cell 2
  have c3 : w.cell? ⟨db, 3, none⟩ = some (.int .i64 fuse) := h.cell 3
  have c4 : w.cell? ⟨db, 4, none⟩ = some (.bool dead) := h.cell 4
  have z3 := h.frozen 3
  have z4 := h.frozen 4
  have hlo := h.lo
  have hhi := h.hi
  have harm := h.arm
  have H := hide h
  cases armed
  · have e1 : burnN false fuse n = n := by simp [burnN]
    have e2 : burnF false fuse n = fuse := by simp [burnF]
    have e3 : burnD false fuse n dead = dead := by simp [burnD]
    rw [e1, e2, e3]
    clear e1 e2 e3 h harm
    go_enter Tryz.func37, Tryz.ntmps37
    go_wp2
    go_returns
    exact ⟨rfl, unhide H, Touch.refl _ _⟩
  · have h0 := harm rfl
    obtain ⟨q, rfl⟩ := Int.eq_ofNat_of_zero_le h0
    by_cases hq : q < n
    · have e1 : burnN true q n = q := by unfold burnN; rw [if_pos ⟨rfl, by omega⟩]; simp
      have e2 : burnF true q n = 0 := by unfold burnF; rw [if_pos rfl, e1]; omega
      have e3 : burnD true q n dead = true := by unfold burnD; rw [decide_eq_true ⟨rfl, by omega⟩]; simp
      rw [e1, e2, e3]
      have hq' : (q : Int) < (n : Int) := by omega
      have hz : (q : Int) - (q : Int) = 0 := by omega
      have F : Hid (DiskAt ((w.setCell ⟨db, 4, none⟩ (.bool true)).setCell ⟨db, 3, none⟩ (.int .i64 0)) db mv fl true 0 true ∧ Touch (· = db) w ((w.setCell ⟨db, 4, none⟩ (.bool true)).setCell ⟨db, 3, none⟩ (.int .i64 0))) := by
        have t := (touch_set w db 4 (.bool true)).trans (touch_set _ db 3 (.int .i64 0))
        exact ⟨⟨h.toDiskU.self t (heap_set (heap_set h.heap 4 _) 3 _), h.used, h.few, by omega, by omega, fun _ => Int.le_refl _⟩, t⟩
      clear e1 e2 e3 h harm hlo hhi h0 hq
      go_enter Tryz.func37, Tryz.ntmps37
      go_wp2
      go_returns
      exact ⟨rfl, unhide F⟩
    · have e1 : burnN true q n = n := by unfold burnN; rw [if_neg (by omega)]
      have e2 : burnF true q n = (q : Int) - n := by unfold burnF; rw [if_pos rfl, e1]
      have e3 : burnD true q n dead = dead := by unfold burnD; rw [decide_eq_false (by omega)]; simp
      rw [e1, e2, e3]
      have hq' : ¬ (q : Int) < (n : Int) := by omega
      have F : Hid (DiskAt (w.setCell ⟨db, 3, none⟩ (.int .i64 ((q : Int) - n))) db mv fl true ((q : Int) - n) dead ∧ Touch (· = db) w (w.setCell ⟨db, 3, none⟩ (.int .i64 ((q : Int) - n)))) := by
        have t := touch_set w db 3 (.int .i64 ((q : Int) - n))
        exact ⟨⟨h.toDiskU.self t (heap_set h.heap 3 _), h.used, h.few, by omega, by omega, fun _ => by omega⟩, t⟩
      clear e1 e2 e3 h harm h0 hq
      go_enter Tryz.func37, Tryz.ntmps37
      go_wp2
      go_returns
      exact ⟨rfl, unhide F⟩
end
end Go.Proofs.YtkcoeofbobkaoabGreatDoor


/-
  The inner calls keep and crash of a file, add and drop of a disk. Conditions: what the file and the disk are.
-/
namespace Go.Proofs.YtkcoeofbobkaoabGreatDoor
open Go.RowKit Go.Maps
set_option linter.unusedVariables false

section
variable {w : World} {f : Fl}
theorem FileAt.cell0 (h : FileAt w f) : w.cell? ⟨f.fb, 0, none⟩ = some f.v := cell_of h.heap 0
theorem FileAt.cell1 (h : FileAt w f) : w.cell? ⟨f.fb, 1, none⟩ = some (.int .i64 (f.last : Nat)) := cell_of h.heap 1
theorem FileAt.frozen (h : FileAt w f) (i : Nat) : w.frozen? ⟨f.fb, i, none⟩ = false := frozen_of h.heap i
theorem FileAt.row_ne (h : FileAt w f) : ∀ k, f.v.ownBlock = some k → k ≠ f.fb := fun k hk e => by
  obtain ⟨cs, h1⟩ := row_heap h.row hk
  rw [e, h.heap] at h1
  simp at h1

/-- What a file has become: the same name and block, its row or a new one. -/
structure FileTo (w w' : World) (f f' : Fl) : Prop where
  nm : f'.nm = f.nm
  fb : f'.fb = f.fb
  at_ : FileAt w' f'
  touch : Touch (· = f.fb) w w'
  row : ∀ k, f'.v.ownBlock = some k → f.v.ownBlock = some k ∨ w.heap.size ≤ k

def KeptTo (w w' : World) (f : Fl) (text : List Nat) (last : Nat) : Prop := ∃ f', FileTo w w' f f' ∧ f'.text = text ∧ f'.last = last

set_option maxRecDepth 100000 in
theorem keep_any (h : FileAt w f) (n : Nat) (hn : n ≤ f.text.length) (hl : f.text.length ≤ 4194304) :
    Calls Tryz.prog 92 #[.pointer (some ⟨f.fb, 0, none⟩), .int .i64 (n : Nat)] w fun e w' => e = .returned (.tuple #[]) ∧ KeptTo w w' f (f.text.take n) (min f.last n) := by
  have hlast := h.last
  obtain ⟨a, cap, ev, la, hcap, _, hnil, hob, _⟩ := h.row.parts
  have c0 : w.cell? ⟨f.fb, 0, none⟩ = some (.slice a f.text.length cap) := by rw [← ev]; exact h.cell0
  have c1 := h.cell1
  have z0 := h.frozen 0
  have z1 := h.frozen 1
  have hmin : min (f.last : Int) (n : Int) = ((min f.last n : Nat) : Int) := by omega
  by_cases hlt : n < f.text.length
  · have hlt' : (n : Int) < (f.text.length : Int) := by omega
    have hsl := slice_h a f.text.length cap n (by omega)
    have htl : (f.text.take n).length = n := by rw [List.length_take]; omega
    have CL := clone_any a (f.text.take n) cap w (la.take n) hnil (by omega)
    rw [htl] at CL
    have CLH := hide CL
    have HF := hide h
    clear CL la h hob htl
    have HEV := hide ev
    clear ev
    go_enter Tryz.func92, Tryz.ntmps92
    go_wp2_with fail
    refine (unhide CLH).mono ?_
    rintro e w1 ⟨v1, rfl, r1, n1, b1⟩
    have hb1 : w1.heap[f.fb]? = some (.cells #[f.v, .int .i64 (f.last : Nat)] 77) := below_keep b1 (unhide HF).heap
    have d0 : w1.cell? ⟨f.fb, 0, none⟩ = some f.v := cell_of hb1 0
    have d1 : w1.cell? ⟨f.fb, 1, none⟩ = some (.int .i64 (f.last : Nat)) := cell_of hb1 1
    have y0 := frozen_of hb1 0
    have y1 := frozen_of hb1 1
    have hfl := lt_of_heap (unhide HF).heap
    have F : Hid (∃ x : Int, x = ((min f.last n : Nat) : Int) ∧ KeptTo w ((w1.setCell ⟨f.fb, 0, none⟩ v1).setCell ⟨f.fb, 1, none⟩ (.int .i64 x)) f (f.text.take n) (min f.last n)) := by
      refine ⟨_, rfl, { f with v := v1, text := f.text.take n, last := min f.last n }, ⟨rfl, rfl, ⟨heap_set (heap_set hb1 0 v1) 1 _, ?_, ?_, (unhide HF).name⟩, ?_, fun k hk => .inr (n1 k hk)⟩, rfl, rfl⟩
      · refine (r1.keep (touch_set w1 f.fb 0 v1) (fun k hk e => ?_)).keep (touch_set _ f.fb 1 _) (fun k hk e => ?_)
        · have := n1 k hk; omega
        · have := n1 k hk; omega
      · show min f.last n ≤ (f.text.take n).length
        rw [List.length_take]; omega
      · exact ((Touch.of_below (S := (· = f.fb)) b1).trans (touch_set w1 f.fb 0 v1)).trans (touch_set _ f.fb 1 _)
    obtain ⟨a1, m1, c1', rfl⟩ := r1.shape
    clear r1 n1 b1 hb1 CLH HF HEV
    go_wp2
    all_goals
      obtain ⟨x, hx, K⟩ := unhide F
      go_end0
      first
        | (obtain rfl : x = (n : Int) := by omega
           exact ⟨rfl, K⟩)
        | (obtain rfl : x = (f.last : Int) := by omega
           exact ⟨rfl, K⟩)
  · have hlt' : ¬ (n : Int) < (f.text.length : Int) := by omega
    have F : Hid (∃ x : Int, x = ((min f.last n : Nat) : Int) ∧ KeptTo w (w.setCell ⟨f.fb, 1, none⟩ (.int .i64 x)) f (f.text.take n) (min f.last n)) := by
      refine ⟨_, rfl, { f with last := min f.last n }, ⟨rfl, rfl, ⟨heap_set h.heap 1 _, h.row.keep (touch_set w f.fb 1 _) (fun k hk e => h.row_ne k hk e), ?_, h.name⟩, touch_set w f.fb 1 _, fun k hk => .inl hk⟩, ?_, rfl⟩
      · show min f.last n ≤ f.text.length
        omega
      · show f.text = f.text.take n
        rw [List.take_of_length_le (by omega)]
    clear la h hob ev
    go_enter Tryz.func92, Tryz.ntmps92
    go_wp2
    all_goals
      obtain ⟨x, hx, K⟩ := unhide F
      go_end0
      first
        | (obtain rfl : x = (n : Int) := by omega
           exact ⟨rfl, K⟩)
        | (obtain rfl : x = (f.last : Int) := by omega
           exact ⟨rfl, K⟩)

/-- What a crash leaves of a file. -/
def crashN (k : Nat) (f : Ft) : Nat := f.last + k % (f.text.length - f.last + 1)
def crashF (k : Nat) (f : Ft) : Ft := { nm := f.nm, text := f.text.take (crashN k f), last := crashN k f }
theorem crashN_le (k : Nat) {f : Ft} (h : f.last ≤ f.text.length) : crashN k f ≤ f.text.length := by
  unfold crashN
  have := Nat.mod_lt k (show 0 < f.text.length - f.last + 1 by omega)
  omega
def CrashTo (w w' : World) (f : Fl) (k : Nat) : Prop := ∃ f', FileTo w w' f f' ∧ f'.toFt = crashF k f.toFt

set_option maxRecDepth 100000 in
theorem crash_any (h : FileAt w f) (k : Nat) (hk : k < 18446744073709551616) (hl : f.text.length ≤ 4194304) :
    Calls Tryz.prog 66 #[.pointer (some ⟨f.fb, 0, none⟩), .int .u64 (k : Nat)] w fun e w' => e = .returned (.tuple #[]) ∧ CrashTo w w' f k := by
  have hlast := h.last
  have hcn := crashN_le k hlast
  obtain ⟨a, cap, ev, la, hcap, _, hnil, hob, _⟩ := h.row.parts
  have c0 : w.cell? ⟨f.fb, 0, none⟩ = some (.slice a f.text.length cap) := by rw [← ev]; exact h.cell0
  have c1 := h.cell1
  obtain ⟨lo, hlo⟩ : ∃ lo : Nat, lo = f.text.length - f.last := ⟨_, rfl⟩
  have hlo' : (f.text.length : Int) - (f.last : Int) = (lo : Int) := by omega
  obtain ⟨q, hq⟩ : ∃ q : Nat, q = k % (lo + 1) := ⟨_, rfl⟩
  have hq' : (k : Int) % ((lo : Int) + 1) = (q : Int) := by subst hq; simp
  have EN : Hid (crashN k f.toFt = f.last + q) := by show crashN k f.toFt = _; unfold crashN; rw [hq, hlo]
  have hqm : q ≤ lo := by rw [hq]; have := Nat.mod_lt k (show 0 < lo + 1 by omega); omega
  have KA : Hid (∀ w1, Touch (fun _ => False) w w1 → Calls Tryz.prog 92 #[.pointer (some ⟨f.fb, 0, none⟩), .int .i64 ((f.last : Int) + (q : Int))] w1 fun e w' => e = .returned (.tuple #[]) ∧ KeptTo w1 w' f (f.text.take (f.last + q)) (min f.last (f.last + q))) := fun w1 t =>
    keep_any (w := w1) (h.keep t (fun h => h) (fun _ _ h => h)) (f.last + q) (by omega) hl
  have hrem : ∀ w, (Op.intDiv .rem .u64 (k : Int) ((lo : Int) + 1)).run Tryz.prog w = .ok (.int .u64 (q : Int)) w := fun w => by
    have e1 : ¬ (lo : Int) + 1 = 0 := by omega
    have e2 : (k : Int).tmod ((lo : Int) + 1) = (q : Int) := by rw [← hq']; exact Int.tmod_eq_emod_of_nonneg (by omega)
    simp [go_sem, e1, e2]
  have HF := hide h
  have hk2 : ((lo : Int) + 1) % 18446744073709551616 = (lo : Int) + 1 := by omega
  have hk3 : (((lo : Int) + 1) == 0) = false := by rw [beq_eq_false_iff_ne]; omega
  have hk4 : IntKind.u64.wrap ((lo : Int) + 1) = (lo : Int) + 1 := by simp [IntKind.wrap, IntKind.bits, IntKind.signed]; omega
  have hk6 : IntKind.i64.wrap (q : Int) = (q : Int) := by simp [IntKind.wrap, IntKind.bits, IntKind.signed]; omega
  have hk7 : ¬ (lo : Int) + 1 = 0 := by omega
  have hk8 : IntKind.i64.wrap ((lo : Int) + 1) = (lo : Int) + 1 := by simp [IntKind.wrap, IntKind.bits, IntKind.signed]; omega
  have hk9 : IntKind.i64.wrap ((f.last : Int) + (q : Int)) = (f.last : Int) + (q : Int) := by simp [IntKind.wrap, IntKind.bits, IntKind.signed]; omega
  have hk5 : (k : Int).tmod ((lo : Int) + 1) = (q : Int) := by rw [← hq']; exact Int.tmod_eq_emod_of_nonneg (by omega)
  clear la h hob ev hnil hq hlo hq' hk2 hrem
  go_enter Tryz.func66, Tryz.ntmps66
  go_wp2_with fail
  go_quiet (fail)
  have c1' : (w.drewN nq).cell? ⟨f.fb, 1, none⟩ = some (.int .i64 (f.last : Nat)) := c1
  have TT : Hid (Touch (fun _ => False) w (w.drewN nq)) := ⟨rfl, rfl, rfl, Nat.le_refl _, fun _ _ _ => rfl⟩
  clear c0 c1
  generalize w.drewN nq = w1 at *
  go_wp2_with fail
  go_region_with (go_at_call 92; refine (unhide KA _ (unhide TT).drew).mono ?_; rintro e w2 ⟨rfl, k2⟩)
  all_goals
    obtain ⟨f2, to2, et2, el2⟩ := k2
    have hb2 := to2.at_.heap
    obtain ⟨a2, cap2, ev2, _⟩ := to2.at_.row.parts
    have d0 : w2.cell? ⟨f.fb, 0, none⟩ = some (.slice a2 (f.last + q) cap2) := by
      have := to2.at_.cell0
      rw [to2.fb, ev2, et2, List.length_take] at this
      rw [this]
      congr 2
      omega
    have d1 : w2.cell? ⟨f.fb, 1, none⟩ = some (.int .i64 (f2.last : Nat)) := by have := to2.at_.cell1; rwa [to2.fb] at this
    have y1 : w2.frozen? ⟨f.fb, 1, none⟩ = false := by have := to2.at_.frozen 1; rwa [to2.fb] at this
    have F : Hid (CrashTo w (w2.setCell ⟨f.fb, 1, none⟩ (.int .i64 ((f.last : Int) + (q : Int)))) f k) := by
      refine ⟨{ f2 with last := f.last + q }, ⟨to2.nm, to2.fb, ⟨?_, ?_, ?_, to2.at_.name⟩, ?_, fun j hj => ?_⟩, ?_⟩
      · show (w2.setCell ⟨f.fb, 1, none⟩ _).heap[f2.fb]? = _
        have := heap_set hb2 1 (.int .i64 ((f.last : Int) + (q : Int)))
        rw [to2.fb] at this ⊢
        exact this
      · have := to2.at_.row.keep (touch_set w2 f2.fb 1 (.int .i64 ((f.last : Int) + (q : Int)))) (fun j hj e => to2.at_.row_ne j hj e)
        rw [to2.fb] at this
        exact this
      · show f.last + q ≤ f2.text.length
        rw [et2, List.length_take]; omega
      · exact (touch_more (S := (· = f.fb)) ((unhide TT).drew.mono (fun _ h => h.elim)) to2.touch (fun j hj => .inl hj)).trans (touch_set w2 f.fb 1 _)
      · rcases to2.row j hj with e | e
        · exact .inl e
        · exact .inr (Nat.le_trans (unhide TT).size e)
      · show ({ nm := f2.nm, text := f2.text, last := f.last + q } : Ft) = { nm := f.nm, text := f.text.take (crashN k f.toFt), last := crashN k f.toFt }
        rw [unhide EN, to2.nm, et2]
    clear to2 hb2 ev2 c1'
    go_wp2
    go_end0
    exact ⟨rfl, unhide F⟩
end
end Go.Proofs.YtkcoeofbobkaoabGreatDoor


/-
  The inner calls add and drop of a disk. Conditions: what the disk is.
-/
namespace Go.Proofs.YtkcoeofbobkaoabGreatDoor
open Go.RowKit Go.Maps
set_option linter.unusedVariables false

section
variable (w : World) {ops : Array Oper} {rest : List Oper} {o : Oper} {a : Act} {Q : Exit → Act → World → Prop}
theorem wpList_fmput (hg : o.guard = none) (m x v : Operand) (hop : o.op = Op.mapUpdate 56 m x v) (b : Nat) (ps : Prs) (hm : a.eval m = .map (some b)) (h : FM w b ps) (hn : ps.length < maxLen) (s : ByteArray) (g : Nat) (hx : a.eval x = .string s) (hv : a.eval v = .pointer (some ⟨g, 0, none⟩)) (hs : s.size ≤ maxLen)
    (hK : ∀ w', FM w' b ((s, g) :: del ps s) → Touch (· = b) w w' → wpList Tryz.prog ops Q rest (a.put o.dst undef) w') : wpList Tryz.prog ops Q (o :: rest) a w := by
  refine wpList_plain hg fun K' hK' => ?_
  obtain ⟨w', hrun, r1, r2⟩ := h.store hn hs g
  have hrun' : (Instr.mapUpdate 56 (.map (some b)) (.string s) (.pointer (some ⟨g, 0, none⟩))).run Tryz.prog w = .ok () w' := hrun
  unfold Oper.wp
  simp [execOp, hop, hm, hx, hv, hrun', Result.andThen]
  exact hK' _ _ (hK w' r1 r2)
theorem wpList_fmdel (hg : o.guard = none) (m x : Operand) (hop : o.op = Op.call { callee := Callee.builtin Builtin.delete, args := #[m, x], argTypes := #[56, 9] }) (b : Nat) (ps : Prs) (hm : a.eval m = .map (some b)) (h : FM w b ps) (s : ByteArray) (hx : a.eval x = .string s) (hs : s.size ≤ maxLen)
    (hK : ∀ w', FM w' b (del ps s) → Touch (· = b) w w' → wpList Tryz.prog ops Q rest (a.put o.dst (.tuple #[])) w') : wpList Tryz.prog ops Q (o :: rest) a w := by
  refine wpList_plain hg fun K' hK' => ?_
  obtain ⟨w', hrun, r1, r2⟩ := h.drop hs o.type
  unfold Oper.wp
  simp [execOp, hop, resolve, invoke, builtin, hm, hx, hrun, Result.andThen]
  exact hK' _ _ (hK w' r1 r2)
end

theorem del_self {ps : Prs} {s : ByteArray} (h : at_ ps s = none) : del ps s = ps := by
  unfold del
  rw [List.filter_eq_self]
  intro p hp
  simpa using at_none h p hp

section
variable {w : World} {db : Nat} {mv : Value} {fl : List Fl} {armed dead : Bool} {fuse : Int} {s : ByteArray}

/-- A file more. -/
def AddTo (w w' : World) (db : Nat) (mv : Value) (fl : List Fl) (armed : Bool) (fuse : Int) (dead : Bool) (s : ByteArray) (e : Ending) : Prop :=
  ∃ (mv' : Value) (f : Fl), e = .returned (.pointer (some ⟨f.fb, 0, none⟩)) ∧ f.toFt = ⟨s, [], 0⟩ ∧ DiskAt w' db mv' (f :: fl) armed fuse dead ∧ Touch (Owns db mv fl) w w' ∧ ∀ k, Owns db mv' (f :: fl) k → Owns db mv fl k ∨ w.heap.size ≤ k

theorem used_cons (f : Ft) (l : List Ft) : usedF (f :: l) = f.text.length + usedF l := by simp [usedF]

set_option maxRecDepth 100000 in
theorem add_any (h : DiskAt w db mv fl armed fuse dead) (hs : okName s = true) (hno : fileOf fl s = none) (hfew : fl.length < 4096) :
    Calls Tryz.prog 36 #[.pointer (some ⟨db, 0, none⟩), .string s] w fun e w' => AddTo w w' db mv fl armed fuse dead s e := by
  have hsz : 0 < s.size ∧ s.size ≤ 24 := of_decide_eq_true hs
  have hsm : s.size ≤ maxLen := by unfold maxLen; omega
  have hat : at_ (fl.map pr) s = none := by rw [at_fileOf, hno]; rfl
  have hlm : (fl.map pr).length < maxLen := by rw [List.length_map]; unfold maxLen; omega
  have hnn : ∀ g ∈ fl, s ≠ g.nm := fun g hg e => by
    unfold fileOf at hno
    rw [List.find?_eq_none] at hno
    exact hno g hg (by simp [e])
  have hmm := @run_makeMap Tryz.prog
  have hdb := lt_of_heap h.heap
  -- what is there behind it
  have fin : Hid (∀ (wx w' : World) (mb fb : Nat), DiskU wx db (.map (some mb)) fl (usedF (fts fl) : Nat) armed fuse dead → wx.heap[fb]? = some (.cells #[.slice none 0 0, .int .i64 0] 77) → (∀ g ∈ fl, fb ≠ g.fb) → FM w' mb ((s, fb) :: fl.map pr) → Touch (· = mb) wx w' → DiskAt w' db (.map (some mb)) (⟨⟨s, [], 0⟩, fb, .slice none 0 0⟩ :: fl) armed fuse dead) := by
    intro wx w' mb fb hu hfb hne hfm t
    obtain ⟨n1, n2, n3⟩ := hu.map_ne rfl
    have hmb : fb ≠ mb := fun e => by
      rcases hu.map with ⟨e1, _⟩ | ⟨mb', e1, hm'⟩
      · cases e1
      · cases e1
        obtain ⟨es, cl, hb⟩ := hm'.block
        rw [e, hb] at hfb; cases hfb
    refine ⟨⟨?_, .inr ⟨mb, rfl, hfm⟩, ?_, ?_⟩, ?_, ?_, h.lo, h.hi, h.arm⟩
    · have e : usedF (fts (⟨⟨s, [], 0⟩, fb, .slice none 0 0⟩ :: fl)) = usedF (fts fl) := by
        show usedF (_ :: fts fl) = _
        rw [used_cons]; simp
      rw [e]
      exact t.keep hu.heap (fun e => n1 e.symm)
    · intro g hg
      rcases List.mem_cons.1 hg with rfl | hg'
      · exact ⟨t.keep hfb hmb, Row.nil _, Nat.le_refl _, hsz⟩
      · exact (hu.each g hg').keep t (n2 g hg') (n3 g hg')
    · exact List.pairwise_cons.2 ⟨fun g hg => ⟨hnn g hg, hne g hg, fun k hk => by simp [Value.ownBlock] at hk⟩, hu.apart⟩
    · show usedF (_ :: fts fl) ≤ _
      rw [used_cons]
      have := h.used
      simp; omega
    · simp; omega
  rcases h.map with ⟨rfl, rfl⟩ | ⟨mb, rfl, hm⟩
  · have c0 : w.cell? ⟨db, 0, none⟩ = some (.map none) := h.cell 0
    have z0 := h.frozen 0
    have heq := fun (w : World) => run_eql_map_nil (P := Tryz.prog) w 56 9 71 none Tryz.underlying56
    obtain ⟨w1, hw1⟩ : ∃ w1, w1 = (w.setCell ⟨db, 0, none⟩ (.map (some w.heap.size))).alloc (.map #[] 0) := ⟨_, rfl⟩
    obtain ⟨w2, hw2⟩ : ∃ w2, w2 = w1.alloc (.cells #[.slice none 0 0, .int .i64 0] 77) := ⟨_, rfl⟩
    have hs0 : (w.setCell ⟨db, 0, none⟩ (.map (some w.heap.size))).heap.size = w.heap.size := by simp [World.setCell]
    have hs1 : w1.heap.size = w.heap.size + 1 := by rw [hw1]; simp [World.setCell]
    have t1 : Touch (· = db) w w1 := by rw [hw1]; exact (touch_set w db 0 _).alloc _
    have t2 : Touch (fun _ => False) w1 w2 := by rw [hw2]; exact (Touch.refl _ w1).alloc _
    have m1 : FM w1 w.heap.size [] := by
      have := FM.made (w.setCell ⟨db, 0, none⟩ (.map (some w.heap.size)))
      rw [hs0] at this
      rw [hw1]; exact this
    have m2 : FM w2 w.heap.size [] := m1.keep t2 (fun h => h)
    have d2 : DiskU w2 db (.map (some w.heap.size)) [] (usedF (fts []) : Nat) armed fuse dead := by
      refine ⟨?_, .inr ⟨_, rfl, m2⟩, (fun g hg => by cases hg), List.Pairwise.nil⟩
      refine t2.keep ?_ (fun h => h)
      rw [hw1]
      exact heap_old _ (heap_set h.heap 0 _)
    have hfb : w2.heap[w1.heap.size]? = some (.cells #[.slice none 0 0, .int .i64 0] 77) := by rw [hw2]; exact heap_new _ _
    have M2 := hide m2
    have FI : Hid (∀ w', FM w' w.heap.size ((s, w1.heap.size) :: del [] s) → Touch (· = w.heap.size) w2 w' → AddTo w w' db (.map none) [] armed fuse dead s (.returned (.pointer (some ⟨w1.heap.size, 0, none⟩)))) := by
      intro w' hm t
      refine ⟨.map (some w.heap.size), ⟨⟨s, [], 0⟩, w1.heap.size, .slice none 0 0⟩, rfl, rfl, unhide fin w2 w' _ _ d2 hfb (fun g hg => by cases hg) hm t, ?_, ?_⟩
      · exact (touch_more (touch_more t1 t2 (fun _ h => h.elim)) t (fun k hk => .inr (by omega))).mono (fun k hk => .inl hk)
      · rintro k (e | e | ⟨g, hg, e⟩)
        · exact .inl (.inl e)
        · cases e; exact .inr (Nat.le_refl _)
        · rw [List.mem_singleton] at hg
          subst hg
          rcases e with e | e
          · have e' : k = w1.heap.size := e
            exact .inr (by omega)
          · simp [Value.ownBlock] at e
    have e12 : w1.heap.size = (w.heap.size + 1) := hs1
    clear h m1 m2 d2 hfb t1 t2 fin hnn hat hno
    subst hw2
    rw [e12] at FI
    subst hw1
    clear hs1 e12 hs0
    go_enter Tryz.func36, Tryz.ntmps36
    go_wp2_with (at_mapUpdate; refine wpList_fmput _ rfl _ _ _ rfl w.heap.size [] rfl (unhide M2) (by simp [maxLen]) s (w.heap.size + 1) rfl rfl hsm ?_)
    intro w3 m3 t3
    have G := hide (unhide FI w3 m3 t3)
    clear m3 t3 FI M2
    go_wp2
    go_returns
    exact unhide G
  · have c0 : w.cell? ⟨db, 0, none⟩ = some (.map (some mb)) := h.cell 0
    have heq := fun (w : World) => run_eql_map_nil (P := Tryz.prog) w 56 9 71 (some mb) Tryz.underlying56
    have t2 : Touch (fun _ => False) w (w.alloc (.cells #[.slice none 0 0, .int .i64 0] 77)) := (Touch.refl _ w).alloc _
    have m2 := hm.keep t2 (fun h => h)
    have M2 := hide m2
    have c2 : (w.alloc (.cells #[.slice none 0 0, .int .i64 0] 77)).cell? ⟨db, 0, none⟩ = some (.map (some mb)) := cell_of (heap_old _ h.heap) 0
    have FI : Hid (∀ w', FM w' mb ((s, w.heap.size) :: del (fl.map pr) s) → Touch (· = mb) (w.alloc (.cells #[.slice none 0 0, .int .i64 0] 77)) w' → AddTo w w' db (.map (some mb)) fl armed fuse dead s (.returned (.pointer (some ⟨w.heap.size, 0, none⟩)))) := by
      intro w' hm' t
      rw [del_self hat] at hm'
      refine ⟨.map (some mb), ⟨⟨s, [], 0⟩, w.heap.size, .slice none 0 0⟩, rfl, rfl, unhide fin _ w' _ _ (h.toDiskU.keep t2 (fun _ _ h => h)) (heap_new _ _) (fun g hg e => ?_) hm' t, ?_, ?_⟩
      · have := lt_of_heap (h.each g hg).heap
        omega
      · exact touch_more (t2.mono (fun _ h => h.elim)) t (fun k hk => .inl (.inr (.inl (by rw [hk]))))
      · rintro k (e | e | ⟨g, hg, e⟩)
        · exact .inl (.inl e)
        · exact .inl (.inr (.inl e))
        · rcases List.mem_cons.1 hg with rfl | hg'
          · rcases e with e | e
            · exact .inr (by show w.heap.size ≤ k; rw [e]; exact Nat.le_refl _)
            · simp [Value.ownBlock] at e
          · exact .inl (.inr (.inr ⟨g, hg', e⟩))
    clear h m2 t2 fin hnn hat hno hm
    go_enter Tryz.func36, Tryz.ntmps36
    go_wp2_with (at_mapUpdate; refine wpList_fmput _ rfl _ _ _ rfl mb (fl.map pr) rfl (unhide M2) hlm s w.heap.size rfl rfl hsm ?_)
    intro w3 m3 t3
    have G := hide (unhide FI w3 m3 t3)
    clear m3 t3 FI M2
    go_wp2
    go_returns
    exact unhide G

/-- Without the file of a name. -/
def without (fl : List Fl) (s : ByteArray) : List Fl := fl.filter (fun f => decide (f.nm ≠ s))
def withoutF (l : List Ft) (s : ByteArray) : List Ft := l.filter (fun f => decide (f.nm ≠ s))
theorem fts_without (fl : List Fl) (s : ByteArray) : fts (without fl s) = withoutF (fts fl) s := by
  unfold fts without withoutF
  rw [List.filter_map]; rfl
theorem pr_without (fl : List Fl) (s : ByteArray) : (without fl s).map pr = del (fl.map pr) s := by
  unfold without del
  rw [List.filter_map]; rfl
theorem used_without {l : List Ft} {f : Ft} (ha : l.Pairwise (fun a b => a.nm ≠ b.nm)) (hf : f ∈ l) : usedF (withoutF l f.nm) + f.text.length = usedF l := by
  induction l with
  | nil => cases hf
  | cons x r ih =>
    obtain ⟨h2, h3⟩ := List.pairwise_cons.1 ha
    by_cases hx : x.nm = f.nm
    · have hfx : f = x := by
        rcases List.mem_cons.1 hf with e | e
        · exact e
        · exact absurd hx (h2 f e)
      subst hfx
      have : withoutF (f :: r) f.nm = r := by
        unfold withoutF
        rw [List.filter_cons_of_neg (by simp), List.filter_eq_self]
        intro g hg
        simpa using (fun e => h2 g hg e.symm)
      rw [this, used_cons]
      omega
    · have hfr : f ∈ r := by
        rcases List.mem_cons.1 hf with e | e
        · subst e; exact absurd rfl hx
        · exact e
      have := ih h3 hfr
      have e : withoutF (x :: r) f.nm = x :: withoutF r f.nm := by
        unfold withoutF
        rw [List.filter_cons_of_pos (by simpa using hx)]
      rw [e, used_cons, used_cons]
      omega
theorem without_self {fl : List Fl} {s : ByteArray} (h : fileOf fl s = none) : without fl s = fl := by
  unfold without
  rw [List.filter_eq_self]
  intro g hg
  unfold fileOf at h
  rw [List.find?_eq_none] at h
  simpa using h g hg
theorem owns_without {db : Nat} {mv : Value} {fl : List Fl} {s : ByteArray} : ∀ k, Owns db mv (without fl s) k → Owns db mv fl k := by
  rintro k (e | e | ⟨g, hg, e⟩)
  · exact .inl e
  · exact .inr (.inl e)
  · exact .inr (.inr ⟨g, (List.mem_filter.1 hg).1, e⟩)

def DropTo (w w' : World) (db : Nat) (mv : Value) (fl : List Fl) (armed : Bool) (fuse : Int) (dead : Bool) (s : ByteArray) : Prop :=
  DiskAt w' db mv (without fl s) armed fuse dead ∧ Touch (fun k => k = db ∨ mv = .map (some k)) w w'

set_option maxRecDepth 100000 in
theorem drop_any (h : DiskAt w db mv fl armed fuse dead) (hs : s.size ≤ maxLen) :
    Calls Tryz.prog 118 #[.pointer (some ⟨db, 0, none⟩), .string s] w fun e w' => e = .returned (.tuple #[]) ∧ DropTo w w' db mv fl armed fuse dead s := by
  have c0 : w.cell? ⟨db, 0, none⟩ = some mv := h.cell 0
  have hl := h.look hs
  cases hf : fileOf fl s with
  | none =>
    rw [hf] at hl
    have hl2 : (Instr.lookup 56 mv (.string s) true).run Tryz.prog w = .ok (.tuple #[.pointer none, .bool false]) w := hl
    have F : Hid (DropTo w w db mv fl armed fuse dead s) := ⟨by rw [without_self hf]; exact h, Touch.refl _ _⟩
    clear hl h hs hf
    go_enter Tryz.func118, Tryz.ntmps118
    go_wp2
    go_returns
    exact ⟨rfl, unhide F⟩
  | some f =>
    obtain ⟨hfm, rfl⟩ := fileOf_some hf
    rw [hf] at hl
    have hl2 : (Instr.lookup 56 mv (.string f.nm) true).run Tryz.prog w = .ok (.tuple #[.pointer (some ⟨f.fb, 0, none⟩), .bool true]) w := hl
    obtain ⟨mb, rfl, hm⟩ : ∃ mb, mv = .map (some mb) ∧ FM w mb (fl.map pr) := by
      rcases h.map with ⟨_, e⟩ | h
      · rw [e] at hfm; cases hfm
      · exact h
    have hat := h.each f hfm
    obtain ⟨a, cap, ev, _⟩ := hat.row.parts
    have d0 : w.cell? ⟨f.fb, 0, none⟩ = some (.slice a f.text.length cap) := by rw [← ev]; exact hat.cell0
    have c1 : w.cell? ⟨db, 1, none⟩ = some (.int .i64 (usedF (fts fl) : Nat)) := h.cell 1
    have z1 := h.frozen 1
    have hu := used_without (apart_names h.apart) (List.mem_map.2 ⟨f, hfm, rfl⟩ : f.toFt ∈ fts fl)
    have hus := h.used
    obtain ⟨u', hu'⟩ : ∃ u', u' = usedF (withoutF (fts fl) f.nm) := ⟨_, rfl⟩
    have huz : (usedF (fts fl) : Int) - (f.text.length : Int) = (u' : Int) := by rw [hu']; have : f.toFt.text = f.text := rfl; rw [this] at hu; omega
    have hwz : IntKind.i64.wrap (u' : Int) = (u' : Int) := by simp [IntKind.wrap, IntKind.bits, IntKind.signed]; have : f.toFt.text = f.text := rfl; rw [this] at hu; omega
    obtain ⟨n1, n2, n3⟩ := h.map_ne rfl
    have FI : Hid (∀ w', FM w' mb (del (fl.map pr) f.nm) → Touch (· = mb) (w.setCell ⟨db, 1, none⟩ (.int .i64 (u' : Int))).drew w' → DropTo w w' db (.map (some mb)) fl armed fuse dead f.nm) := by
      intro w' m' t'
      have tt : Touch (fun k => k = db ∨ Value.map (some mb) = .map (some k)) w w' := touch_more (((touch_set w db 1 _).mono (fun k hk => .inl hk)).drew) t' (fun k hk => .inl (.inr (by rw [hk])))
      refine ⟨⟨⟨?_, .inr ⟨mb, rfl, by rw [pr_without]; exact m'⟩, fun g hg => ?_, h.apart.filter _⟩, ?_, ?_, h.lo, h.hi, h.arm⟩, tt⟩
      · rw [fts_without, ← hu']
        exact t'.keep (w := (w.setCell ⟨db, 1, none⟩ (.int .i64 (u' : Int))).drew) (heap_set h.heap 1 _) (fun e => n1 e.symm)
      · have hg' := (List.mem_filter.1 hg).1
        refine (h.each g hg').keep tt ?_ ?_
        · rintro (e | e)
          · exact h.db_ne hg' e
          · cases e; exact n2 g hg' rfl
        · rintro k hk (e | e)
          · exact h.row_ne_db hg' k hk e
          · cases e; exact n3 g hg' _ hk rfl
      · rw [fts_without]; omega
      · exact Nat.le_trans (List.length_filter_le _ _) h.few
    have MM : Hid (FM (w.setCell ⟨db, 1, none⟩ (.int .i64 (u' : Int))).drew mb (fl.map pr)) := hm.keep (touch_set w db 1 _).drew n1
    have c0' : (w.setCell ⟨db, 1, none⟩ (.int .i64 (u' : Int))).drew.cell? ⟨db, 0, none⟩ = some (.map (some mb)) := cell_of (w := (w.setCell ⟨db, 1, none⟩ (.int .i64 (u' : Int))).drew) (heap_set h.heap 1 _) 0
    clear hl h hf hm hat ev hu hu' hus
    go_enter Tryz.func118, Tryz.ntmps118
    go_wp2_with fail
    go_region
    all_goals
      generalize (w.setCell ⟨db, 1, none⟩ (.int .i64 (u' : Int))).drew = w1 at *
      go_wp2_with (at_delete; refine wpList_fmdel _ rfl _ _ rfl mb (fl.map pr) rfl (unhide MM) f.nm rfl hs ?_)
      intro w2 m2 t2
      have G := hide (unhide FI w2 m2 t2)
      clear m2 t2
      go_wp2
      go_end0
      exact ⟨rfl, unhide G⟩
end
end Go.Proofs.YtkcoeofbobkaoabGreatDoor


/-
  A disk as plain data (its files, its fuse, whether it has broken), and Append. Conditions: names and bytes are at most 2^47.
-/
namespace Go.Proofs.YtkcoeofbobkaoabGreatDoor
open Go.RowKit Go.Maps
set_option linter.unusedVariables false

/-- A new row of bytes. -/
def Fresh5 (w w' : World) (v : Value) (l : List Nat) : Prop := Row w' v l ∧ New w v ∧ Below w.heap.size w w'

structure Dk where
  fs : List Ft
  armed : Bool
  fuse : Int
  dead : Bool
/-- The object at db is that disk; S holds its blocks. -/
structure Disky (w : World) (db : Nat) (S : Nat → Prop) (d : Dk) : Prop where
  ex : ∃ mv fl, DiskAt w db mv fl d.armed d.fuse d.dead ∧ fts fl = d.fs ∧ ∀ k, Owns db mv fl k → S k
  lt : ∀ k, S k → k < w.heap.size
theorem Disky.keep {w w' : World} {db : Nat} {S T : Nat → Prop} {d : Dk} (h : Disky w db S d) (t : Touch T w w') (hs : ∀ k, S k → ¬ T k) : Disky w' db S d := by
  obtain ⟨mv, fl, h1, h2, h3⟩ := h.ex
  exact ⟨⟨mv, fl, h1.keep t (fun k hk => hs k (h3 k hk)), h2, h3⟩, fun k hk => Nat.lt_of_lt_of_le (h.lt k hk) t.size⟩
theorem Disky.db {w : World} {db : Nat} {S : Nat → Prop} {d : Dk} (h : Disky w db S d) : S db := by obtain ⟨mv, fl, h1, h2, h3⟩ := h.ex; exact h3 db (.inl rfl)
/-- What a call leaves. -/
def Went (w w' : World) (db : Nat) (S : Nat → Prop) (d' : Dk) : Prop := ∃ S', Disky w' db S' d' ∧ Touch S w w' ∧ ∀ k, S' k → S k ∨ w.heap.size ≤ k
theorem Went.same {w w' : World} {db : Nat} {S : Nat → Prop} {d : Dk} (h : Disky w db S d) (t : Touch (fun _ => False) w w') : Went w w' db S d := ⟨S, h.keep t (fun _ _ h => h), t.mono (fun _ h => h.elim), fun k hk => .inl hk⟩
theorem Went.mk' {w w' : World} {db : Nat} {S : Nat → Prop} {mv mv' : Value} {fl fl' : List Fl} {d' : Dk} (hs : ∀ k, Owns db mv fl k → S k) (h : DiskAt w' db mv' fl' d'.armed d'.fuse d'.dead) (e : fts fl' = d'.fs) (t : Touch (Owns db mv fl) w w') (ho : ∀ k, Owns db mv' fl' k → Owns db mv fl k ∨ w.heap.size ≤ k) : Went w w' db S d' :=
  ⟨Owns db mv' fl', ⟨⟨mv', fl', h, e, fun k hk => hk⟩, h.toDiskU.lt⟩, t.mono hs, fun k hk => (ho k hk).imp (hs k) id⟩

/-- Append. -/
def apF (l : List Ft) (s : ByteArray) (t : List Nat) : List Ft :=
  match ftOf l s with
  | some f => swapF l { f with text := f.text ++ t }
  | none => ⟨s, t, 0⟩ :: l
/-- It is refused so. -/
def apR (d : Dk) (s : ByteArray) (n : Nat) : Nat :=
  if findE d.dead d.fs s ≠ 0 ∧ findE d.dead d.fs s ≠ 4 then findE d.dead d.fs s else if 4194304 < usedF d.fs + n ∨ (findE d.dead d.fs s = 4 ∧ 4096 ≤ d.fs.length) then 3 else 0
def apE (d : Dk) (s : ByteArray) (n : Nat) : Nat := if apR d s n ≠ 0 then apR d s n else if burnD d.armed d.fuse n d.dead then 9 else 0
def apD (d : Dk) (s : ByteArray) (b : List Nat) : Dk :=
  if apR d s b.length ≠ 0 then d else ⟨apF d.fs s (b.take (burnN d.armed d.fuse b.length)), d.armed, burnF d.armed d.fuse b.length, burnD d.armed d.fuse b.length d.dead⟩

theorem step_row5 {ops : Array Oper} {o : Oper} {a : Act} {w : World} {K : Act → World → Prop} {Q : Exit → Act → World → Prop} {E : Prop}
    (hg : o.guard = none) (s x : Operand) (hop : o.op = Op.call { callee := Callee.builtin Builtin.append, args := #[s, x], argTypes := #[23, 23] })
    (v : Value) (l : List Nat) (hs : a.eval s = v) (hr : Row w v l) (ao : Option Addr) (c : Nat) (l2 : List Nat) (hx : a.eval x = .slice ao l2.length c) (hb : LAt w ao l2) (hnone : ao = none → c = 0) (hlen : l.length + l2.length ≤ 140737488355328)
    (hK : ∀ v' w', Row w' v' (l ++ l2) → Touch (fun k => v.ownBlock = some k) w w' → Moved w v v' → K (a.put o.dst v') w') :
    if Region.wanted o (yielded ops a.tmps) = true then Oper.wp Tryz.prog o a w K Q else E := by
  have hw : Region.wanted o (yielded ops a.tmps) = true := by simp [Region.wanted, hg]
  rw [if_pos hw]
  obtain ⟨i, hi, hz, hsz, hby⟩ := u8_info
  obtain ⟨v', w', hrun, r1, r2, r3⟩ := run_app (P := Tryz.prog) w 23 o.type 5 i (.int .u8 0) 1 Tryz.underlying23 hi hz hsz hby rfl v (vals l) hr.own ao l2.length c (vals l2) (vals_len l2) (src_vals hb) (one_vals l2) hnone (by rw [vals_len]; unfold maxLen; omega) (by rw [vals_len]; omega)
  unfold Oper.wp
  simp [execOp, hop, resolve, invoke, builtin, hs, hx, hrun, Result.andThen]
  exact hK v' w' ⟨by rw [← vals_app]; exact r1, fun y hy => by rcases List.mem_append.1 hy with h | h; exact hr.bytes y h; exact hb.bytes y h⟩ r2 r3

section
variable {w : World} {db : Nat} {mv : Value} {fl : List Fl} {armed dead : Bool} {fuse : Int} {f : Fl}

/-- The bytes are behind the file's others: all that is written. -/
theorem append_done (h : DiskAt w db mv fl armed fuse dead) (hf : f ∈ fl) {w3 : World} {v3 : Value} {t : List Nat} (r3 : Row w3 v3 (f.text ++ t)) (t3 : Touch (fun k => f.v.ownBlock = some k) w w3) (m3 : Moved w f.v v3) (hroom : usedF (fts fl) + t.length ≤ 4194304) :
    DiskAt ((w3.setCell ⟨f.fb, 0, none⟩ v3).setCell ⟨db, 1, none⟩ (.int .i64 ((usedF (fts fl) + t.length : Nat) : Int))) db mv (swap fl { f with v := v3, text := f.text ++ t }) armed fuse dead ∧
    Touch (Owns db mv fl) w ((w3.setCell ⟨f.fb, 0, none⟩ v3).setCell ⟨db, 1, none⟩ (.int .i64 ((usedF (fts fl) + t.length : Nat) : Int))) ∧
    ∀ k, Owns db mv (swap fl { f with v := v3, text := f.text ++ t }) k → Owns db mv fl k ∨ w.heap.size ≤ k := by
  have hat := h.each f hf
  have hfb3 : w3.heap[f.fb]? = some (.cells #[f.v, .int .i64 (f.last : Nat)] 77) := t3.keep hat.heap (fun e => hat.row_ne _ e rfl)
  have hdb3 := t3.keep h.heap (fun e => h.row_ne_db hf _ e rfl)
  have hmv : ∀ k, v3.ownBlock = some k → f.v.ownBlock = some k ∨ w.heap.size ≤ k := m3
  have hne := h.db_ne hf
  have tt : Touch (fun k => k = db ∨ k = f.fb ∨ f.v.ownBlock = some k) w ((w3.setCell ⟨f.fb, 0, none⟩ v3).setCell ⟨db, 1, none⟩ (.int .i64 ((usedF (fts fl) + t.length : Nat) : Int))) :=
    ((t3.mono (fun k hk => .inr (.inr hk))).trans ((touch_set w3 f.fb 0 v3).mono (fun k hk => .inr (.inl hk)))).trans ((touch_set _ db 1 _).mono (fun k hk => .inl hk))
  have hu : usedF (fts (swap fl { f with v := v3, text := f.text ++ t })) = usedF (fts fl) + t.length := by
    have := used_swapF (f' := (⟨f.nm, f.text ++ t, f.last⟩ : Ft)) (apart_names h.apart) (List.mem_map.2 ⟨f, hf, rfl⟩ : f.toFt ∈ fts fl) rfl
    rw [fts_swap]
    simp only [List.length_append] at this ⊢
    omega
  have rowne : ∀ k, v3.ownBlock = some k → k ≠ f.fb ∧ k ≠ db := fun k hk => by
    rcases hmv k hk with e | e
    · exact ⟨hat.row_ne k e, h.row_ne_db hf k e⟩
    · have h1 := lt_of_heap hat.heap
      have h2 := lt_of_heap h.heap
      omega
  refine ⟨⟨h.toDiskU.change (f' := { f with v := v3, text := f.text ++ t }) hf rfl rfl ⟨?_, ?_, ?_, hat.name⟩ tt hmv ?_, by rw [hu]; exact hroom, by rw [swap_len]; exact h.few, h.lo, h.hi, h.arm⟩, tt.mono ?_, owns_swap (f' := { f with v := v3, text := f.text ++ t }) h.apart hf rfl rfl hmv⟩
  · refine (touch_set _ db 1 _).keep ?_ hne
    exact heap_set hfb3 0 v3
  · exact (r3.keep (touch_set w3 f.fb 0 v3) (fun k hk e => (rowne k hk).1 e)).keep (touch_set _ db 1 _) (fun k hk e => (rowne k hk).2 e)
  · show f.last ≤ (f.text ++ t).length
    rw [List.length_append]; have := hat.last; omega
  · rw [hu]
    exact heap_set ((touch_set w3 f.fb 0 v3).keep hdb3 (fun e => hne e.symm)) 1 _
  · rintro k (e | e | e)
    · exact .inl e
    · exact .inr (.inr ⟨f, hf, .inl e⟩)
    · exact .inr (.inr ⟨f, hf, .inr e⟩)
end

section
variable {w : World} {db : Nat} {S : Nat → Prop} {d : Dk} {s : ByteArray} {a : Option Addr} {cap : Nat} {b : List Nat}

theorem findE_le (dead : Bool) (l : List Ft) (s : ByteArray) : findE dead l s = 0 ∨ findE dead l s = 4 ∨ findE dead l s = 9 ∨ findE dead l s = 1 := by
  unfold findE
  cases dead
  · cases okName s
    · right; right; right; rfl
    · simp only [if_true, Bool.false_eq_true, if_false]
      by_cases h : (ftOf l s).isSome = true
      · rw [if_pos h]; exact .inl rfl
      · rw [if_neg h]; exact .inr (.inl rfl)
  · right; right; left; rfl
theorem find_zero {dead : Bool} {fl : List Fl} {s : ByteArray} (h : findE dead (fts fl) s = 0) : dead = false ∧ okName s = true ∧ ∃ f ∈ fl, f.nm = s ∧ fileOf fl s = some f ∧ findG dead fl s = some f.fb := by
  unfold findE at h
  cases dead
  · cases hn : okName s
    · rw [hn] at h; simp at h
    · rw [hn] at h
      simp only [if_true, Bool.false_eq_true, if_false] at h
      rw [ft_fileOf, Option.isSome_map] at h
      cases hf : fileOf fl s with
      | none => rw [hf] at h; simp at h
      | some f =>
        obtain ⟨h1, h2⟩ := fileOf_some hf
        refine ⟨rfl, rfl, f, h1, h2, rfl, ?_⟩
        unfold findG
        rw [hf, hn]; rfl
  · simp at h
theorem find_four {dead : Bool} {fl : List Fl} {s : ByteArray} (h : findE dead (fts fl) s = 4) : dead = false ∧ okName s = true ∧ fileOf fl s = none ∧ findG dead fl s = none := by
  unfold findE at h
  cases dead
  · cases hn : okName s
    · rw [hn] at h; simp at h
    · rw [hn] at h
      simp only [if_true, Bool.false_eq_true, if_false] at h
      rw [ft_fileOf, Option.isSome_map] at h
      cases hf : fileOf fl s with
      | none => exact ⟨rfl, rfl, rfl, by unfold findG; rw [hf, hn]; rfl⟩
      | some f => rw [hf] at h; simp at h
  · simp at h

theorem used_mem {l : List Ft} {f : Ft} (hf : f ∈ l) : f.text.length ≤ usedF l := by
  induction l with
  | nil => cases hf
  | cons x r ih =>
    rw [used_cons]
    rcases List.mem_cons.1 hf with e | e
    · subst e; omega
    · have := ih e; omega
/-- The last steps of Append. -/
def ApTo (w w' : World) (db : Nat) (mv : Value) (fl : List Fl) (armed : Bool) (fuse : Int) (dead : Bool) (f : Fl) (t : List Nat) : Prop :=
  ∃ v3, DiskAt w' db mv (swap fl { f with v := v3, text := f.text ++ t }) armed fuse dead ∧ Touch (Owns db mv fl) w w' ∧ ∀ k, Owns db mv (swap fl { f with v := v3, text := f.text ++ t }) k → Owns db mv fl k ∨ w.heap.size ≤ k

set_option maxRecDepth 100000 in
set_option maxHeartbeats 2000000 in
theorem dappend_any (h : Disky w db S d) (hs : s.size ≤ maxLen) (hb : LAt w a b) (hn : a = none → cap = 0) (hc : b.length ≤ cap) (hd : 0 < b.length → ∀ x, a = some x → ¬ S x.block) :
    Calls Tryz.prog 11 #[.pointer (some ⟨db, 0, none⟩), .string s, .slice a b.length cap] w fun e w' => e = .returned (.int .i64 (apE d s b.length : Nat)) ∧ Went w w' db S (apD d s b) := by
  have HW := hide (Went.same h (Touch.refl _ w))
  obtain ⟨⟨mv, fl, h1, h2, h3⟩, hlt⟩ := h
  obtain ⟨fs, armed, fuse, dead⟩ := d
  simp only at h1 h2
  subst h2
  have FD := hide (find_any h1 hs)
  have hfe := findE_le dead (fts fl) s
  by_cases hR : findE dead (fts fl) s ≠ 0 ∧ findE dead (fts fl) s ≠ 4
  · have e1 : apR ⟨fts fl, armed, fuse, dead⟩ s b.length = findE dead (fts fl) s := by unfold apR; rw [if_pos hR]
    have e2 : apE ⟨fts fl, armed, fuse, dead⟩ s b.length = findE dead (fts fl) s := by unfold apE; rw [e1, if_pos hR.1]
    have e3 : apD ⟨fts fl, armed, fuse, dead⟩ s b = ⟨fts fl, armed, fuse, dead⟩ := by unfold apD; rw [e1, if_pos hR.1]
    rw [e2, e3]
    clear e1 e2 e3 h1 hb hd
    generalize findE dead (fts fl) s = E at *
    generalize findG dead fl s = G at *
    have q1 : ((E : Int) != 0) = true := by rw [bne_iff_ne]; omega
    have q2 : ((E : Int) != 4) = true := by rw [bne_iff_ne]; omega
    cases G <;> simp only [ptrV] at FD
    all_goals
      go_enter Tryz.func11, Tryz.ntmps11
      go_wp2_with fail
      refine (unhide FD).mono ?_
      rintro e w1 ⟨rfl, rfl⟩
      go_wp2
      go_returns
      exact ⟨rfl, unhide HW⟩
  · have c1 : w.cell? ⟨db, 1, none⟩ = some (.int .i64 (usedF (fts fl) : Nat)) := h1.cell 1
    have c0 : w.cell? ⟨db, 0, none⟩ = some mv := h1.cell 0
    have hlen := h1.toDiskU.len 3
    have hus := h1.used
    have hfw := h1.few
    have e1 : apR ⟨fts fl, armed, fuse, dead⟩ s b.length = if 4194304 < usedF (fts fl) + b.length ∨ (findE dead (fts fl) s = 4 ∧ 4096 ≤ (fts fl).length) then 3 else 0 := by unfold apR; rw [if_neg hR]
    rw [List.length_map] at e1
    by_cases hfull : 4194304 < usedF (fts fl) + b.length ∨ (findE dead (fts fl) s = 4 ∧ 4096 ≤ fl.length)
    · rw [if_pos hfull] at e1
      have e2 : apE ⟨fts fl, armed, fuse, dead⟩ s b.length = 3 := by unfold apE; rw [e1]; rfl
      have e3 : apD ⟨fts fl, armed, fuse, dead⟩ s b = ⟨fts fl, armed, fuse, dead⟩ := by unfold apD; rw [e1]; rfl
      rw [e2, e3]
      have hg4 : findE dead (fts fl) s = 4 → findG dead fl s = none := fun h => (find_four h).2.2.2
      have hg0 : findE dead (fts fl) s = 0 → ∃ g, findG dead fl s = some g := fun h => by obtain ⟨_, _, f, _, _, _, e⟩ := find_zero h; exact ⟨_, e⟩
      clear e1 e2 e3 h1 hb hd
      generalize findE dead (fts fl) s = E at *
      generalize findG dead fl s = G at *
      generalize usedF (fts fl) = U at *
      by_cases hbig : 4194304 < U + b.length
      · have hbig' : 4194304 - (U : Int) < (b.length : Int) := by omega
        have hE : E = 0 ∨ E = 4 := by omega
        rcases hE with rfl | rfl
        · obtain ⟨g, rfl⟩ := hg0 rfl
          simp only [ptrV] at FD
          go_enter Tryz.func11, Tryz.ntmps11
          go_wp2_with fail
          refine (unhide FD).mono ?_
          rintro e w1 ⟨rfl, rfl⟩
          go_wp2
          go_returns
          exact ⟨rfl, unhide HW⟩
        · rw [hg4 rfl] at FD
          simp only [ptrV] at FD
          go_enter Tryz.func11, Tryz.ntmps11
          go_wp2_with fail
          refine (unhide FD).mono ?_
          rintro e w1 ⟨rfl, rfl⟩
          go_wp2
          go_returns
          exact ⟨rfl, unhide HW⟩
      · have hbig' : ¬ 4194304 - (U : Int) < (b.length : Int) := by omega
        obtain ⟨rfl, h46⟩ : E = 4 ∧ 4096 ≤ fl.length := by omega
        have h46' : (4096 : Int) ≤ (fl.length : Int) := by omega
        rw [hg4 rfl] at FD
        simp only [ptrV] at FD
        go_enter Tryz.func11, Tryz.ntmps11
        go_wp2_with fail
        refine (unhide FD).mono ?_
        rintro e w1 ⟨rfl, rfl⟩
        go_wp2
        go_returns
        exact ⟨rfl, unhide HW⟩
    · rw [if_neg hfull] at e1
      have hbig : usedF (fts fl) + b.length ≤ 4194304 := by omega
      have hbig' : ¬ 4194304 - (usedF (fts fl) : Int) < (b.length : Int) := by omega
      have HB := hide hb
      have HD := hide hd
      clear hb hd HW
      have hE : findE dead (fts fl) s = 0 ∨ findE dead (fts fl) s = 4 := by omega
      obtain rfl : dead = false := by
        rcases hE with hE | hE
        · exact (find_zero hE).1
        · exact (find_four hE).1
      have hbn := burnN_le armed fuse b.length
      have htl : (b.take (burnN armed fuse b.length)).length = burnN armed fuse b.length := by rw [List.length_take]; omega
      have hsl := slice_h a b.length cap (burnN armed fuse b.length) (by omega)
      have EA : apD ⟨fts fl, armed, fuse, false⟩ s b = ⟨apF (fts fl) s (b.take (burnN armed fuse b.length)), armed, burnF armed fuse b.length, burnD armed fuse b.length false⟩ ∧ apE ⟨fts fl, armed, fuse, false⟩ s b.length = if burnD armed fuse b.length false = true then 9 else 0 := by
        refine ⟨?_, ?_⟩
        · unfold apD; rw [e1, if_neg (by simp)]
        · unfold apE; rw [e1, if_neg (by simp)]
      rw [EA.1, EA.2]
      clear EA e1
      have BU : Hid (∀ w1 mv1 fl1, DiskAt w1 db mv1 fl1 armed fuse false → Calls Tryz.prog 37 #[.pointer (some ⟨db, 0, none⟩), .int .i64 (b.length : Nat)] w1 fun e w' => e = .returned (.int .i64 (burnN armed fuse b.length : Nat)) ∧ DiskAt w' db mv1 fl1 armed (burnF armed fuse b.length) (burnD armed fuse b.length false) ∧ Touch (· = db) w1 w') := fun w1 mv1 fl1 hh => burn_any hh b.length (by omega)
      generalize burnD armed fuse b.length false = dd at *
      generalize burnF armed fuse b.length = ff at *
      generalize burnN armed fuse b.length = n at *
      generalize hT : b.take n = T at *
      have LB1 : Hid (∀ w1, LAt w1 a b → LAt w1 a T) := fun w1 hh => by rw [← hT]; exact hh.take n
      clear hT
      subst htl
      obtain ⟨er, her⟩ : ∃ er : Nat, er = if dd = true then 9 else 0 := ⟨_, rfl⟩
      have WKE : Hid (∀ w1 mv1 fl1, DiskAt w1 db mv1 fl1 armed ff dd → Calls Tryz.prog 38 #[.pointer (some ⟨db, 0, none⟩)] w1 fun e w' => e = .returned (.int .i64 (er : Nat)) ∧ w' = w1) := fun w1 mv1 fl1 hh => by
        have := working_any hh
        have e : ((if dd = true then 9 else 0 : Int)) = (er : Int) := by rw [her]; cases dd <;> rfl
        rw [e] at this
        exact this
      rw [← her]
      clear her
      rcases hE with hE | hE
      · obtain ⟨_, hnm, f, hf, rfl, hfo, hG⟩ := find_zero hE
        have EF : apF (fts fl) f.nm T = swapF (fts fl) { f.toFt with text := f.text ++ T } := by
          unfold apF; rw [ft_fileOf, hfo]; rfl
        rw [EF]
        rw [hE, hG] at FD
        have D1 := hide h1
        have T1 : Hid (Touch (Owns db mv fl) w w) := Touch.refl _ _
        clear h1 hfull hR hfe hE hG hfo EF
        simp only [ptrV] at FD
        go_enter Tryz.func11, Tryz.ntmps11
        go_wp2_with fail
        refine (unhide FD).mono ?_
        rintro e w1 ⟨rfl, rfl⟩
        have LBW := hide ((unhide HB).keep (unhide T1) (fun h0 x hx e => unhide HD h0 x hx (h3 _ e)))
        go_wp2_with fail
        refine (unhide BU _ _ _ (unhide D1)).mono ?_
        rintro e w2 ⟨rfl, d2, t2⟩
        have T2 := hide t2
        have hat := d2.each f hf
        have LB2 : Hid (LAt w2 a T) := by
          refine (unhide LB1 _ (unhide LBW)).keep t2 (fun h0 x hx e => ?_)
          exact unhide HD (by have := hbn; omega) x hx (by rw [e]; exact h3 _ (.inl rfl))
        obtain ⟨av, cv, ev, _⟩ := hat.row.parts
        have x0 : w2.cell? ⟨f.fb, 0, none⟩ = some (.slice av f.text.length cv) := by rw [← ev]; exact hat.cell0
        have y0 := hat.frozen 0
        have RF : Hid (Row w2 (.slice av f.text.length cv) f.text) := by rw [← ev]; exact hat.row
        have hfu : f.text.length ≤ usedF (fts fl) := used_mem (List.mem_map.2 ⟨f, hf, rfl⟩ : f.toFt ∈ fts fl)
        have AD : Hid (∀ w3 v3, Row w3 v3 (f.text ++ T) → Touch (fun k => (Value.slice av f.text.length cv).ownBlock = some k) w2.drew w3 → Moved w2.drew (.slice av f.text.length cv) v3 → DiskAt ((w3.setCell ⟨f.fb, 0, none⟩ v3).setCell ⟨db, 1, none⟩ (.int .i64 ((usedF (fts fl) : Int) + (T.length : Int)))) db mv (swap fl { f with v := v3, text := f.text ++ T }) armed ff dd ∧ Touch (Owns db mv fl) w2 ((w3.setCell ⟨f.fb, 0, none⟩ v3).setCell ⟨db, 1, none⟩ (.int .i64 ((usedF (fts fl) : Int) + (T.length : Int)))) ∧ ∀ k, Owns db mv (swap fl { f with v := v3, text := f.text ++ T }) k → Owns db mv fl k ∨ w2.heap.size ≤ k) := by
          intro w3 v3 r3 t3 m3
          rw [← ev] at t3 m3
          exact append_done d2 hf r3 ((Touch.refl _ w2).drew.trans t3) m3 (by omega)
        have HROOM : Hid (f.text.length + T.length ≤ 140737488355328) := by show f.text.length + T.length ≤ 140737488355328; omega
        have KC : Hid (∀ w3, Touch (fun k => (Value.slice av f.text.length cv).ownBlock = some k) w2.drew w3 → w3.cell? ⟨f.fb, 0, none⟩ = some (.slice av f.text.length cv) ∧ w3.frozen? ⟨f.fb, 0, none⟩ = false ∧ w3.cell? ⟨db, 1, none⟩ = some (.int .i64 (usedF (fts fl) : Nat)) ∧ w3.frozen? ⟨db, 1, none⟩ = false ∧ w3.cell? ⟨db, 4, none⟩ = some (.bool dd)) := by
          intro w3 t3
          have g1 := t3.keep (w := w2.drew) hat.heap (fun e => hat.row_ne _ (by rw [ev]; exact e) rfl)
          have g2 := t3.keep (w := w2.drew) d2.heap (fun e => d2.row_ne_db hf _ (by rw [ev]; exact e) rfl)
          rw [ev] at g1
          exact ⟨cell_of g1 0, frozen_of g1 0, cell_of g2 1, frozen_of g2 1, cell_of g2 4⟩
        have HNE : Hid (db ≠ f.fb) := fun e => d2.db_ne hf e.symm
        clear d2 t2 hat ev BU
        go_wp2_with fail
        go_region_law (first | (refine step_row5 rfl (.tmp 56) (.tmp 59) rfl (.slice av f.text.length cv) f.text (by simp [Act.eval]) ⟨(unhide RF).own, (unhide RF).bytes⟩ a cap T (by simp [Act.eval]) (unhide LB2) hn (unhide HROOM) ?_; intro v3 w3 r3 t3 m3; obtain ⟨g1, g2, g3, g4, g5⟩ := unhide KC w3 t3; obtain ⟨a3, n3, c3, rfl⟩ := r3.shape))
        all_goals
          obtain ⟨dA, tA, oA⟩ := unhide AD w3 (.slice a3 n3 c3) r3 t3 m3
          have WK := hide (unhide WKE _ _ _ dA)
          have WT : Hid (Went w1 ((w3.setCell ⟨f.fb, 0, none⟩ (.slice a3 n3 c3)).setCell ⟨db, 1, none⟩ (.int .i64 ((usedF (fts fl) : Int) + (T.length : Int)))) db S ⟨swapF (fts fl) { f.toFt with text := f.text ++ T }, armed, ff, dd⟩) := Went.mk' (mv := mv) (fl := fl) h3 dA (by rw [fts_swap]) ((unhide T1).trans (((unhide T2).mono (fun k hk => .inl hk)).trans tA)) (fun k hk => (oA k hk).imp id (fun e => Nat.le_trans (unhide T2).size e))
          have g6 : (w3.setCell ⟨f.fb, 0, none⟩ (.slice a3 n3 c3)).cell? ⟨db, 1, none⟩ = some (.int .i64 (usedF (fts fl) : Nat)) := by
            rw [World.cell?_of_block (w := w3) (a := ⟨db, 1, none⟩) (Below.heap_setCell _ _ _ _ (unhide HNE))]; exact g3
          have g7 : (w3.setCell ⟨f.fb, 0, none⟩ (.slice a3 n3 c3)).frozen? ⟨db, 1, none⟩ = false := by
            unfold World.frozen? at g4 ⊢
            rw [Below.heap_setCell _ _ _ _ (unhide HNE)]; exact g4
          have hsum : IntKind.i64.wrap ((usedF (fts fl) : Int) + (T.length : Int)) = (usedF (fts fl) : Int) + (T.length : Int) := by simp [IntKind.wrap, IntKind.bits, IntKind.signed]; omega
          clear dA tA oA r3 t3 m3 g1 g2 g3 g4 AD KC RF x0 y0
          generalize w3.setCell ⟨f.fb, 0, none⟩ (.slice a3 n3 c3) = w4 at *
          go_wp2_with fail
          refine (unhide WK).mono ?_
          rintro e w5 ⟨rfl, rfl⟩
          go_wp2
          go_returns
          exact ⟨rfl, unhide WT⟩
      · obtain ⟨_, hnm, hfo, hG⟩ := find_four hE
        have EF : apF (fts fl) s T = ⟨s, T, 0⟩ :: fts fl := by unfold apF; rw [ft_fileOf, hfo]; rfl
        rw [EF]
        have hfew : fl.length < 4096 := by omega
        have hfew' : ¬ (4096 : Int) ≤ (fl.length : Int) := by omega
        have ADD := hide (add_any h1 hnm hfo hfew)
        have HNN : Hid (∀ g ∈ fl, g.nm ≠ s) := fun g hg e => by
          unfold fileOf at hfo
          rw [List.find?_eq_none] at hfo
          exact hfo g hg (by simp [e])
        rw [hE, hG] at FD
        clear h1 hfull hR hfe hE hG hfo EF
        simp only [ptrV] at FD
        go_enter Tryz.func11, Tryz.ntmps11
        go_wp2_with fail
        refine (unhide FD).mono ?_
        rintro e w0 ⟨rfl, rfl⟩
        go_wp2_with fail
        refine (unhide ADD).mono ?_
        rintro e w1 ⟨mv1, f, rfl, hft, d1, t1, o1⟩
        obtain ⟨fl1, hfl1⟩ : ∃ fl1, fl1 = f :: fl := ⟨_, rfl⟩
        rw [← hfl1] at d1 o1
        have hf : f ∈ fl1 := by rw [hfl1]; exact List.mem_cons_self ..
        have hu1 : usedF (fts fl1) = usedF (fts fl) := by
          rw [hfl1]
          show usedF (f.toFt :: fts fl) = _
          rw [used_cons, hft]; simp
        have hbig1 : usedF (fts fl1) + b.length ≤ 4194304 := by omega
        have hus1 : usedF (fts fl1) ≤ 4194304 := by omega
        have EFS : Hid (∀ v3, fts (swap fl1 { f with v := v3, text := f.text ++ T }) = ⟨s, T, 0⟩ :: fts fl) := by
          intro v3
          have hfn : f.nm = s := by have := congrArg Ft.nm hft; exact this
          have hftx : f.text = [] := by have := congrArg Ft.text hft; exact this
          have hfl : f.last = 0 := by have := congrArg Ft.last hft; exact this
          rw [hfl1]
          unfold fts swap
          rw [List.map_cons, List.map_cons]
          have e2 : List.map Fl.toFt (List.map (fun g => if g.nm = f.nm then ({ f with v := v3, text := f.text ++ T } : Fl) else g) fl) = fts fl := by
            rw [List.map_map]
            apply List.map_congr_left
            intro g hg
            show (if g.nm = f.nm then ({ f with v := v3, text := f.text ++ T } : Fl) else g).toFt = g.toFt
            rw [if_neg (by rw [hfn]; exact unhide HNN g hg)]
          refine congr (congrArg List.cons ?_) e2
          show (if f.nm = f.nm then ({ f with v := v3, text := f.text ++ T } : Fl) else f).toFt = _
          rw [if_pos rfl]
          show ({ nm := f.nm, text := f.text ++ T, last := f.last } : Ft) = _
          rw [hfn, hftx, hfl]; rfl
        have D1 := hide d1
        have T1 := hide t1
        have O1 := hide o1
        clear d1 t1 o1 hu1 hfl1 hft ADD hbig hus c0 c1 hlen
        have LBW := hide ((unhide HB).keep (unhide T1) (fun h0 x hx e => unhide HD h0 x hx (h3 _ e)))
        go_wp2_with fail
        refine (unhide BU _ _ _ (unhide D1)).mono ?_
        rintro e w2 ⟨rfl, d2, t2⟩
        have T2 := hide t2
        have hat := d2.each f hf
        have LB2 : Hid (LAt w2 a T) := by
          refine (unhide LB1 _ (unhide LBW)).keep t2 (fun h0 x hx e => ?_)
          exact unhide HD (by have := hbn; omega) x hx (by rw [e]; exact h3 _ (.inl rfl))
        obtain ⟨av, cv, ev, _⟩ := hat.row.parts
        have x0 : w2.cell? ⟨f.fb, 0, none⟩ = some (.slice av f.text.length cv) := by rw [← ev]; exact hat.cell0
        have y0 := hat.frozen 0
        have RF : Hid (Row w2 (.slice av f.text.length cv) f.text) := by rw [← ev]; exact hat.row
        have hfu : f.text.length ≤ usedF (fts fl1) := used_mem (List.mem_map.2 ⟨f, hf, rfl⟩ : f.toFt ∈ fts fl1)
        have AD : Hid (∀ w3 v3, Row w3 v3 (f.text ++ T) → Touch (fun k => (Value.slice av f.text.length cv).ownBlock = some k) w2.drew w3 → Moved w2.drew (.slice av f.text.length cv) v3 → DiskAt ((w3.setCell ⟨f.fb, 0, none⟩ v3).setCell ⟨db, 1, none⟩ (.int .i64 ((usedF (fts fl1) : Int) + (T.length : Int)))) db mv1 (swap fl1 { f with v := v3, text := f.text ++ T }) armed ff dd ∧ Touch (Owns db mv1 fl1) w2 ((w3.setCell ⟨f.fb, 0, none⟩ v3).setCell ⟨db, 1, none⟩ (.int .i64 ((usedF (fts fl1) : Int) + (T.length : Int)))) ∧ ∀ k, Owns db mv1 (swap fl1 { f with v := v3, text := f.text ++ T }) k → Owns db mv1 fl1 k ∨ w2.heap.size ≤ k) := by
          intro w3 v3 r3 t3 m3
          rw [← ev] at t3 m3
          exact append_done d2 hf r3 ((Touch.refl _ w2).drew.trans t3) m3 (by omega)
        have HROOM : Hid (f.text.length + T.length ≤ 140737488355328) := by show f.text.length + T.length ≤ 140737488355328; omega
        have KC : Hid (∀ w3, Touch (fun k => (Value.slice av f.text.length cv).ownBlock = some k) w2.drew w3 → w3.cell? ⟨f.fb, 0, none⟩ = some (.slice av f.text.length cv) ∧ w3.frozen? ⟨f.fb, 0, none⟩ = false ∧ w3.cell? ⟨db, 1, none⟩ = some (.int .i64 (usedF (fts fl1) : Nat)) ∧ w3.frozen? ⟨db, 1, none⟩ = false ∧ w3.cell? ⟨db, 4, none⟩ = some (.bool dd)) := by
          intro w3 t3
          have g1 := t3.keep (w := w2.drew) hat.heap (fun e => hat.row_ne _ (by rw [ev]; exact e) rfl)
          have g2 := t3.keep (w := w2.drew) d2.heap (fun e => d2.row_ne_db hf _ (by rw [ev]; exact e) rfl)
          rw [ev] at g1
          exact ⟨cell_of g1 0, frozen_of g1 0, cell_of g2 1, frozen_of g2 1, cell_of g2 4⟩
        have HNE : Hid (db ≠ f.fb) := fun e => d2.db_ne hf e.symm
        clear d2 t2 hat ev BU
        go_wp2_with fail
        go_region_law (first | (refine step_row5 rfl (.tmp 56) (.tmp 59) rfl (.slice av f.text.length cv) f.text (by simp [Act.eval]) ⟨(unhide RF).own, (unhide RF).bytes⟩ a cap T (by simp [Act.eval]) (unhide LB2) hn (unhide HROOM) ?_; intro v3 w3 r3 t3 m3; obtain ⟨g1, g2, g3, g4, g5⟩ := unhide KC w3 t3; obtain ⟨a3, n3, c3, rfl⟩ := r3.shape))
        all_goals
          obtain ⟨dA, tA, oA⟩ := unhide AD w3 (.slice a3 n3 c3) r3 t3 m3
          have WK := hide (unhide WKE _ _ _ dA)
          have WT : Hid (Went w0 ((w3.setCell ⟨f.fb, 0, none⟩ (.slice a3 n3 c3)).setCell ⟨db, 1, none⟩ (.int .i64 ((usedF (fts fl1) : Int) + (T.length : Int)))) db S ⟨⟨s, T, 0⟩ :: fts fl, armed, ff, dd⟩) := Went.mk' (mv := mv) (fl := fl) h3 dA (unhide EFS _) (touch_more ((unhide T1).trans ((unhide T2).mono (fun k hk => .inl hk))) tA (fun k hk => unhide O1 k hk)) (fun k hk => by rcases oA k hk with e | e; exact unhide O1 k e; exact .inr (Nat.le_trans (unhide T1).size (Nat.le_trans (unhide T2).size e)))
          have g6 : (w3.setCell ⟨f.fb, 0, none⟩ (.slice a3 n3 c3)).cell? ⟨db, 1, none⟩ = some (.int .i64 (usedF (fts fl1) : Nat)) := by
            rw [World.cell?_of_block (w := w3) (a := ⟨db, 1, none⟩) (Below.heap_setCell _ _ _ _ (unhide HNE))]; exact g3
          have g7 : (w3.setCell ⟨f.fb, 0, none⟩ (.slice a3 n3 c3)).frozen? ⟨db, 1, none⟩ = false := by
            unfold World.frozen? at g4 ⊢
            rw [Below.heap_setCell _ _ _ _ (unhide HNE)]; exact g4
          have hsum : IntKind.i64.wrap ((usedF (fts fl1) : Int) + (T.length : Int)) = (usedF (fts fl1) : Int) + (T.length : Int) := by simp [IntKind.wrap, IntKind.bits, IntKind.signed]; omega
          clear dA tA oA r3 t3 m3 g1 g2 g3 g4 AD KC RF x0 y0
          generalize w3.setCell ⟨f.fb, 0, none⟩ (.slice a3 n3 c3) = w4 at *
          go_wp2_with fail
          refine (unhide WK).mono ?_
          rintro e w5 ⟨rfl, rfl⟩
          go_wp2
          go_returns
          exact ⟨rfl, unhide WT⟩
end
end Go.Proofs.YtkcoeofbobkaoabGreatDoor


/-
  Sync, Read, Size, Remove, Arm, Dead and New of a disk. Conditions: names are at most 2^62 bytes.
-/
namespace Go.Proofs.YtkcoeofbobkaoabGreatDoor
open Go.RowKit Go.Maps
set_option linter.unusedVariables false

theorem dnew_any (w : World) :
    Calls Tryz.prog 5 #[] w fun e w' => e = .returned (.pointer (some ⟨w.heap.size, 0, none⟩)) ∧ Went w w' w.heap.size (fun _ => False) ⟨[], false, 0, false⟩ := by
  have F : Hid (Went w (w.alloc (.cells #[.map none, .int .i64 0, .bool false, .int .i64 0, .bool false] 58)) w.heap.size (fun _ => False) ⟨[], false, 0, false⟩) := by
    refine ⟨fun k => k = w.heap.size, ⟨⟨.map none, [], ⟨⟨heap_new _ _, .inl ⟨rfl, rfl⟩, (fun f hf => by cases hf), List.Pairwise.nil⟩, by simp [usedF], by simp, by simp, by simp, fun h => by cases h⟩, rfl, ?_⟩, fun k hk => by rw [hk]; simp⟩, (Touch.refl _ _).alloc _, fun k hk => .inr (by omega)⟩
    rintro k (e | e | ⟨g, hg, _⟩)
    · exact e
    · cases e
    · cases hg
  go_enter Tryz.func5, Tryz.ntmps5
  go_wp2
  go_returns
  exact ⟨rfl, unhide F⟩

section
variable {w : World} {db : Nat} {mv : Value} {fl : List Fl} {armed dead : Bool} {fuse : Int} {f : Fl}
/-- So many of a file's bytes last. -/
theorem DiskAt.lasts (h : DiskAt w db mv fl armed fuse dead) (hf : f ∈ fl) {n : Nat} (hn : n ≤ f.text.length) :
    DiskAt (w.setCell ⟨f.fb, 1, none⟩ (.int .i64 (n : Nat))) db mv (swap fl { f with last := n }) armed fuse dead ∧ Touch (Owns db mv fl) w (w.setCell ⟨f.fb, 1, none⟩ (.int .i64 (n : Nat))) ∧ ∀ k, Owns db mv (swap fl { f with last := n }) k → Owns db mv fl k ∨ w.heap.size ≤ k := by
  have hat := h.each f hf
  have hne := h.db_ne hf
  have t1 := touch_set w f.fb 1 (.int .i64 (n : Nat))
  have hu : usedF (fts (swap fl { f with last := n })) = usedF (fts fl) := by
    have := used_swapF (f' := (⟨f.nm, f.text, n⟩ : Ft)) (apart_names h.apart) (List.mem_map.2 ⟨f, hf, rfl⟩ : f.toFt ∈ fts fl) rfl
    rw [fts_swap]
    simp only at this ⊢
    omega
  refine ⟨⟨h.toDiskU.change (f' := { f with last := n }) hf rfl rfl ⟨heap_set hat.heap 1 _, hat.row.keep t1 (fun k hk e => hat.row_ne k hk e), hn, hat.name⟩ (t1.mono (fun k hk => .inr (.inl hk))) (fun k hk => .inl hk) (by rw [hu]; exact t1.keep h.heap (fun e => hne e.symm)), by rw [hu]; exact h.used, by rw [swap_len]; exact h.few, h.lo, h.hi, h.arm⟩, t1.mono (fun k hk => .inr (.inr ⟨f, hf, .inl hk⟩)), owns_swap (f' := { f with last := n }) h.apart hf rfl rfl (fun k hk => .inl hk)⟩
end

def syncF (l : List Ft) (s : ByteArray) : List Ft :=
  match ftOf l s with
  | some f => swapF l { f with last := f.text.length }
  | none => l
def syD (d : Dk) (s : ByteArray) : Dk := if findE d.dead d.fs s = 0 then { d with fs := syncF d.fs s } else d
def rdF (d : Dk) (s : ByteArray) : Ft := if findE d.dead d.fs s = 0 then (ftOf d.fs s).getD ⟨s, [], 0⟩ else ⟨s, [], 0⟩
def rmD (d : Dk) (s : ByteArray) : Dk := if findE d.dead d.fs s = 0 then { d with fs := withoutF d.fs s } else d
def armD (d : Dk) (n : Int) : Dk := if d.dead then d else { d with armed := decide (0 ≤ n), fuse := n }

section
variable {w : World} {db : Nat} {S : Nat → Prop} {d : Dk} {s : ByteArray}

set_option maxRecDepth 100000 in
theorem dsync_any (h : Disky w db S d) (hs : s.size ≤ maxLen) :
    Calls Tryz.prog 87 #[.pointer (some ⟨db, 0, none⟩), .string s] w fun e w' => e = .returned (.int .i64 (findE d.dead d.fs s : Nat)) ∧ Went w w' db S (syD d s) := by
  have HW := hide (Went.same h (Touch.refl _ w))
  obtain ⟨⟨mv, fl, h1, h2, h3⟩, hlt⟩ := h
  obtain ⟨fs, armed, fuse, dead⟩ := d
  simp only at h1 h2 ⊢
  subst h2
  have FD := hide (find_any h1 hs)
  by_cases hE : findE dead (fts fl) s = 0
  · obtain ⟨rfl, hnm, f, hf, rfl, hfo, hG⟩ := find_zero hE
    have e1 : syD ⟨fts fl, armed, fuse, false⟩ f.nm = ⟨swapF (fts fl) { f.toFt with last := f.text.length }, armed, fuse, false⟩ := by
      unfold syD syncF
      rw [if_pos hE, ft_fileOf, hfo]; rfl
    rw [e1]
    rw [hE, hG] at FD
    rw [hE]
    simp only [ptrV] at FD
    have hat := h1.each f hf
    obtain ⟨av, cv, ev, _⟩ := hat.row.parts
    have x0 : w.cell? ⟨f.fb, 0, none⟩ = some (.slice av f.text.length cv) := by rw [← ev]; exact hat.cell0
    have x1 := hat.cell1
    have y1 := hat.frozen 1
    obtain ⟨dA, tA, oA⟩ := h1.lasts hf (Nat.le_refl _)
    have WT : Hid (Went w (w.setCell ⟨f.fb, 1, none⟩ (.int .i64 (f.text.length : Nat))) db S ⟨swapF (fts fl) { f.toFt with last := f.text.length }, armed, fuse, false⟩) := Went.mk' (mv := mv) (fl := fl) h3 dA (by rw [fts_swap]) tA oA
    clear h1 dA tA oA hat ev e1 hE hG hfo HW hlt
    go_enter Tryz.func87, Tryz.ntmps87
    go_wp2_with fail
    refine (unhide FD).mono ?_
    rintro e w1 ⟨rfl, rfl⟩
    go_wp2
    go_returns
    exact ⟨rfl, unhide WT⟩
  · have e1 : syD ⟨fts fl, armed, fuse, dead⟩ s = ⟨fts fl, armed, fuse, dead⟩ := by unfold syD; rw [if_neg hE]
    rw [e1]
    clear h1 e1
    generalize findE dead (fts fl) s = E at *
    generalize findG dead fl s = G at *
    have q1 : ((E : Int) != 0) = true := by rw [bne_iff_ne]; omega
    have q2 : ¬ (E : Int) = 0 := by omega
    cases G <;> simp only [ptrV] at FD
    all_goals
      go_enter Tryz.func87, Tryz.ntmps87
      go_wp2_with fail
      refine (unhide FD).mono ?_
      rintro e w1 ⟨rfl, rfl⟩
      go_wp2
      go_returns
      exact ⟨rfl, unhide HW⟩
theorem dsync_nil (s : ByteArray) (w : World) :
    Calls Tryz.prog 87 #[.pointer none, .string s] w fun e w' => e = .returned (.int .i64 5) ∧ w' = w := by
  go_enter Tryz.func87, Tryz.ntmps87
  go_wp2_with fail
  refine (find_nil s w).mono ?_
  rintro e w1 ⟨rfl, rfl⟩
  go_wp2
  go_returns
  exact ⟨rfl, rfl⟩

set_option maxRecDepth 100000 in
theorem dread_any (h : Disky w db S d) (hs : s.size ≤ maxLen) :
    Calls Tryz.prog 95 #[.pointer (some ⟨db, 0, none⟩), .string s] w fun e w' => ∃ v, e = .returned (.tuple #[v, .int .i64 (findE d.dead d.fs s : Nat)]) ∧ Fresh5 w w' v (rdF d s).text := by
  obtain ⟨⟨mv, fl, h1, h2, h3⟩, hlt⟩ := h
  obtain ⟨fs, armed, fuse, dead⟩ := d
  simp only at h1 h2 ⊢
  subst h2
  have FD := hide (find_any h1 hs)
  by_cases hE : findE dead (fts fl) s = 0
  · obtain ⟨rfl, hnm, f, hf, rfl, hfo, hG⟩ := find_zero hE
    have e1 : (rdF ⟨fts fl, armed, fuse, false⟩ f.nm).text = f.text := by
      unfold rdF
      rw [if_pos hE, ft_fileOf, hfo]; rfl
    rw [e1]
    rw [hE, hG] at FD
    rw [hE]
    simp only [ptrV] at FD
    have hat := h1.each f hf
    have hfu : f.text.length ≤ usedF (fts fl) := used_mem (List.mem_map.2 ⟨f, hf, rfl⟩ : f.toFt ∈ fts fl)
    have hus := h1.used
    obtain ⟨av, cv, ev, lv, _, _, hnv, _⟩ := hat.row.parts
    have x0 : w.cell? ⟨f.fb, 0, none⟩ = some (.slice av f.text.length cv) := by rw [← ev]; exact hat.cell0
    have CL := hide (clone_any av f.text cv w lv hnv (by omega))
    clear h1 hat ev e1 hE hG hfo hlt lv hnv
    go_enter Tryz.func95, Tryz.ntmps95
    go_wp2_with fail
    refine (unhide FD).mono ?_
    rintro e w1 ⟨rfl, rfl⟩
    go_wp2_with fail
    refine (unhide CL).mono ?_
    rintro e w2 ⟨v2, rfl, r2, n2, b2⟩
    have F : Hid (Fresh5 w1 w2 v2 f.text) := ⟨r2, n2, b2⟩
    obtain ⟨a2, m2, c2, rfl⟩ := r2.shape
    clear r2 n2 b2 CL
    go_wp2
    go_returns
    exact ⟨_, rfl, unhide F⟩
  · have e1 : (rdF ⟨fts fl, armed, fuse, dead⟩ s).text = [] := by unfold rdF; rw [if_neg hE]
    rw [e1]
    clear h1 e1
    generalize findE dead (fts fl) s = E at *
    generalize findG dead fl s = G at *
    have q1 : ((E : Int) != 0) = true := by rw [bne_iff_ne]; omega
    have q2 : ¬ (E : Int) = 0 := by omega
    cases G <;> simp only [ptrV] at FD
    all_goals
      go_enter Tryz.func95, Tryz.ntmps95
      go_wp2_with fail
      refine (unhide FD).mono ?_
      rintro e w1 ⟨rfl, rfl⟩
      go_wp2
      go_returns
      exact ⟨_, rfl, Row.nil _, New.nil _, Below.refl _ _⟩
theorem dread_nil (s : ByteArray) (w : World) :
    Calls Tryz.prog 95 #[.pointer none, .string s] w fun e w' => e = .returned (.tuple #[.slice none 0 0, .int .i64 5]) ∧ w' = w := by
  go_enter Tryz.func95, Tryz.ntmps95
  go_wp2_with fail
  refine (find_nil s w).mono ?_
  rintro e w1 ⟨rfl, rfl⟩
  go_wp2
  go_returns
  exact ⟨rfl, rfl⟩

set_option maxRecDepth 100000 in
theorem dsize_any (h : Disky w db S d) (hs : s.size ≤ maxLen) :
    Calls Tryz.prog 13 #[.pointer (some ⟨db, 0, none⟩), .string s] w fun e w' => e = .returned (.tuple #[.int .i64 ((rdF d s).text.length : Nat), .int .i64 ((rdF d s).last : Nat), .int .i64 (findE d.dead d.fs s : Nat)]) ∧ ∃ n, w' = w.drewN n := by
  obtain ⟨⟨mv, fl, h1, h2, h3⟩, hlt⟩ := h
  obtain ⟨fs, armed, fuse, dead⟩ := d
  simp only at h1 h2 ⊢
  subst h2
  have FD := hide (find_any h1 hs)
  by_cases hE : findE dead (fts fl) s = 0
  · obtain ⟨rfl, hnm, f, hf, rfl, hfo, hG⟩ := find_zero hE
    have e1 : rdF ⟨fts fl, armed, fuse, false⟩ f.nm = f.toFt := by
      unfold rdF
      rw [if_pos hE, ft_fileOf, hfo]; rfl
    rw [e1]
    rw [hE, hG] at FD
    rw [hE]
    simp only [ptrV] at FD
    have hat := h1.each f hf
    obtain ⟨av, cv, ev, lv, _, _, hnv, _⟩ := hat.row.parts
    have x0 : w.cell? ⟨f.fb, 0, none⟩ = some (.slice av f.text.length cv) := by rw [← ev]; exact hat.cell0
    have x1 := hat.cell1
    clear h1 hat ev e1 hE hG hfo hlt lv hnv
    go_enter Tryz.func13, Tryz.ntmps13
    go_wp2_with fail
    refine (unhide FD).mono ?_
    rintro e w1 ⟨rfl, rfl⟩
    go_wp2_with fail
    go_quiet (fail)
    go_wp2
    go_returns
    exact ⟨rfl, nq, rfl⟩
  · have e1 : rdF ⟨fts fl, armed, fuse, dead⟩ s = ⟨s, [], 0⟩ := by unfold rdF; rw [if_neg hE]
    rw [e1]
    clear h1 e1
    generalize findE dead (fts fl) s = E at *
    generalize findG dead fl s = G at *
    have q1 : ((E : Int) != 0) = true := by rw [bne_iff_ne]; omega
    have q2 : ¬ (E : Int) = 0 := by omega
    cases G <;> simp only [ptrV] at FD
    all_goals
      go_enter Tryz.func13, Tryz.ntmps13
      go_wp2_with fail
      refine (unhide FD).mono ?_
      rintro e w1 ⟨rfl, rfl⟩
      go_wp2
      go_returns
      exact ⟨rfl, 0, rfl⟩
theorem dsize_nil (s : ByteArray) (w : World) :
    Calls Tryz.prog 13 #[.pointer none, .string s] w fun e w' => e = .returned (.tuple #[.int .i64 0, .int .i64 0, .int .i64 5]) ∧ w' = w := by
  go_enter Tryz.func13, Tryz.ntmps13
  go_wp2_with fail
  refine (find_nil s w).mono ?_
  rintro e w1 ⟨rfl, rfl⟩
  go_wp2
  go_returns
  exact ⟨rfl, rfl⟩

set_option maxRecDepth 100000 in
theorem dremove_any (h : Disky w db S d) (hs : s.size ≤ maxLen) :
    Calls Tryz.prog 91 #[.pointer (some ⟨db, 0, none⟩), .string s] w fun e w' => e = .returned (.int .i64 (findE d.dead d.fs s : Nat)) ∧ Went w w' db S (rmD d s) := by
  have HW := hide (Went.same h (Touch.refl _ w))
  obtain ⟨⟨mv, fl, h1, h2, h3⟩, hlt⟩ := h
  obtain ⟨fs, armed, fuse, dead⟩ := d
  simp only at h1 h2 ⊢
  subst h2
  have FD := hide (find_any h1 hs)
  by_cases hE : findE dead (fts fl) s = 0
  · obtain ⟨rfl, hnm, f, hf, rfl, hfo, hG⟩ := find_zero hE
    have e1 : rmD ⟨fts fl, armed, fuse, false⟩ f.nm = ⟨withoutF (fts fl) f.nm, armed, fuse, false⟩ := by unfold rmD; rw [if_pos hE]
    rw [e1]
    rw [hE, hG] at FD
    rw [hE]
    simp only [ptrV] at FD
    have DR := hide (drop_any h1 hs)
    have WT : Hid (∀ w', DropTo w w' db mv fl armed fuse false f.nm → Went w w' db S ⟨withoutF (fts fl) f.nm, armed, fuse, false⟩) := fun w' hd => Went.mk' (mv := mv) (fl := fl) h3 hd.1 (fts_without _ _) (hd.2.mono (fun k hk => hk.imp id .inl)) (fun k hk => .inl (owns_without k hk))
    clear h1 e1 hE hG hfo HW hlt
    go_enter Tryz.func91, Tryz.ntmps91
    go_wp2_with fail
    refine (unhide FD).mono ?_
    rintro e w1 ⟨rfl, rfl⟩
    go_wp2_with fail
    refine (unhide DR).mono ?_
    rintro e w2 ⟨rfl, hd⟩
    have WW := hide (unhide WT w2 hd)
    clear hd DR
    go_wp2
    go_returns
    exact ⟨rfl, unhide WW⟩
  · have e1 : rmD ⟨fts fl, armed, fuse, dead⟩ s = ⟨fts fl, armed, fuse, dead⟩ := by unfold rmD; rw [if_neg hE]
    rw [e1]
    clear h1 e1
    generalize findE dead (fts fl) s = E at *
    generalize findG dead fl s = G at *
    have q1 : ((E : Int) != 0) = true := by rw [bne_iff_ne]; omega
    have q2 : ¬ (E : Int) = 0 := by omega
    cases G <;> simp only [ptrV] at FD
    all_goals
      go_enter Tryz.func91, Tryz.ntmps91
      go_wp2_with fail
      refine (unhide FD).mono ?_
      rintro e w1 ⟨rfl, rfl⟩
      go_wp2
      go_returns
      exact ⟨rfl, unhide HW⟩
theorem dremove_nil (s : ByteArray) (w : World) :
    Calls Tryz.prog 91 #[.pointer none, .string s] w fun e w' => e = .returned (.int .i64 5) ∧ w' = w := by
  go_enter Tryz.func91, Tryz.ntmps91
  go_wp2_with fail
  refine (find_nil s w).mono ?_
  rintro e w1 ⟨rfl, rfl⟩
  go_wp2
  go_returns
  exact ⟨rfl, rfl⟩

theorem ddead_any (h : Disky w db S d) :
    Calls Tryz.prog 40 #[.pointer (some ⟨db, 0, none⟩)] w fun e w' => e = .returned (.bool d.dead) ∧ w' = w := by
  obtain ⟨⟨mv, fl, h1, h2, h3⟩, hlt⟩ := h
  have c4 : w.cell? ⟨db, 4, none⟩ = some (.bool d.dead) := h1.cell 4
  clear h1 h2 h3 hlt
  go_enter Tryz.func40, Tryz.ntmps40
  go_wp2
  go_returns
  exact ⟨rfl, rfl⟩
theorem ddead_nil (w : World) :
    Calls Tryz.prog 40 #[.pointer none] w fun e w' => e = .returned (.bool false) ∧ w' = w := by
  go_enter Tryz.func40, Tryz.ntmps40
  go_wp2
  go_returns
  exact ⟨rfl, rfl⟩

end
end Go.Proofs.YtkcoeofbobkaoabGreatDoor


namespace Go.Proofs.YtkcoeofbobkaoabGreatDoor
open Go.RowKit Go.Maps
set_option linter.unusedVariables false

/-- A range under way over a map that may be none. -/
def IT (w : World) (mv : Value) (r : Nat) (m todo : Prs) : Prop := (mv = .map none ∧ m = [] ∧ todo = [] ∧ w.heap[r]? = some (.mapIter none 0 #[] 0)) ∨ ∃ b, mv = .map (some b) ∧ RG w b r m todo
def leftM (mv : Value) (r : Nat) (w : World) : Nat :=
  match mv with
  | .map (some b) => w.rangeLeft b r
  | _ => 0
/-- No block of files or of bytes is the iterator's. -/
theorem IT.not_cells {w : World} {mv : Value} {r : Nat} {m todo : Prs} (h : IT w mv r m todo) {cs : Array Value} {t : TypeId} {k : Nat} (hk : w.heap[k]? = some (.cells cs t)) : r ≠ k := by
  intro e
  rcases h with ⟨_, _, _, h⟩ | ⟨b, _, h⟩
  · rw [e, hk] at h; cases h
  · obtain ⟨_, _, _, _, h⟩ := h.iter
    rw [e, hk] at h; cases h
theorem IT.lt {w : World} {mv : Value} {r : Nat} {m todo : Prs} (h : IT w mv r m todo) : r < w.heap.size := by
  rcases h with ⟨_, _, _, h⟩ | ⟨b, _, h⟩
  · exact lt_of_heap h
  · exact h.lt
theorem IT.keep {w w' : World} {mv : Value} {r : Nat} {m todo : Prs} {S : Nat → Prop} (h : IT w mv r m todo) (t : Touch S w w') (hr : ¬ S r) (hb : ∀ b, mv = .map (some b) → ¬ S b) : IT w' mv r m todo ∧ leftM mv r w' = leftM mv r w := by
  rcases h with ⟨e1, e2, e3, h⟩ | ⟨b, rfl, h⟩
  · exact ⟨.inl ⟨e1, e2, e3, t.keep h hr⟩, by rw [e1]; rfl⟩
  · exact ⟨.inr ⟨b, rfl, h.keep t (hb b rfl) hr⟩, left_keep t h.fm.lt h.lt (hb b rfl) hr⟩

section
variable (w : World) {ops : Array Oper} {rest : List Oper} {o : Oper} {a : Act} {Q : Exit → Act → World → Prop}
theorem wpList_itrange (hg : o.guard = none) (m : Operand) (hop : o.op = Op.range 56 m) (mv : Value) (ps : Prs) (hm : a.eval m = mv) (h : (mv = .map none ∧ ps = []) ∨ ∃ mb, mv = .map (some mb) ∧ FM w mb ps)
    (hK : ∀ w', IT w' mv w.heap.size ps ps → Touch (fun _ => False) w w' → wpList Tryz.prog ops Q rest (a.put o.dst (.pointer (some ⟨w.heap.size, 0, none⟩))) w') : wpList Tryz.prog ops Q (o :: rest) a w := by
  refine wpList_plain hg fun K' hK' => ?_
  rcases h with ⟨rfl, rfl⟩ | ⟨b, rfl, h⟩
  · have hrun : (Instr.range 56 (.map none)).run Tryz.prog w = .ok (.pointer (some ⟨w.heap.size, 0, none⟩)) (w.alloc (.mapIter none 0 #[] 0)) := by
      simp [Instr.range, run_underlying Tryz.underlying56, Result.andThen]
    unfold Oper.wp
    simp [execOp, hop, hm, hrun, Result.andThen]
    exact hK' _ _ (hK _ (.inl ⟨rfl, rfl, rfl, heap_new _ _⟩) ((Touch.refl _ w).alloc _))
  · obtain ⟨w', hrun, r1, r2⟩ := h.range
    unfold Oper.wp
    simp [execOp, hop, hm, hrun, Result.andThen]
    exact hK' _ _ (hK w' (.inr ⟨b, rfl, r1⟩) r2)
theorem wpList_itnext (hg : o.guard = none) (it : Operand) (hop : o.op = Op.next it false) (mv : Value) (r : Nat) (m todo : Prs) (hit : a.eval it = .pointer (some ⟨r, 0, none⟩)) (h : IT w mv r m todo)
    (hDone : todo = [] → wpList Tryz.prog ops Q rest (a.put o.dst (.tuple #[.bool false])) w)
    (hMore : ∀ (s : ByteArray) (g : Nat) (w' : World), (s, g) ∈ todo → s.size ≤ maxLen → IT w' mv r m (del todo s) → leftM mv r w' < leftM mv r w → Touch (· = r) w w' → (Instr.entry (.pointer (some ⟨r, 0, none⟩))).run Tryz.prog w' = .ok (.tuple #[.string s, .pointer (some ⟨g, 0, none⟩)]) w' →
      wpList Tryz.prog ops Q rest (a.put o.dst (.tuple #[.bool true, .string s, .pointer (some ⟨g, 0, none⟩)])) w') : wpList Tryz.prog ops Q (o :: rest) a w := by
  refine wpList_plain hg fun K' hK' => ?_
  unfold Oper.wp
  rcases h with ⟨rfl, rfl, rfl, h⟩ | ⟨b, rfl, h⟩
  · have hrun : (Instr.next (.pointer (some ⟨r, 0, none⟩)) false o.type).run Tryz.prog w = .ok (.tuple #[.bool false]) w := by
      simp only [Instr.next, getObj, Sem.run_bind, Sem.run, h, Result.andThen]
      rfl
    simp [execOp, hop, hit, hrun, Result.andThen]
    exact hK' _ _ (hDone rfl)
  · rcases h.next o.type with ⟨h0, hrun⟩ | ⟨⟨s, g⟩, w', hp, hs, hrun, r1, r2, r3, r4⟩
    · simp [execOp, hop, hit, hrun, Result.andThen]
      exact hK' _ _ (hDone h0)
    · have hrun' : (Instr.next (.pointer (some ⟨r, 0, none⟩)) false o.type).run Tryz.prog w = .ok (.tuple #[.bool true, .string s, .pointer (some ⟨g, 0, none⟩)]) w' := hrun
      simp [execOp, hop, hit, hrun', Result.andThen]
      exact hK' _ _ (hMore s g w' hp hs (.inr ⟨b, rfl, r1⟩) r2 r3 r4)
end

/-- Is the name still to come? -/
def isIn (todo : Prs) (s : ByteArray) : Bool := (at_ todo s).isSome
theorem isIn_del (todo : Prs) (s t : ByteArray) : isIn (del todo s) t = (isIn todo t && decide (t ≠ s)) := by
  unfold isIn at_ del
  rw [Option.isSome_map, Option.isSome_map, List.find?_filter]
  by_cases e : t = s
  · subst e
    have : List.find? (fun a : ByteArray × Nat => decide (decide (a.1 ≠ t) = true ∧ decide (a.1 = t) = true)) todo = none := by
      rw [List.find?_eq_none]; intro x _; simp
    rw [this]; simp
  · have : (fun a : ByteArray × Nat => decide (decide (a.1 ≠ s) = true ∧ decide (a.1 = t) = true)) = fun a => decide (a.1 = t) := by
      funext x
      by_cases h : x.1 = t
      · simp [h, e]
      · simp [h]
    rw [this]; simp [e]
theorem isIn_mem {todo : Prs} {s : ByteArray} {g : Nat} (h : (s, g) ∈ todo) : isIn todo s = true := by
  unfold isIn
  cases e : at_ todo s with
  | some _ => rfl
  | none => exact absurd rfl (at_none e _ h)

/-- The files while a crash goes on; those that count as done. -/
def midF (K : Nat) (todo : Prs) (l : List Ft) : List Ft := l.map (fun f => if isIn todo f.nm then f else crashF K f)
def midU (K : Nat) (todo : Prs) (l : List Ft) : List Ft := l.map (fun f => if isIn todo f.nm then ⟨f.nm, [], 0⟩ else crashF K f)
theorem mid_step (K : Nat) (todo : Prs) {l : List Ft} (ha : l.Pairwise (fun a b => a.nm ≠ b.nm)) {f : Ft} (hf : f ∈ l) : midF K (del todo f.nm) l = swapF (midF K todo l) (crashF K f) := by
  unfold midF swapF
  rw [List.map_map]
  apply List.map_congr_left
  intro g hg
  show (if isIn (del todo f.nm) g.nm then g else crashF K g) = if (if isIn todo g.nm then g else crashF K g).nm = (crashF K f).nm then crashF K f else (if isIn todo g.nm then g else crashF K g)
  have en : (if isIn todo g.nm then g else crashF K g).nm = g.nm := by split <;> rfl
  have ef : (crashF K f).nm = f.nm := rfl
  rw [en, ef, isIn_del]
  by_cases e : g.nm = f.nm
  · have e2 : g = f := by
      have hpa : ∀ {l : List Ft}, l.Pairwise (fun a b => a.nm ≠ b.nm) → ∀ {x y : Ft}, x ∈ l → y ∈ l → x.nm = y.nm → x = y := by
        intro l
        induction l with
        | nil => intro _ x y hx; cases hx
        | cons z r ih =>
          intro h x y hx hy exy
          obtain ⟨h1, h2⟩ := List.pairwise_cons.1 h
          rcases List.mem_cons.1 hx with rfl | hx' <;> rcases List.mem_cons.1 hy with rfl | hy'
          · rfl
          · exact absurd exy (h1 y hy')
          · exact absurd exy.symm (h1 x hx')
          · exact ih h2 hx' hy' exy
      exact hpa ha hg hf e
    subst e2
    simp
  · rw [if_neg e]; simp [e]
theorem midU_step (K : Nat) (todo : Prs) {l : List Ft} (ha : l.Pairwise (fun a b => a.nm ≠ b.nm)) {f : Ft} (hf : f ∈ l) (hin : isIn todo f.nm = true) : usedF (midU K (del todo f.nm) l) = usedF (midU K todo l) + (crashF K f).text.length := by
  induction l with
  | nil => cases hf
  | cons x r ih =>
    obtain ⟨h1, h2⟩ := List.pairwise_cons.1 ha
    have hc : ∀ td, usedF (midU K td (x :: r)) = (if isIn td x.nm then (⟨x.nm, [], 0⟩ : Ft) else crashF K x).text.length + usedF (midU K td r) := fun td => by
      show usedF (_ :: midU K td r) = _
      rw [used_cons]
    rw [hc, hc]
    by_cases e : x.nm = f.nm
    · have hfx : f = x := by
        rcases List.mem_cons.1 hf with h | h
        · exact h
        · exact absurd e (h1 f h)
      subst hfx
      have hr : midU K (del todo f.nm) r = midU K todo r := by
        unfold midU
        apply List.map_congr_left
        intro g hg
        have : decide (g.nm ≠ f.nm) = true := decide_eq_true (Ne.symm (h1 g hg))
        rw [isIn_del, this, Bool.and_true]
      rw [hr, isIn_del, hin]
      simp
      omega
    · have hfr : f ∈ r := by
        rcases List.mem_cons.1 hf with h | h
        · subst h; exact absurd rfl e
        · exact h
      have := ih h2 hfr
      have hd : decide (x.nm ≠ f.nm) = true := decide_eq_true e
      rw [this, isIn_del, hd, Bool.and_true]
      omega
theorem midU_le (K : Nat) (todo : Prs) (l : List Ft) : usedF (midU K todo l) ≤ usedF l := by
  induction l with
  | nil => simp [midU, usedF]
  | cons x r ih =>
    have hc : usedF (midU K todo (x :: r)) = (if isIn todo x.nm then (⟨x.nm, [], 0⟩ : Ft) else crashF K x).text.length + usedF (midU K todo r) := by
      show usedF (_ :: midU K todo r) = _
      rw [used_cons]
    rw [hc, used_cons]
    have : (if isIn todo x.nm then (⟨x.nm, [], 0⟩ : Ft) else crashF K x).text.length ≤ x.text.length := by
      split
      · simp
      · show (x.text.take _).length ≤ _
        rw [List.length_take]; omega
    omega
theorem mid_start (K : Nat) {m : Prs} {fl : List Fl} (h : ∀ f ∈ fl, pr f ∈ m) : midF K m (fts fl) = fts fl ∧ usedF (midU K m (fts fl)) = 0 := by
  have hin : ∀ f ∈ fts fl, isIn m f.nm = true := fun f hf => by
    obtain ⟨g, hg, rfl⟩ := List.mem_map.1 hf
    exact isIn_mem (g := g.fb) (h g hg)
  refine ⟨?_, ?_⟩
  · unfold midF
    conv => rhs; rw [← List.map_id (fts fl)]
    apply List.map_congr_left
    intro f hf
    rw [hin f hf]; rfl
  · have : midU K m (fts fl) = (fts fl).map (fun f => ⟨f.nm, [], 0⟩) := by
      unfold midU
      apply List.map_congr_left
      intro f hf
      rw [hin f hf]; rfl
    rw [this]
    generalize fts fl = l
    induction l with
    | nil => rfl
    | cons x r ih => rw [List.map_cons, used_cons, ih]; rfl
theorem pr_mem {fl : List Fl} (f : Fl) (hf : f ∈ fl) : pr f ∈ fl.map pr := List.mem_map.2 ⟨f, hf, rfl⟩
theorem mid_end (K : Nat) (l : List Ft) : midF K [] l = l.map (crashF K) ∧ midU K [] l = l.map (crashF K) := ⟨rfl, rfl⟩

def crD (K : Nat) (d : Dk) : Dk := ⟨d.fs.map (crashF K), false, d.fuse, false⟩
/-- The number of what is kept, as it is taken. -/
def u64N (n : Int) : Nat := (n % 18446744073709551616).toNat
theorem u64N_lt (n : Int) : u64N n < 18446744073709551616 := by unfold u64N; omega
theorem u64N_wrap (n : Int) : IntKind.u64.wrap n = (u64N n : Int) := by
  unfold u64N
  simp [IntKind.wrap, IntKind.bits, IntKind.signed]
  omega

/-- Where a crash has come to. -/
structure Mid (w wr : World) (db r : Nat) (mv : Value) (fl cur : List Fl) (armed : Bool) (fuse : Int) (dead : Bool) (K : Nat) (todo : Prs) : Prop where
  it : IT wr mv r (fl.map pr) todo
  sub : ∀ p ∈ todo, p ∈ fl.map pr
  at_ : DiskU wr db mv cur (usedF (midU K todo (fts fl)) : Nat) armed fuse dead
  same : cur.map pr = fl.map pr
  files : fts cur = midF K todo (fts fl)
  touch : Touch (Owns db mv fl) w wr
  own : ∀ k, Owns db mv cur k → Owns db mv fl k ∨ w.heap.size ≤ k
  iter : w.heap.size ≤ r

section
variable {w : World} {db : Nat} {S : Nat → Prop} {d : Dk}
set_option maxRecDepth 100000 in
set_option maxHeartbeats 2000000 in
theorem dcrash_any (h : Disky w db S d) (n : Int) :
    Calls Tryz.prog 34 #[.pointer (some ⟨db, 0, none⟩), .int .i64 n] w fun e w' => e = .returned (.tuple #[]) ∧ Went w w' db S (crD (u64N n) d) := by
  obtain ⟨⟨mv, fl, h1, h2, h3⟩, hlt⟩ := h
  obtain ⟨fs, armed, fuse, dead⟩ := d
  simp only at h1 h2 ⊢
  subst h2
  have hw := u64N_wrap n
  have hKl := u64N_lt n
  generalize u64N n = K at *
  have hap := apart_names h1.apart
  have hus := h1.used
  have c0 : w.cell? ⟨db, 0, none⟩ = some mv := h1.cell 0
  have c1 : w.cell? ⟨db, 1, none⟩ = some (.int .i64 (usedF (fts fl) : Nat)) := h1.cell 1
  have z1 := h1.frozen 1
  have t1 := touch_set w db 1 (.int .i64 0)
  have H1 := hide h1
  have u1 : DiskU (w.setCell ⟨db, 1, none⟩ (.int .i64 0)) db mv fl 0 armed fuse dead := h1.toDiskU.self t1 (heap_set h1.heap 1 _)
  have U1 := hide u1
  have d0 : (w.setCell ⟨db, 1, none⟩ (.int .i64 0)).cell? ⟨db, 0, none⟩ = some mv := u1.cell 0
  have MV : Hid ((mv = .map none ∧ fl.map pr = []) ∨ ∃ mb, mv = .map (some mb) ∧ FM (w.setCell ⟨db, 1, none⟩ (.int .i64 0)) mb (fl.map pr)) := u1.map.imp (fun h => ⟨h.1, by rw [h.2]; rfl⟩) id
  clear h1
  go_enter Tryz.func34, Tryz.ntmps34
  go_wp2_with (at_range; refine wpList_itrange _ rfl _ rfl mv (fl.map pr) rfl (unhide MV) ?_)
  intro w2 it2 t2
  have M0 : Hid (Mid w w2 db w.heap.size mv fl fl armed fuse dead K (fl.map pr)) := by
    obtain ⟨e1, e2⟩ := mid_start K (m := fl.map pr) (fl := fl) (fun f hf => pr_mem f hf)
    refine ⟨it2, fun p hp => hp, ?_, rfl, e1.symm, ?_, fun k hk => .inl hk, Nat.le_refl _⟩
    · rw [e2]; exact (unhide U1).keep t2 (fun _ _ h => h)
    · exact (t1.mono (fun k hk => .inl hk)).trans (t2.mono (fun _ h => h.elim))
  clear it2 t2 d0 u1 c0 c1 z1 MV
  go_wp2_with fail
  go_loopw [5] (fun sl wr => ∃ (todo : Prs) (cur : List Fl), Mid w wr db w.heap.size mv fl cur armed fuse dead K todo) (fun _ wr => leftM mv w.heap.size wr)
  case atStart => exact ⟨_, _, unhide M0⟩
  case round =>
    obtain ⟨todo, cur, mid⟩ := hrel
    have MI := hide mid
    clear mid M0
    go_wp2_with (at_next; refine wpList_itnext _ rfl _ rfl mv w.heap.size (fl.map pr) todo rfl (unhide MI).it ?_ ?_)
    · intro htodo
      subst htodo
      have mi := unhide MI
      have z2 := mi.at_.frozen 2
      have z4 := mi.at_.frozen 4
      have b2 : wr.cell? ⟨db, 2, none⟩ = some (.bool armed) := mi.at_.cell 2
      have b4 : wr.cell? ⟨db, 4, none⟩ = some (.bool dead) := mi.at_.cell 4
      have WT : Hid (Went w ((wr.setCell ⟨db, 2, none⟩ (.bool false)).setCell ⟨db, 4, none⟩ (.bool false)) db S (crD K ⟨fts fl, armed, fuse, dead⟩)) := by
        have t := (touch_set wr db 2 (.bool false)).trans (touch_set _ db 4 (.bool false))
        have hu : usedF (fts cur) = usedF (midU K [] (fts fl)) := by rw [mi.files]; rfl
        refine Went.mk' (mv := mv) (fl := fl) (mv' := mv) (fl' := cur) h3 ⟨mi.at_.self t (by rw [hu]; exact heap_set (heap_set mi.at_.heap 2 _) 4 _), ?_, ?_, (unhide H1).lo, (unhide H1).hi, fun e => by cases e⟩ mi.files (mi.touch.trans (t.mono (fun k hk => .inl hk))) mi.own
        · rw [hu]; exact Nat.le_trans (midU_le _ _ _) hus
        · have := congrArg List.length mi.same
          rw [List.length_map, List.length_map] at this
          rw [this]; exact (unhide H1).few
      clear mi MI
      go_wp2
      go_end0
      exact ⟨rfl, unhide WT⟩
    · intro s g w3 hsg hsl it3 hl3 t3 hen
      have mi := unhide MI
      obtain ⟨f0, hf0, e0⟩ := List.mem_map.1 (mi.sub _ hsg)
      obtain ⟨f, hf, ef⟩ := List.mem_map.1 (show (s, g) ∈ cur.map pr by rw [mi.same]; exact mi.sub _ hsg)
      have es : f.nm = s := by have := congrArg Prod.fst ef; exact this
      have eg : f.fb = g := by have := congrArg Prod.snd ef; exact this
      have es0 : f0.nm = s := by have := congrArg Prod.fst e0; exact this
      have hin : isIn todo s = true := isIn_mem hsg
      -- the file is as it was
      have ff0 : f.toFt = f0.toFt := by
        have h1 : f.toFt ∈ midF K todo (fts fl) := by rw [← mi.files]; exact List.mem_map.2 ⟨f, hf, rfl⟩
        obtain ⟨x, hx, ex⟩ := List.mem_map.1 h1
        have enx : x.nm = s := by
          have : (if isIn todo x.nm then x else crashF K x).nm = f.toFt.nm := by rw [ex]
          have h2 : (if isIn todo x.nm then x else crashF K x).nm = x.nm := by split <;> rfl
          rw [h2] at this
          rw [this]; exact es
        rw [enx, hin] at ex
        have : x = f.toFt := ex
        rw [← this]
        obtain ⟨y, hy, rfl⟩ := List.mem_map.1 hx
        have : y = f0 := name_one (unhide H1).apart hy hf0 (by rw [es0]; exact enx)
        rw [this]
      have hrn : ∀ k, Owns db mv cur k → k ≠ w.heap.size := fun k hk e => by
        rcases hk with h | h | ⟨x, hx, h | h⟩
        · exact mi.it.not_cells mi.at_.heap (by rw [← e, h])
        · rcases mi.at_.map with ⟨e1, _⟩ | ⟨mb, e1, hm⟩
          · rw [h] at e1; cases e1
          · rw [h] at e1; cases e1
            obtain ⟨es, cl, hb⟩ := hm.block
            rcases mi.it with ⟨e2, _⟩ | ⟨b, e2, hrg⟩
            · rw [h] at e2; cases e2
            · obtain ⟨_, _, _, _, hi⟩ := hrg.iter
              rw [← e, hb] at hi; cases hi
        · exact mi.it.not_cells (mi.at_.each x hx).heap (by rw [← e, h])
        · obtain ⟨cs, hc⟩ := row_heap (mi.at_.each x hx).row h
          exact mi.it.not_cells hc e.symm
      have at3 := mi.at_.keep t3 (fun k hk => hrn k hk)
      have hat := at3.each f hf
      have hfu : f.text.length ≤ 4194304 := by
        have h1 : f0.toFt ∈ fts fl := List.mem_map.2 ⟨f0, hf0, rfl⟩
        have := used_mem h1
        have e : f.text.length = f0.toFt.text.length := by rw [← ff0]
        omega
      have CR := crash_any hat K hKl hfu
      rw [eg] at CR
      have CRH := hide CR
      have AT3 := hide at3
      have IT3 := hide it3
      have HL3 := hide hl3
      have T3 := hide t3
      have hcc : (crashF K f.toFt).text.length = (f.text.take (crashN K f.toFt)).length := rfl
      obtain ⟨L, hL⟩ : ∃ L, L = (crashF K f.toFt).text.length := ⟨_, rfl⟩
      have hLu := midU_step K todo hap (List.mem_map.2 ⟨f0, hf0, rfl⟩ : f0.toFt ∈ fts fl) (by show isIn todo f0.nm = true; rw [es0]; exact hin)
      have hLu2 : usedF (midU K (del todo s) (fts fl)) = usedF (midU K todo (fts fl)) + L := by
        have e : f0.toFt.nm = s := es0
        rw [e] at hLu
        rw [hLu, hL, ff0]
      have hLe := midU_le K (del todo s) (fts fl)
      clear CR at3 it3 hl3 hat mi
      go_wp2_with fail
      refine (unhide CRH).mono ?_
      rintro e w4 ⟨rfl, f', to4, et4⟩
      have hne := (unhide AT3).db_ne hf
      have hdb4 := to4.touch.keep (unhide AT3).heap (fun e => hne e.symm)
      have b1 : w4.cell? ⟨db, 1, none⟩ = some (.int .i64 (usedF (midU K todo (fts fl)) : Nat)) := cell_of hdb4 1
      have y1 := frozen_of hdb4 1
      obtain ⟨a4, c4, ev4, _⟩ := to4.at_.row.parts
      have hfl4 : f'.text.length = L := by
        have := congrArg Ft.text et4
        rw [hL, ← this]
      have x0 : w4.cell? ⟨g, 0, none⟩ = some (.slice a4 L c4) := by
        have := to4.at_.cell0
        rw [to4.fb, eg, ev4, hfl4] at this
        exact this
      have hsum : IntKind.i64.wrap ((usedF (midU K todo (fts fl)) : Int) + (L : Int)) = (usedF (midU K todo (fts fl)) : Int) + (L : Int) := by simp [IntKind.wrap, IntKind.bits, IntKind.signed]; omega
      have NX : Hid (Mid w (w4.setCell ⟨db, 1, none⟩ (.int .i64 ((usedF (midU K todo (fts fl)) : Int) + (L : Int)))).drew db w.heap.size mv fl (swap cur f') armed fuse dead K (del todo s) ∧ leftM mv w.heap.size (w4.setCell ⟨db, 1, none⟩ (.int .i64 ((usedF (midU K todo (fts fl)) : Int) + (L : Int)))).drew < leftM mv w.heap.size wr) := by
        have mi := unhide MI
        have tdb : Touch (· = db) w4 (w4.setCell ⟨db, 1, none⟩ (.int .i64 ((usedF (midU K todo (fts fl)) : Int) + (L : Int)))).drew := (touch_set w4 db 1 _).drew
        have hdbne : db ≠ w.heap.size := fun e => by have := lt_of_heap (unhide H1).heap; omega
        have hgne : f.fb ≠ w.heap.size := (unhide IT3).not_cells ((unhide AT3).each f hf).heap |>.symm
        have hmb : ∀ b, mv = .map (some b) → b ≠ f.fb ∧ b ≠ db := fun b hb => ⟨fun e => (unhide AT3).map_ne hb |>.2.1 f hf e.symm, ((unhide AT3).map_ne hb).1⟩
        obtain ⟨i1, l1⟩ := (unhide IT3).keep to4.touch (fun e => hgne e.symm) (fun b hb e => (hmb b hb).1 e)
        obtain ⟨i2, l2⟩ := i1.keep tdb (fun e => hdbne e.symm) (fun b hb e => (hmb b hb).2 e)
        have rowne : ∀ k, f'.v.ownBlock = some k → k ≠ db := fun k hk e => by
          rcases to4.row k hk with h | h
          · exact (unhide AT3).row_ne_db hf k h e
          · have := lt_of_heap (unhide AT3).heap; omega
        have tt : Touch (fun k => k = db ∨ k = f.fb ∨ f.v.ownBlock = some k) w3 (w4.setCell ⟨db, 1, none⟩ (.int .i64 ((usedF (midU K todo (fts fl)) : Int) + (L : Int)))).drew := (to4.touch.mono (fun k hk => .inr (.inl hk))).trans (tdb.mono (fun k hk => .inl hk))
        refine ⟨⟨i2, fun p hp => mi.sub p (del_not hp).1, ?_, ?_, ?_, ?_, ?_, Nat.le_refl _⟩, by rw [l2, l1]; exact unhide HL3⟩
        · refine (unhide AT3).change hf to4.nm to4.fb (to4.at_.keep tdb (by rw [to4.fb]; exact hne) rowne) tt to4.row ?_
          rw [hLu2]
          exact heap_set hdb4 1 _
        · rw [swap_pr mi.at_.apart hf to4.nm to4.fb, mi.same]
        · have e : f0.toFt.nm = s := es0
          rw [fts_swap, mi.files, et4, ff0, ← e]
          exact (mid_step K todo hap (List.mem_map.2 ⟨f0, hf0, rfl⟩)).symm
        · refine touch_more (touch_more mi.touch (unhide T3) (fun k hk => .inr (by omega))) tt (fun k hk => ?_)
          rcases hk with e | e | e
          · exact .inl (.inl e)
          · exact mi.own k (.inr (.inr ⟨f, hf, .inl e⟩))
          · exact mi.own k (.inr (.inr ⟨f, hf, .inr e⟩))
        · intro k hk
          rcases owns_swap (n := w3.heap.size) mi.at_.apart hf to4.nm to4.fb to4.row k hk with e | e
          · exact mi.own k e
          · exact .inr (Nat.le_trans mi.touch.size (Nat.le_trans (unhide T3).size e))
      clear to4 et4 hdb4 ev4 hfl4 CRH AT3 IT3 HL3 T3 MI hLu2 hLu hcc hL
      go_wp2_with fail
      go_region
      all_goals
        go_wp2
        go_roundw
        case rel => exact ⟨_, _, (unhide NX).1⟩
        case measure => exact (unhide NX).2
end
end Go.Proofs.YtkcoeofbobkaoabGreatDoor
