/-
  What a disk is in memory: its block, its map, its files, each with its row of bytes; what stays while other blocks are written. Plain lemmas, no conditions.
-/
import Derived.Test.YtfdpnfeaagijhaaFm

namespace Go.Proofs.Ytfdpnfeaagijhaa
open Go.RowKit
set_option linter.unusedVariables false

/-- New blocks don't count. -/
theorem touch_more {S R : Nat → Prop} {w w1 w2 : World} (t1 : Touch S w w1) (t2 : Touch R w1 w2) (h : ∀ k, R k → S k ∨ w.heap.size ≤ k) : Touch S w w2 :=
  ⟨t2.os.trans t1.os, t2.tape.trans t1.tape, t2.output.trans t1.output, Nat.le_trans t1.size t2.size, fun k hk hs => by
    rw [t2.block k (Nat.lt_of_lt_of_le hk t1.size) (fun hr => by rcases h k hr with e | e; exact hs e; omega), t1.block k hk hs]⟩

/-- A file: its name, its bytes, how many last. -/
structure Ft where
  nm : ByteArray
  text : List Nat
  last : Nat
/-- .. and where it lies. -/
structure Fl extends Ft where
  fb : Nat
  v : Value
def pr (f : Fl) : ByteArray × Nat := (f.nm, f.fb)
def usedF (l : List Ft) : Nat := (l.map (fun f => f.text.length)).sum
abbrev fts (fl : List Fl) : List Ft := fl.map Fl.toFt

structure FileAt (w : World) (f : Fl) : Prop where
  heap : w.heap[f.fb]? = some (.cells #[f.v, .int .i64 (f.last : Nat)] 77)
  row : Row w f.v f.text
  last : f.last ≤ f.text.length
  name : 0 < f.nm.size ∧ f.nm.size ≤ 24
def Apart (f g : Fl) : Prop := f.nm ≠ g.nm ∧ f.fb ≠ g.fb ∧ ∀ k, f.v.ownBlock = some k → g.v.ownBlock ≠ some k
theorem Apart.symm {f g : Fl} (h : Apart f g) : Apart g f := ⟨Ne.symm h.1, Ne.symm h.2.1, fun k h1 h2 => h.2.2 k h2 h1⟩

/-- The disk's own blocks. -/
def Owns (db : Nat) (mv : Value) (fl : List Fl) (k : Nat) : Prop := k = db ∨ mv = .map (some k) ∨ ∃ f ∈ fl, k = f.fb ∨ f.v.ownBlock = some k

/-- A disk whose count of bytes may lag behind. -/
structure DiskU (w : World) (db : Nat) (mv : Value) (fl : List Fl) (u : Int) (armed : Bool) (fuse : Int) (dead : Bool) : Prop where
  heap : w.heap[db]? = some (.cells #[mv, .int .i64 u, .bool armed, .int .i64 fuse, .bool dead] 38)
  map : (mv = .map none ∧ fl = []) ∨ ∃ mb, mv = .map (some mb) ∧ FM w mb (fl.map pr)
  each : ∀ f ∈ fl, FileAt w f
  apart : fl.Pairwise Apart
structure DiskAt (w : World) (db : Nat) (mv : Value) (fl : List Fl) (armed : Bool) (fuse : Int) (dead : Bool) : Prop extends DiskU w db mv fl (usedF (fts fl) : Nat) armed fuse dead where
  used : usedF (fts fl) ≤ 4194304
  few : fl.length ≤ 4096
  lo : -9223372036854775808 ≤ fuse
  hi : fuse ≤ 9223372036854775807
  arm : armed = true → 0 ≤ fuse

section
variable {w w' : World} {db : Nat} {mv : Value} {fl : List Fl} {armed dead : Bool} {fuse u : Int} {S : Nat → Prop}
theorem FileAt.keep {f : Fl} (h : FileAt w f) (t : Touch S w w') (h1 : ¬ S f.fb) (h2 : ∀ k, f.v.ownBlock = some k → ¬ S k) : FileAt w' f := ⟨t.keep h.heap h1, h.row.keep t h2, h.last, h.name⟩
theorem DiskU.keep (h : DiskU w db mv fl u armed fuse dead) (t : Touch S w w') (hs : ∀ k, Owns db mv fl k → ¬ S k) : DiskU w' db mv fl u armed fuse dead := by
  refine ⟨t.keep h.heap (hs _ (.inl rfl)), ?_, fun f hf => (h.each f hf).keep t (hs _ (.inr (.inr ⟨f, hf, .inl rfl⟩))) (fun k hk => hs k (.inr (.inr ⟨f, hf, .inr hk⟩))), h.apart⟩
  rcases h.map with ⟨e1, e2⟩ | ⟨mb, e, hm⟩
  · exact .inl ⟨e1, e2⟩
  · exact .inr ⟨mb, e, hm.keep t (hs mb (.inr (.inl e)))⟩
theorem DiskAt.keep (h : DiskAt w db mv fl armed fuse dead) (t : Touch S w w') (hs : ∀ k, Owns db mv fl k → ¬ S k) : DiskAt w' db mv fl armed fuse dead := ⟨h.toDiskU.keep t hs, h.used, h.few, h.lo, h.hi, h.arm⟩
theorem DiskU.lt (h : DiskU w db mv fl u armed fuse dead) : ∀ k, Owns db mv fl k → k < w.heap.size := by
  intro k hk
  rcases hk with rfl | e | ⟨f, hf, rfl | e⟩
  · exact lt_of_heap h.heap
  · rcases h.map with ⟨e1, _⟩ | ⟨mb, e1, hm⟩
    · rw [e] at e1; cases e1
    · rw [e] at e1; cases e1; exact hm.lt
  · exact lt_of_heap (h.each f hf).heap
  · exact (h.each f hf).row.lt k e
/-- A row's block is one of bytes. -/
theorem row_heap {v : Value} {l : List Nat} (r : Row w v l) {k : Nat} (hk : v.ownBlock = some k) : ∃ cs, w.heap[k]? = some (.cells cs 5) := by
  rcases r.own.2 with ⟨rfl, _⟩ | ⟨g, cap, cur, rfl, _, hgg, _⟩
  · simp [Value.ownBlock] at hk
  · have e : g = k := by simpa [Value.ownBlock] using hk
    rw [e] at hgg; exact ⟨_, hgg⟩
theorem DiskU.names (h : DiskU w db mv fl u armed fuse dead) : (fl.map pr).Pairwise (fun p q => p.1 ≠ q.1) := by
  rw [List.pairwise_map]; exact h.apart.imp (fun h => h.1)

/-- The file of a name. -/
def fileOf (fl : List Fl) (s : ByteArray) : Option Fl := fl.find? (fun f => decide (f.nm = s))
theorem fileOf_some {s : ByteArray} {f : Fl} (h : fileOf fl s = some f) : f ∈ fl ∧ f.nm = s := ⟨List.mem_of_find?_eq_some h, by have := List.find?_some h; simpa using this⟩
theorem at_fileOf (fl : List Fl) (s : ByteArray) : at_ (fl.map pr) s = (fileOf fl s).map (·.fb) := by
  unfold at_ fileOf
  rw [List.find?_map, Option.map_map]
  rfl
/-- The abstract one. -/
def ftOf (l : List Ft) (s : ByteArray) : Option Ft := l.find? (fun f => decide (f.nm = s))
theorem ft_fileOf (fl : List Fl) (s : ByteArray) : ftOf (fts fl) s = (fileOf fl s).map Fl.toFt := by
  unfold ftOf fileOf fts
  rw [List.find?_map]
  rfl

theorem DiskU.look (h : DiskU w db mv fl u armed fuse dead) {s : ByteArray} (hs : s.size ≤ maxLen) : (Instr.lookup 36 mv (.string s) true).run Try.prog w = .ok (.tuple #[ptrV ((fileOf fl s).map (·.fb)), .bool (fileOf fl s).isSome]) w := by
  rcases h.map with ⟨rfl, rfl⟩ | ⟨mb, rfl, hm⟩
  · exact look_nil hs w
  · rw [hm.look hs, at_fileOf, Option.isSome_map]
theorem DiskU.len (h : DiskU w db mv fl u armed fuse dead) (ty : TypeId) : (Builtin.len_ #[36] ty #[mv]).run Try.prog w = .ok (.int .i64 (fl.length : Nat)) w := by
  rcases h.map with ⟨rfl, rfl⟩ | ⟨mb, rfl, hm⟩
  · exact Maps.len_nil Try.underlying36 ty
  · rw [hm.len ty, List.length_map]
theorem DiskU.cell (h : DiskU w db mv fl u armed fuse dead) (i : Nat) : w.cell? ⟨db, i, none⟩ = #[mv, .int .i64 u, .bool armed, .int .i64 fuse, .bool dead][i]? := cell_of h.heap i
theorem DiskU.frozen (h : DiskU w db mv fl u armed fuse dead) (i : Nat) : w.frozen? ⟨db, i, none⟩ = false := frozen_of h.heap i
end

def okName (s : ByteArray) : Bool := decide (0 < s.size ∧ s.size ≤ 24)

section
variable {w : World} {db : Nat} {mv : Value} {fl : List Fl} {armed dead : Bool} {fuse : Int} {s : ByteArray}
theorem working_any (h : DiskAt w db mv fl armed fuse dead) :
    Calls Try.prog 35 #[.pointer (some ⟨db, 0, none⟩)] w fun e w' => e = .returned (.int .i64 (if dead then 9 else 0)) ∧ w' = w := by
  have c4 : w.cell? ⟨db, 4, none⟩ = some (.bool dead) := h.cell 4
  clear h
  cases dead
  · go_enter Try.func35, Try.ntmps35
    go_wp2
    go_returns
    exact ⟨rfl, rfl⟩
  · go_enter Try.func35, Try.ntmps35
    go_wp2
    go_returns
    exact ⟨rfl, rfl⟩
theorem working_nil (w : World) :
    Calls Try.prog 35 #[.pointer none] w fun e w' => e = .returned (.int .i64 5) ∧ w' = w := by
  go_enter Try.func35, Try.ntmps35
  go_wp2
  go_returns
  exact ⟨rfl, rfl⟩
theorem isname_any (s : ByteArray) (w : World) (hs : s.size ≤ maxLen) :
    Calls Try.prog 44 #[.string s] w fun e w' => e = .returned (.bool (okName s)) ∧ w' = w := by
  unfold maxLen at hs
  by_cases h1 : 0 < s.size
  · by_cases h2 : s.size ≤ 24
    · have e : okName s = true := decide_eq_true ⟨h1, h2⟩
      have h1' : (0 : Int) < (s.size : Int) := by omega
      have h2' : (s.size : Int) ≤ 24 := by omega
      go_enter Try.func44, Try.ntmps44
      go_wp2
      go_returns
      exact ⟨by first | rfl | (rw [e]; rfl), rfl⟩
    · have e : okName s = false := decide_eq_false (by omega)
      have h1' : (0 : Int) < (s.size : Int) := by omega
      have h2' : ¬ (s.size : Int) ≤ 24 := by omega
      go_enter Try.func44, Try.ntmps44
      go_wp2
      go_returns
      exact ⟨by first | rfl | (rw [e]; rfl), rfl⟩
  · have e : okName s = false := decide_eq_false (by omega)
    have h1' : ¬ (0 : Int) < (s.size : Int) := by omega
    go_enter Try.func44, Try.ntmps44
    go_wp2
    go_returns
    exact ⟨by first | rfl | (rw [e]; rfl), rfl⟩

/-- What find answers. -/
def findG (dead : Bool) (fl : List Fl) (s : ByteArray) : Option Nat := if dead then none else if okName s then (fileOf fl s).map (·.fb) else none
def findE (dead : Bool) (l : List Ft) (s : ByteArray) : Nat := if dead then 9 else if okName s then (if (ftOf l s).isSome then 0 else 4) else 1

set_option maxRecDepth 100000 in
theorem find_any (h : DiskAt w db mv fl armed fuse dead) (hs : s.size ≤ maxLen) :
    Calls Try.prog 32 #[.pointer (some ⟨db, 0, none⟩), .string s] w fun e w' => e = .returned (.tuple #[ptrV (findG dead fl s), .int .i64 (findE dead (fts fl) s : Nat)]) ∧ w' = w := by
  have WK := hide (working_any h)
  have NM := hide (isname_any s w hs)
  have c0 : w.cell? ⟨db, 0, none⟩ = some mv := h.cell 0
  have hl := h.look hs
  have EI : Hid ((ftOf (fts fl) s).isSome = (fileOf fl s).isSome) := by show _ = _; rw [ft_fileOf, Option.isSome_map]
  unfold findG findE
  rw [unhide EI]
  clear h hs
  cases dead
  · cases hn : okName s
    · rw [hn] at NM
      go_enter Try.func32, Try.ntmps32
      go_wp2_with fail
      refine (unhide WK).mono ?_
      rintro e w1 ⟨rfl, rfl⟩
      go_wp2_with fail
      refine (unhide NM).mono ?_
      rintro e w1 ⟨rfl, rfl⟩
      go_wp2
      go_returns
      exact ⟨rfl, rfl⟩
    · rw [hn] at NM
      cases hf : fileOf fl s with
      | none =>
        rw [hf] at hl
        have hl' : ∀ x, x = mv → (Instr.lookup 36 x (.string s) true).run Try.prog w = .ok (.tuple #[.pointer none, .bool false]) w := fun x e => by rw [e]; exact hl
        have hl2 := hl' mv rfl
        clear hl hl'
        go_enter Try.func32, Try.ntmps32
        go_wp2_with fail
        refine (unhide WK).mono ?_
        rintro e w1 ⟨rfl, rfl⟩
        go_wp2_with fail
        refine (unhide NM).mono ?_
        rintro e w1 ⟨rfl, rfl⟩
        go_wp2
        go_returns
        exact ⟨rfl, rfl⟩
      | some f =>
        rw [hf] at hl
        have hl2 : (Instr.lookup 36 mv (.string s) true).run Try.prog w = .ok (.tuple #[.pointer (some ⟨f.fb, 0, none⟩), .bool true]) w := hl
        clear hl
        go_enter Try.func32, Try.ntmps32
        go_wp2_with fail
        refine (unhide WK).mono ?_
        rintro e w1 ⟨rfl, rfl⟩
        go_wp2_with fail
        refine (unhide NM).mono ?_
        rintro e w1 ⟨rfl, rfl⟩
        go_wp2
        go_returns
        exact ⟨rfl, rfl⟩
  · go_enter Try.func32, Try.ntmps32
    go_wp2_with fail
    refine (unhide WK).mono ?_
    rintro e w1 ⟨rfl, rfl⟩
    go_wp2
    go_returns
    exact ⟨rfl, rfl⟩
theorem find_nil (s : ByteArray) (w : World) :
    Calls Try.prog 32 #[.pointer none, .string s] w fun e w' => e = .returned (.tuple #[.pointer none, .int .i64 5]) ∧ w' = w := by
  go_enter Try.func32, Try.ntmps32
  go_wp2_with fail
  refine (working_nil w).mono ?_
  rintro e w1 ⟨rfl, rfl⟩
  go_wp2
  go_returns
  exact ⟨rfl, rfl⟩
end
end Go.Proofs.Ytfdpnfeaagijhaa
