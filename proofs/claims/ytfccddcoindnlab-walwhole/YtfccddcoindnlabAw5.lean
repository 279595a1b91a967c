/-
  A disk beside what a law was given; 'awake' of layer 5. No conditions.
-/
import Derived.Test.YtfccddcoindnlabDk6
import Derived.Lib.SlBytesConst
import Derived.Laws.IdiomStrings

namespace Go.Proofs.Ytfccddcoindnlab
open Go.RowKit Go.Maps
set_option linter.unusedVariables false

/-- A disk of the call's own: all its blocks are new since w0, and nothing old has turned. -/
structure Ds (w0 w : World) (db : Nat) (S : Nat → Prop) (d : Dk) : Prop where
  disk : Disky w db S d
  base : ∀ k, S k → w0.heap.size ≤ k
  below : Below w0.heap.size w0 w
theorem Ds.went {w0 w w' : World} {db : Nat} {S : Nat → Prop} {d d' : Dk} (h : Ds w0 w db S d) (g : Went w w' db S d') : ∃ S', Ds w0 w' db S' d' ∧ (∀ k, S' k → S k ∨ w.heap.size ≤ k) ∧ Touch S w w' := by
  obtain ⟨S', g1, g2, g3⟩ := g
  exact ⟨S', ⟨g1, fun k hk => by rcases g3 k hk with e | e; exact h.base k e; exact Nat.le_trans h.below.size e, below_touch h.below g2 h.below.size h.base⟩, g3, g2⟩
theorem Ds.later {w0 w w' : World} {db : Nat} {S : Nat → Prop} {d : Dk} (h : Ds w0 w db S d) (hb : Below w.heap.size w w') : Ds w0 w' db S d :=
  ⟨h.disk.keep (Touch.of_below (S := fun _ => False) hb) (fun _ _ h => h), h.base, h.below.trans (hb.mono h.below.size)⟩
theorem Ds.drewN {w0 w : World} {db : Nat} {S : Nat → Prop} {d : Dk} (h : Ds w0 w db S d) (n : Nat) : Ds w0 (w.drewN n) db S d := h.later ⟨rfl, rfl, rfl, Nat.le_refl _, fun _ _ => rfl⟩
theorem Ds.new {w w' : World} (g : Went w w' w.heap.size (fun _ => False) ⟨[], false, 0, false⟩) : ∃ S, Ds w w' w.heap.size S ⟨[], false, 0, false⟩ := by
  obtain ⟨S', g1, g2, g3⟩ := g
  exact ⟨S', g1, fun k hk => by rcases g3 k hk with e | e; exact e.elim; exact e, ⟨g2.os, g2.tape, g2.output, g2.size, fun k hk => g2.block k hk (fun h => h)⟩⟩

/-- A constant's bytes, in a block of their own. -/
theorem LAt.const (w : World) (l : List Nat) (h : ∀ x ∈ l, x < 256) (cs : Array Value) (hcs : cs.toList = vals l) (fr : Nat × Nat) : LAt (w.alloc (.cells cs 5 fr)) (some ⟨w.heap.size, 0, none⟩) l := by
  intro i hi
  refine ⟨w.heap.size, 0, rfl, by simp, ?_, ?_⟩
  · rw [cell_of' (heap_new _ _), Nat.zero_add, ← Array.getElem?_toList, hcs]
    exact vals_at hi
  · have : l.getD i 0 = l[i] := by simp [List.getD, hi]
    show l.getD i 0 < 256
    rw [this]
    exact h _ (List.getElem_mem hi)

section
variable {w0 w : World} {db : Nat} {S : Nat → Prop} {d : Dk} {s : ByteArray}
/-- Append of bytes that are none of the disk's. -/
theorem cappend (h : Ds w0 w db S d) (hs : s.size ≤ maxLen) {a : Option Addr} {cap : Nat} {b : List Nat} (hb : LAt w a b) (hn : a = none → cap = 0) (hc : b.length ≤ cap) (hd : 0 < b.length → ∀ x, a = some x → ¬ S x.block) :
    Calls Try.prog 27 #[.pointer (some ⟨db, 0, none⟩), .string s, .slice a b.length cap] w fun e w' => e = .returned (.int .i64 (apE d s b.length : Nat)) ∧ ∃ S', Ds w0 w' db S' (apD d s b) ∧ (∀ k, S' k → S k ∨ w.heap.size ≤ k) ∧ Touch S w w' := by
  refine (dappend_any h.disk hs hb hn hc hd).mono ?_
  rintro e w' ⟨he, g⟩
  exact ⟨he, h.went g⟩
/-- .. of a constant. -/
theorem cappend_const (h : Ds w0 w db S d) (hs : s.size ≤ maxLen) (l : List Nat) (hl : ∀ x ∈ l, x < 256) (cs : Array Value) (hcs : cs.toList = vals l) (fr : Nat × Nat) (n : Nat) (hn : l.length = n) :
    Calls Try.prog 27 #[.pointer (some ⟨db, 0, none⟩), .string s, .slice (some ⟨w.heap.size, 0, none⟩) n n] (w.alloc (.cells cs 5 fr)) fun e w' => e = .returned (.int .i64 (apE d s n : Nat)) ∧ ∃ S', Ds w0 w' db S' (apD d s l) := by
  subst hn
  have hbl : Below w.heap.size w (w.alloc (.cells cs 5 fr)) := (Below.refl _ _).alloc (Nat.le_refl _) _
  refine (cappend (h.later hbl) hs (LAt.const w l hl cs hcs fr) (fun h => by cases h) (Nat.le_refl _) (fun _ x hx hk => ?_)).mono ?_
  · cases hx
    have := h.disk.lt _ hk
    simp at this
  · rintro e w' ⟨he, S', h1, _⟩
    exact ⟨he, S', h1⟩
theorem csync (h : Ds w0 w db S d) (hs : s.size ≤ maxLen) :
    Calls Try.prog 28 #[.pointer (some ⟨db, 0, none⟩), .string s] w fun e w' => e = .returned (.int .i64 (findE d.dead d.fs s : Nat)) ∧ ∃ S', Ds w0 w' db S' (syD d s) := by
  refine (dsync_any h.disk hs).mono ?_
  rintro e w' ⟨he, g⟩
  obtain ⟨S', h1, _⟩ := h.went g
  exact ⟨he, S', h1⟩
theorem ccrash (h : Ds w0 w db S d) (n : Int) :
    Calls Try.prog 10 #[.pointer (some ⟨db, 0, none⟩), .int .i64 n] w fun e w' => e = .returned (.tuple #[]) ∧ ∃ S', Ds w0 w' db S' (crD (u64N n) d) := by
  refine (dcrash_any h.disk n).mono ?_
  rintro e w' ⟨he, g⟩
  obtain ⟨S', h1, _⟩ := h.went g
  exact ⟨he, S', h1⟩
theorem carm (h : Ds w0 w db S d) (n : Int) (hlo : -9223372036854775808 ≤ n) (hhi : n ≤ 9223372036854775807) :
    Calls Try.prog 26 #[.pointer (some ⟨db, 0, none⟩), .int .i64 n] w fun e w' => e = .returned (.tuple #[]) ∧ ∃ S', Ds w0 w' db S' (armD d n) := by
  refine (darm_any h.disk n hlo hhi).mono ?_
  rintro e w' ⟨he, g⟩
  obtain ⟨S', h1, _⟩ := h.went g
  exact ⟨he, S', h1⟩
end

theorem size_one (c : UInt8) : (⟨#[c]⟩ : ByteArray).size ≤ maxLen := by unfold maxLen; show 1 ≤ _; decide

set_option maxRecDepth 100000 in
set_option maxHeartbeats 2000000 in
theorem awake5_any (w : World) :
    Calls Try.prog 8 #[] w fun e w' => e = .returned (.bool true) ∧ Below w.heap.size w w' := by
  have kc := fun (w : World) (C : Array Value) (n c : Nat) => Lib.run_convert_bytes_const (P := Try.prog) w 28 5 C n c Try.underlying28 Try.underlying5
  go_enter Try.func8, Try.ntmps8
  go_wp2_with fail
  refine (dnew_any w).mono ?_
  rintro e w1 ⟨rfl, g1⟩
  obtain ⟨S1, ds1⟩ := Ds.new g1
  have A1 := cappend_const (s := ⟨#[97]⟩) ds1 (size_one _) [120, 121, 122] (by decide) #[.int .u8 120, .int .u8 121, .int .u8 122] rfl (3, 4) 3 rfl
  have e1 : apE ⟨[], false, 0, false⟩ ⟨#[97]⟩ 3 = 0 := by decide
  have e1' : apD ⟨[], false, 0, false⟩ ⟨#[97]⟩ [120, 121, 122] = ⟨[⟨⟨#[97]⟩, [120, 121, 122], 0⟩], false, 0, false⟩ := by rfl
  rw [e1, e1'] at A1
  have A1H := hide A1
  clear A1 e1 e1' g1 ds1
  go_wp2_with fail
  refine (unhide A1H).mono ?_
  rintro e w2 ⟨rfl, S2, ds2⟩
  have A2 := csync (s := ⟨#[97]⟩) ds2 (size_one _)
  have e2 : findE false [⟨⟨#[97]⟩, [120, 121, 122], 0⟩] ⟨#[97]⟩ = 0 := by decide
  have e2' : syD ⟨[⟨⟨#[97]⟩, [120, 121, 122], 0⟩], false, 0, false⟩ ⟨#[97]⟩ = ⟨[⟨⟨#[97]⟩, [120, 121, 122], 3⟩], false, 0, false⟩ := by rfl
  simp only at A2
  rw [e2, e2'] at A2
  have A2H := hide A2
  clear A2 e2 e2' ds2 A1H
  go_wp2_with fail
  refine (unhide A2H).mono ?_
  rintro e w3 ⟨rfl, S3, ds3⟩
  have A3 := cappend_const (s := ⟨#[97]⟩) ds3 (size_one _) [117, 118, 119] (by decide) #[.int .u8 117, .int .u8 118, .int .u8 119] rfl (3, 4) 3 rfl
  have e3 : apE ⟨[⟨⟨#[97]⟩, [120, 121, 122], 3⟩], false, 0, false⟩ ⟨#[97]⟩ 3 = 0 := by decide
  have e3' : apD ⟨[⟨⟨#[97]⟩, [120, 121, 122], 3⟩], false, 0, false⟩ ⟨#[97]⟩ [117, 118, 119] = ⟨[⟨⟨#[97]⟩, [120, 121, 122, 117, 118, 119], 3⟩], false, 0, false⟩ := by rfl
  rw [e3, e3'] at A3
  have A3H := hide A3
  clear A3 e3 e3' ds3 A2H
  go_wp2_with fail
  refine (unhide A3H).mono ?_
  rintro e w4 ⟨rfl, S4, ds4⟩
  have A4 := ccrash ds4 2
  have e4 : crD (u64N 2) ⟨[⟨⟨#[97]⟩, [120, 121, 122, 117, 118, 119], 3⟩], false, 0, false⟩ = ⟨[⟨⟨#[97]⟩, [120, 121, 122, 117, 118], 5⟩], false, 0, false⟩ := by rfl
  rw [e4] at A4
  have A4H := hide A4
  clear A4 e4 ds4 A3H
  go_wp2_with fail
  refine (unhide A4H).mono ?_
  rintro e w5 ⟨rfl, S5, ds5⟩
  have A5 := dread_any (s := ⟨#[97]⟩) ds5.disk (size_one _)
  have e5 : findE false [⟨⟨#[97]⟩, [120, 121, 122, 117, 118], 5⟩] ⟨#[97]⟩ = 0 := by decide
  have e5' : (rdF ⟨[⟨⟨#[97]⟩, [120, 121, 122, 117, 118], 5⟩], false, 0, false⟩ ⟨#[97]⟩).text = [120, 121, 122, 117, 118] := by rfl
  simp only at A5
  rw [e5, e5'] at A5
  have A5H := hide A5
  have B5 := hide ds5.below
  clear A5 e5 e5' ds5 A4H
  go_wp2_with fail
  refine (unhide A5H).mono ?_
  rintro e w6 ⟨v6, rfl, r6, n6, b6⟩
  have B6 := hide ((unhide B5).trans (b6.mono (unhide B5).size))
  obtain ⟨x4, y4, rfl, l4, _⟩ := r6.parts
  obtain ⟨cb, off, rfl, _, q0, _⟩ := l4.cell (i := 0) (by simp)
  have CV := run_convert_bytes_back (P := Try.prog) w6 28 9 5 ⟨cb, off, none⟩ y4 [120, 121, 122, 117, 118] Try.underlying28 Try.underlying5 Try.underlying9 (fun j hj => by
    obtain ⟨_, _, e', _, q1, _⟩ := l4.cell (i := j) (by simpa using hj)
    cases e'
    have hadd : Addr.add ⟨cb, off, none⟩ j = ⟨cb, off + j, none⟩ := by
      unfold Addr.add
      split
      · rename_i h0; subst h0; rfl
      · rfl
    rw [hadd, q1]
    match j, hj with
    | 0, _ => rfl
    | 1, _ => rfl
    | 2, _ => rfl
    | 3, _ => rfl
    | 4, _ => rfl)
  have CV2 : Sem.run Try.prog (convert 28 9 (.slice (some ⟨cb, off, none⟩) 5 y4)) w6 = .ok (.string ⟨#[120, 121, 122, 117, 118]⟩) w6 := CV
  clear r6 n6 b6 l4 q0 A5H CV B5
  go_wp2
  go_returns
  exact ⟨by simp, unhide B6⟩
end Go.Proofs.Ytfccddcoindnlab
