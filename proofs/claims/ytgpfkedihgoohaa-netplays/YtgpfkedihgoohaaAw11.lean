/-
  A net of the call's own; 'awake' of layer 11. No conditions.
-/
import Derived.Test.YtgpfkedihgoohaaSm11
import Derived.Lib.SlBytesConst
import Derived.Laws.IdiomStrings
namespace Go.Proofs.Ytgpfkedihgoohaa
open Go.RowKit
set_option linter.unusedVariables false

/-- A net of the call's own: all its blocks are new since w0, and nothing old has turned. -/
structure ND (w0 w : World) (nb : Nat) (R : Nat → Prop) (qs : List Pa) (D : Cts) : Prop where
  net : NS w nb R qs D
  base : ∀ k, R k → w0.heap.size ≤ k
  below : Below w0.heap.size w0 w
theorem ND.post {w0 w w' : World} {nb : Nat} {R : Nat → Prop} {qs qs' : List Pa} {D D' : Cts} (h : ND w0 w nb R qs D) (g : NPost w nb R qs' D' w') : ∃ R', ND w0 w' nb R' qs' D' ∧ (∀ k, R' k → R k ∨ w.heap.size ≤ k) ∧ Touch R w w' := by
  obtain ⟨R', g1, g2, g3⟩ := g
  exact ⟨R', ⟨g1, fun k hk => by rcases g3 k hk with e | e; exact h.base k e; exact Nat.le_trans h.below.size e, below_touch h.below g2 h.below.size h.base⟩, g3, g2⟩
theorem ND.later {w0 w w' : World} {nb : Nat} {R : Nat → Prop} {qs : List Pa} {D : Cts} (h : ND w0 w nb R qs D) (hb : Below w.heap.size w w') : ND w0 w' nb R qs D := ⟨h.net.later hb, h.base, h.below.trans (hb.mono h.below.size)⟩
theorem ND.keep {w0 w w' : World} {nb : Nat} {R S : Nat → Prop} {qs : List Pa} {D : Cts} (h : ND w0 w nb R qs D) (t : Touch S w w') (hs : ∀ k, R k → ¬ S k) (hS : ∀ k, S k → w0.heap.size ≤ k) : ND w0 w' nb R qs D := ⟨h.net.keep t hs, h.base, below_touch h.below t h.below.size hS⟩
theorem ND.new (w : World) : ND w (w.alloc (.cells #[.slice none 0 0, .map none] 56)) w.heap.size (· = w.heap.size) [] [] := ⟨NS.new w, fun k hk => by omega, (Below.refl _ _).alloc (Nat.le_refl _) _⟩
/-- A constant's bytes, in a block of their own. -/
theorem LAt.const (w : World) (l : List Nat) (h : ∀ x ∈ l, x < 256) (cs : Array Value) (hcs : cs.toList = vals l) (fr : Nat × Nat) : LAt (w.alloc (.cells cs 5 fr)) (some ⟨w.heap.size, 0, none⟩) l := by
  intro i hi
  refine ⟨w.heap.size, 0, rfl, by simp, ?_, ?_⟩
  · rw [cell_of' (heap_new _ _), Nat.zero_add, ← Array.getElem?_toList, hcs]
    exact vals_at hi
  · have : l.getD i 0 = l[i] := by simp [List.getD, hi]
    show l.getD i 0 < 256
    rw [this]
    exact h _ (List.getElem_mem hi)
set_option maxRecDepth 100000 in
set_option maxHeartbeats 2000000 in
theorem awake11_any (w : World) : Calls Try.prog 10 #[] w fun e w' => e = .returned (.bool true) ∧ Below w.heap.size w w' := by
  have kc := fun (w : World) (C : Array Value) (n c : Nat) => Lib.run_convert_bytes_const (P := Try.prog) w 31 5 C n c Try.underlying31 Try.underlying5
  go_enter Try.func10, Try.ntmps10
  go_wp2_with fail
  refine (new11_any w).mono ?_
  rintro e w1 ⟨rfl, rfl⟩
  have N1 := ND.new w
  generalize w.alloc (.cells #[.slice none 0 0, .map none] 56) = w1 at *
  have S1 : Hid (Calls Try.prog 12 #[.pointer (some ⟨w.heap.size, 0, none⟩), .agg #[.int .i64 1, .int .i64 2, .slice none 0 0]] w1 fun e w' => e = .returned (.bool true) ∧ NPost w1 w.heap.size (· = w.heap.size) [⟨1, 2, []⟩] [] w') :=
    send_any N1.net (p := ⟨1, 2, none, 0, []⟩) ⟨fun i hi => by simp at hi, fun _ => rfl, by unfold InR; simp, by unfold InR; simp, by simp⟩
  have H1 := hide N1
  clear N1
  go_wp2_with fail
  refine (unhide S1).mono ?_
  rintro e w2 ⟨rfl, np2⟩
  obtain ⟨R2, N2, _⟩ := (unhide H1).post np2
  clear np2 S1 H1
  have hA : ∀ fr, Below w2.heap.size w2 (w2.alloc (.cells #[.int .u8 98] 5 fr)) := fun fr => (Below.refl _ _).alloc (Nat.le_refl _) _
  have S2 : Hid (∀ fr, Calls Try.prog 12 #[.pointer (some ⟨w.heap.size, 0, none⟩), .agg #[.int .i64 2, .int .i64 1, .slice (some ⟨w2.heap.size, 0, none⟩) 1 1]] (w2.alloc (.cells #[.int .u8 98] 5 fr)) fun e w' => e = .returned (.bool true) ∧ NPost (w2.alloc (.cells #[.int .u8 98] 5 fr)) w.heap.size R2 [⟨1, 2, []⟩, ⟨2, 1, [98]⟩] [] w') := fun fr =>
    send_any (N2.later (hA fr)).net (p := ⟨2, 1, some ⟨w2.heap.size, 0, none⟩, 1, [98]⟩) ⟨LAt.const w2 [98] (by decide) #[.int .u8 98] rfl fr, (fun h => by cases h), by unfold InR; simp, by unfold InR; simp, by simp⟩
  have H2 : Hid (∀ fr, ND w (w2.alloc (.cells #[.int .u8 98] 5 fr)) w.heap.size R2 [⟨1, 2, []⟩] []) := fun fr => N2.later (hA fr)
  clear N2 hA
  go_wp2_with fail
  refine (unhide S2 _).mono ?_
  rintro e w3 ⟨rfl, np3⟩
  obtain ⟨R3, N3, _⟩ := (unhide H2 _).post np3
  clear np3 S2 H2
  have T3 : Hid (Calls Try.prog 15 #[.pointer (some ⟨w.heap.size, 0, none⟩), .int .i64 (-1)] w3 fun e w' => ∃ p', e = .returned (.tuple #[pkV p', .bool true]) ∧ p'.abs = ⟨2, 1, [98]⟩ ∧ PRow w' p' ∧ NPost w3 w.heap.size R3 [⟨1, 2, []⟩] [] w') := take_any N3.net (-1) (by unfold InR; simp)
  have H3 := hide N3
  clear N3
  go_wp2_with fail
  refine (unhide T3).mono ?_
  rintro e w4 ⟨p', rfl, ha, pr, np4⟩
  obtain ⟨R4, N4, _⟩ := (unhide H3).post np4
  clear np4 T3 H3
  obtain ⟨fr', to', a', c', l'⟩ := p'
  simp only [Pk.abs, Pa.mk.injEq] at ha
  obtain ⟨rfl, rfl, rfl⟩ := ha
  have pin := pr.pin
  have hA : Below w4.heap.size w4 (w4.alloc (.cells #[.int .i64 2, .int .i64 1, .slice a' 1 c'] 33)) := (Below.refl _ _).alloc (Nat.le_refl _) _
  have N5 := N4.later hA
  have CT := hide (Count_any N5.net)
  have B5 := hide N5.below
  have l4 := (pin.at_).later hA
  have G : (w4.alloc (.cells #[.int .i64 2, .int .i64 1, .slice a' 1 c'] 33)).heap[w4.heap.size]? = some (.cells #[.int .i64 2, .int .i64 1, .slice a' 1 c'] 33) := heap_new _ _
  have x0 : (w4.alloc (.cells #[.int .i64 2, .int .i64 1, .slice a' 1 c'] 33)).cell? ⟨w4.heap.size, 0, none⟩ = some (.int .i64 2) := by rw [cell_of G]; rfl
  have x2 : (w4.alloc (.cells #[.int .i64 2, .int .i64 1, .slice a' 1 c'] 33)).cell? ⟨w4.heap.size, 2, none⟩ = some (.slice a' 1 c') := by rw [cell_of G]; rfl
  clear G hA N4 N5 pr pin
  simp only at l4
  obtain ⟨cb, off, rfl, _, q0, _⟩ := l4.cell (i := 0) (by simp)
  have CV := run_convert_bytes_back (P := Try.prog) (w4.alloc (.cells #[.int .i64 2, .int .i64 1, .slice (some ⟨cb, off, none⟩) 1 c'] 33)) 31 9 5 ⟨cb, off, none⟩ c' [98] Try.underlying31 Try.underlying5 Try.underlying9 (fun j hj => by
    obtain ⟨_, _, e', _, q1, _⟩ := l4.cell (i := j) (by simpa using hj)
    cases e'
    rw [addr_add, q1]
    match j, hj with
    | 0, _ => rfl)
  have CV2 : Sem.run Try.prog (convert 31 9 (.slice (some ⟨cb, off, none⟩) 1 c')) (w4.alloc (.cells #[.int .i64 2, .int .i64 1, .slice (some ⟨cb, off, none⟩) 1 c'] 33)) = .ok (.string ⟨#[98]⟩) (w4.alloc (.cells #[.int .i64 2, .int .i64 1, .slice (some ⟨cb, off, none⟩) 1 c'] 33)) := CV
  clear CV l4 q0
  go_wp2_with fail
  generalize w4.alloc (.cells #[.int .i64 2, .int .i64 1, .slice (some ⟨cb, off, none⟩) 1 c'] 33) = w5 at *
  refine (unhide CT).mono ?_
  rintro e w6 ⟨rfl, rfl⟩
  clear CT
  go_wp2
  go_returns
  exact ⟨by simp, unhide B5⟩
end Go.Proofs.Ytgpfkedihgoohaa
