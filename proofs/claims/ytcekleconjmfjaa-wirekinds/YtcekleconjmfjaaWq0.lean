/-
  A codec.Writer among foreign blocks, each call told in one form; need, needKind, needCount. Conditions: what is laid together has at most 2^46 bytes.
-/
import Derived.Test.YtcekleconjmfjaaWc
import Derived.Deep.MidRow
import Derived.Deep.CutBlock
namespace Go.Proofs.Ytcekleconjmfjaa
open Go.RowKit
set_option linter.unusedVariables false

/-- What was laid, and whether a piece was too long. -/
abbrev Ws := List Nat × Bool
def wX (s : Ws) (x : List Nat) : Ws := (lays s.2 s.1 x, s.2)
def wB (s : Ws) (d : List Nat) : Ws := if 4096 < d.length then ([], true) else wX s (enc d.length ++ d)
theorem wX_len (s : Ws) (x : List Nat) : (wX s x).1.length ≤ s.1.length + x.length := lays_len _ _ _
theorem wX_wX (s : Ws) (x y : List Nat) : wX (wX s x) y = wX s (x ++ y) := by simp only [wX, lays_lays]
theorem wX_nil (s : Ws) : wX s [] = s := by simp only [wX, lays_nil]
theorem wB_len (s : Ws) (d : List Nat) : (wB s d).1.length ≤ s.1.length + 4106 := by
  unfold wB
  split
  · simp
  · have := wX_len s (enc d.length ++ d)
    have h := enc_len10 (n := d.length) (by omega)
    rw [List.length_append] at this
    omega
/-- A writer; N are the blocks that it may not touch; w0 is the world in which the message lay. -/
structure Wq (w0 : World) (N : Nat → Prop) (w : World) (b : Nat) (s : Ws) : Prop where
  out : ∃ v, WrAt w b v s.1 s.2 ∧ ∀ k, v.ownBlock = some k → ¬ N k
  nb : ¬ N b
  old : ∀ k, N k → k < w.heap.size
  base : Below w0.heap.size w0 w
  low : ∀ k, k < w0.heap.size → N k
def Off (N : Nat → Prop) (k : Nat) : Prop := ¬ N k
theorem Wq.next {w0 w w' : World} {N : Nat → Prop} {b : Nat} {v v' : Value} {l' : List Nat} {lg' : Bool} (hv : ∀ k, v.ownBlock = some k → ¬ N k) (nb : ¬ N b) (old : ∀ k, N k → k < w.heap.size) (hB : Below w0.heap.size w0 w) (hL : ∀ k, k < w0.heap.size → N k) (hw : WrV w' (.pointer (some ⟨b, 0, none⟩)) v' l' lg') (st : Step (.pointer (some ⟨b, 0, none⟩)) w v w' v') : Wq w0 N w' b (l', lg') ∧ Touch (Off N) w w' := by
  have t : Touch (Off N) w w' := st.touch.mono (fun k hk => by
    rcases hk with e | e
    · cases e; exact nb
    · exact hv k e)
  refine ⟨⟨⟨v', hw.at, fun k hk hn => ?_⟩, nb, fun k hk => Nat.lt_of_lt_of_le (old k hk) t.size, below_touch hB t hB.size (fun k hk => ?_), hL⟩, t⟩
  · rcases st.moved k hk with e | e
    · exact hv k e hn
    · have := old k hn; omega
  · exact Nat.le_of_not_lt (fun h => hk (hL k h))
theorem Wq.lt {w0 w : World} {N : Nat → Prop} {b : Nat} {s : Ws} (h : Wq w0 N w b s) : b < w.heap.size := by
  obtain ⟨⟨v, h1, _⟩, _, _⟩ := h
  exact lt_of_heap h1.heap
theorem Wq.later {w0 w w' : World} {N : Nat → Prop} {b : Nat} {s : Ws} (h : Wq w0 N w b s) (hb : Below w.heap.size w w') : Wq w0 N w' b s := by
  obtain ⟨⟨v, h1, h2⟩, h3, h4, h5, h6⟩ := h
  have hv : WrV w (.pointer (some ⟨b, 0, none⟩)) v s.1 s.2 := .inr ⟨b, rfl, h1⟩
  exact ⟨⟨v, (hv.later hb).at, h2⟩, h3, fun k hk => Nat.lt_of_lt_of_le (h4 k hk) hb.size, h5.trans (hb.mono h5.size), h6⟩
/-- More foreign blocks: those that were laid since. -/
def Gr (N : Nat → Prop) (w w1 : World) (k : Nat) : Prop := N k ∨ (w.heap.size ≤ k ∧ k < w1.heap.size)
theorem Wq.grow {w0 w w1 : World} {N : Nat → Prop} {b : Nat} {s : Ws} (h : Wq w0 N w b s) (hb : Below w.heap.size w w1) : Wq w0 (Gr N w w1) w1 b s := by
  have hbl := h.lt
  obtain ⟨⟨v, h1, h2⟩, h3, h4, h5, h6⟩ := h
  have hv : WrV w (.pointer (some ⟨b, 0, none⟩)) v s.1 s.2 := .inr ⟨b, rfl, h1⟩
  refine ⟨⟨v, (hv.later hb).at, fun k hk hn => ?_⟩, fun hn => ?_, fun k hk => ?_, h5.trans (hb.mono h5.size), fun k hk => .inl (h6 k hk)⟩
  · rcases hn with e | e
    · exact h2 k hk e
    · have := hv.lt k hk; omega
  · rcases hn with e | e
    · exact h3 e
    · omega
  · rcases hk with e | e
    · exact Nat.lt_of_lt_of_le (h4 k e) hb.size
    · exact e.2
/-- Back to fewer foreign blocks. -/
theorem Wq.leave {w0 w w1 w' : World} {N : Nat → Prop} {b : Nat} {s : Ws} (h : Wq w0 (Gr N w w1) w' b s) (hb : Below w.heap.size w w1) (hN : ∀ k, N k → k < w.heap.size) (hL : ∀ k, k < w0.heap.size → N k) (t : Touch (Off (Gr N w w1)) w1 w') : Wq w0 N w' b s ∧ Touch (Off N) w w' := by
  obtain ⟨⟨v, h1, h2⟩, h3, h4, h5, h6⟩ := h
  exact ⟨⟨⟨v, h1, fun k hk hn => h2 k hk (.inl hn)⟩, fun hn => h3 (.inl hn), fun k hk => h4 k (.inl hk), h5, hL⟩, (Touch.of_below (S := Off N) hb).trans (t.mono (fun k hk hn => hk (.inl hn)))⟩
theorem Off.leave {w w1 w' : World} {N : Nat → Prop} (hb : Below w.heap.size w w1) (t : Touch (Off (Gr N w w1)) w1 w') : Touch (Off N) w w' := (Touch.of_below (S := Off N) hb).trans (t.mono (fun k hk hn => hk (.inl hn)))
theorem Gr.keep {w w1 w' : World} {N : Nat → Prop} (t : Touch (Off (Gr N w w1)) w1 w') {k : Nat} {o : Obj} (h : w1.heap[k]? = some o) (hk : w.heap.size ≤ k) : w'.heap[k]? = some o :=
  t.keep h (fun hn => hn (.inr ⟨hk, lt_of_heap h⟩))
theorem Wq.lat {w0 w : World} {N : Nat → Prop} {b : Nat} {s : Ws} (h : Wq w0 N w b s) {a : Option Addr} {d : List Nat} (hd : LAt w0 a d) : LAt w a d ∧ (0 < d.length → ∀ x, a = some x → N x.block) := by
  refine ⟨hd.later h.base, fun h0 x hx => h.low _ ?_⟩
  obtain ⟨b', o', e, hlt, _⟩ := hd 0 h0
  rw [hx] at e
  cases e
  exact hlt
theorem Wq.iat {w0 w : World} {N : Nat → Prop} {b : Nat} {s : Ws} (h : Wq w0 N w b s) {a : Option Addr} {d : List Int} (hd : IAt w0 a d) : IAt w a d ∧ (0 < d.length → ∀ x, a = some x → N x.block) := by
  refine ⟨hd.later h.base, fun h0 x hx => h.low _ ?_⟩
  obtain ⟨b', o', e, hlt, _⟩ := hd 0 h0
  rw [hx] at e
  cases e
  exact hlt
def WD (w0 : World) (N : Nat → Prop) (w : World) (b : Nat) (s : Ws) (e : Ending) (w' : World) : Prop := e = .returned (.tuple #[]) ∧ Wq w0 N w' b s ∧ Touch (Off N) w w'
section
variable {w0 w : World} {N : Nat → Prop} {b : Nat} {s : Ws}
theorem uint_q (n : Nat) (h : Wq w0 N w b s) (hn : n < 18446744073709551616) (hl : s.1.length ≤ 70368744177664) :
    Calls Try.prog 65 #[.pointer (some ⟨b, 0, none⟩), .int .u64 n] w fun e w' => WD w0 N w b (wX s (enc n)) e w' := by
  obtain ⟨⟨v, h1, h2⟩, h3, h4, h5, h6⟩ := h
  refine (wuint_any _ v s.1 s.2 n w (.inr ⟨b, rfl, h1⟩) hn (by omega)).mono ?_
  rintro e w' ⟨he, v', hw, st⟩
  exact ⟨he, Wq.next h2 h3 h4 h5 h6 hw st⟩
theorem int_q (i : Int) (h : Wq w0 N w b s) (h1 : -9223372036854775808 ≤ i) (h2 : i < 9223372036854775808) (hl : s.1.length ≤ 70368744177664) :
    Calls Try.prog 57 #[.pointer (some ⟨b, 0, none⟩), .int .i64 i] w fun e w' => WD w0 N w b (wX s (enc (zig i))) e w' := by
  obtain ⟨⟨v, g1, g2⟩, g3, g4, g5, g6⟩ := h
  refine (wint_any _ v s.1 s.2 i w (.inr ⟨b, rfl, g1⟩) h1 h2 (by omega)).mono ?_
  rintro e w' ⟨he, v', hw, st⟩
  exact ⟨he, Wq.next g2 g3 g4 g5 g6 hw st⟩
theorem flag_q (q : Bool) (h : Wq w0 N w b s) (hl : s.1.length ≤ 70368744177664) :
    Calls Try.prog 58 #[.pointer (some ⟨b, 0, none⟩), .bool q] w fun e w' => WD w0 N w b (wX s [q.toNat]) e w' := by
  obtain ⟨⟨v, g1, g2⟩, g3, g4, g5, g6⟩ := h
  refine (wflag_any _ v s.1 s.2 q w (.inr ⟨b, rfl, g1⟩) (by omega)).mono ?_
  rintro e w' ⟨he, v', hw, st⟩
  exact ⟨he, Wq.next g2 g3 g4 g5 g6 hw st⟩
theorem bytes_q (ao : Option Addr) (c : Nat) (d : List Nat) (h : Wq w0 N w b s) (hb : LAt w ao d) (hn : ao = none → c = 0) (hs : 0 < d.length → ∀ x, ao = some x → N x.block) (hl : s.1.length ≤ 70368744177664) :
    Calls Try.prog 61 #[.pointer (some ⟨b, 0, none⟩), .slice ao d.length c] w fun e w' => WD w0 N w b (wB s d) e w' := by
  obtain ⟨⟨v, g1, g2⟩, g3, g4, g5, g6⟩ := h
  unfold wB
  by_cases h4 : 4096 < d.length
  · rw [if_pos h4]
    refine (wbytes_long _ v s.1 s.2 ao d.length c w (.inr ⟨b, rfl, g1⟩) h4).mono ?_
    rintro e w' ⟨he, hw, st⟩
    exact ⟨he, Wq.next g2 g3 g4 g5 g6 hw st⟩
  · rw [if_neg h4]
    refine (wbytes_any _ v s.1 s.2 ao c d w (.inr ⟨b, rfl, g1⟩) hb hn (fun h0 x hx hm => ?_) (by omega) (by omega)).mono ?_
    · have hN := hs h0 x hx
      rcases hm with e | e
      · cases e; exact g3 hN
      · exact g2 _ e hN
    · rintro e w' ⟨he, v', hw, st⟩
      exact ⟨he, Wq.next g2 g3 g4 g5 g6 hw st⟩
theorem ints_q (ao : Option Addr) (c : Nat) (ls : List Int) (h : Wq w0 N w b s) (hb : IAt w ao ls) (hs : 0 < ls.length → ∀ x, ao = some x → N x.block) (hf : ∀ x ∈ ls, -9223372036854775808 ≤ x ∧ x < 9223372036854775808) (hm : ls.length ≤ 4096) (hl : s.1.length ≤ 70368744177664) :
    Calls Try.prog 67 #[.pointer (some ⟨b, 0, none⟩), .slice ao ls.length c] w fun e w' => WD w0 N w b (wX s (enc ls.length ++ encL ls)) e w' := by
  obtain ⟨⟨v, g1, g2⟩, g3, g4, g5, g6⟩ := h
  refine (wints_any _ v s.1 s.2 ao c ls w (.inr ⟨b, rfl, g1⟩) hb (fun h0 x hx hm => ?_) hf (by omega) (.inl (by omega))).mono ?_
  · have hN := hs h0 x hx
    rcases hm with e | e
    · cases e; exact g3 hN
    · exact g2 _ e hN
  · rintro e w' ⟨he, v', hw, st⟩
    exact ⟨he, Wq.next g2 g3 g4 g5 g6 hw st⟩
end
/-- The panic by which a call gives up. -/
abbrev gone (E : Int) : Ending := .panicked [{ v := .iface 22 (.int .i64 E), recovered := false }]
set_option maxHeartbeats 1000000 in
theorem need_any (E : Int) (w : World) : Calls Try.prog 54 #[.int .i64 E] w fun e w' => w' = w ∧ (E = 0 → e = .returned (.tuple #[])) ∧ (E ≠ 0 → e = gone E) := by
  by_cases h : E = 0
  · subst h
    go_enter Try.func54, Try.ntmps54
    go_wp2
    go_returns
    exact ⟨rfl, fun _ => rfl, fun h => absurd rfl h⟩
  · have hb : (E == 0) = false := by simpa using h
    go_enter Try.func54, Try.ntmps54
    go_wp2
    exact ⟨rfl, rfl, fun h0 => absurd h0 h, fun _ => rfl⟩
def kndE (k : Int) : Int := if k < 1 ∨ 15 < k then 1 else 0
def cntE (n : Nat) : Int := if 512 < n then 2 else 0
theorem needKind_ok {k : Int} (w : World) (h : kndE k = 0) : Calls Try.prog 40 #[.int .i64 k] w fun e w' => e = .returned (.tuple #[]) ∧ w' = w := by
  have h2 : 1 ≤ k ∧ k ≤ 15 := by
    unfold kndE at h
    split at h
    · cases h
    · omega
  have h3 : ¬ k < 1 := by omega
  have h4 : ¬ 15 < k := by omega
  go_enter Try.func40, Try.ntmps40
  go_wp2
  go_returns
  exact ⟨rfl, rfl⟩
theorem needKind_no {k : Int} (w : World) (h : kndE k ≠ 0) : Calls Try.prog 40 #[.int .i64 k] w fun e w' => e = gone 1 ∧ w' = w := by
  have h2 : k < 1 ∨ 15 < k := by
    unfold kndE at h
    split at h
    · assumption
    · exact absurd rfl h
  have K := hide (need_any 1 w)
  by_cases h3 : k < 1
  · go_enter Try.func40, Try.ntmps40
    go_wp2_with (go_at_call 54; refine (unhide K).mono ?_; rintro e w1 ⟨rfl, _, he⟩; obtain rfl := he (by decide); clear he)
    exact ⟨rfl, rfl, rfl⟩
  · have h4 : 15 < k := by omega
    go_enter Try.func40, Try.ntmps40
    go_wp2_with (go_at_call 54; refine (unhide K).mono ?_; rintro e w1 ⟨rfl, _, he⟩; obtain rfl := he (by decide); clear he)
    exact ⟨rfl, rfl, rfl⟩
theorem needCount_ok {n : Nat} (w : World) (h : cntE n = 0) : Calls Try.prog 66 #[.int .u64 (n : Int)] w fun e w' => e = .returned (.tuple #[]) ∧ w' = w := by
  have h2 : ¬ (512 : Int) < (n : Int) := by
    unfold cntE at h
    split at h
    · cases h
    · omega
  go_enter Try.func66, Try.ntmps66
  go_wp2
  go_returns
  exact ⟨rfl, rfl⟩
theorem needCount_no {n : Nat} (w : World) (h : cntE n ≠ 0) : Calls Try.prog 66 #[.int .u64 (n : Int)] w fun e w' => e = gone 2 ∧ w' = w := by
  have h2 : (512 : Int) < (n : Int) := by
    unfold cntE at h
    split at h
    · omega
    · exact absurd rfl h
  have K := hide (need_any 2 w)
  go_enter Try.func66, Try.ntmps66
  go_wp2_with (go_at_call 54; refine (unhide K).mono ?_; rintro e w1 ⟨rfl, _, he⟩; obtain rfl := he (by decide); clear he)
  exact ⟨rfl, rfl, rfl⟩
end Go.Proofs.Ytcekleconjmfjaa
