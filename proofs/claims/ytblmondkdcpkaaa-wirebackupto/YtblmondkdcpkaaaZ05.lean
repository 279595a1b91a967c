/-
  wire.tried: what gives up is told as an error. Conditions: as each says.
-/
import Derived.Test.YtblmondkdcpkaaaZ04
import Derived.Deep.MidRow
import Derived.Deep.CutBlock
import Derived.Defers
import Derived.Recover
import Derived.Shelf.Abstract

/-
  The statements' own helpers of layer 3: 'awake' answers true; 'take' answers true, and both readers go on alike. Conditions: the bytes are at most 2^47.
-/
namespace Go.Proofs.Ytblmondkdcpkaaa
open Go.RowKit
set_option linter.unusedVariables false

theorem WrV.at {w : World} {b : Nat} {v : Value} {l : List Nat} {long : Bool} (h : WrV w (.pointer (some ⟨b, 0, none⟩)) v l long) : WrAt w b v l long := by
  rcases h with ⟨h, _⟩ | ⟨b', h, h'⟩
  · cases h
  · cases h; exact h'
theorem step_below {B : Nat} {pv v v' : Value} {w0 w w' : World} (h : Below B w0 w) (hB : B ≤ w.heap.size) (st : Step pv w v w' v') (hm : ∀ k, Mine pv v k → B ≤ k) : Below B w0 w' := below_touch h st.touch hB hm
theorem mine_new {B b : Nat} {v : Value} {w : World} (hb : B ≤ b) (hv : ∀ k, v.ownBlock = some k → B ≤ k) (_ : w = w) : ∀ k, Mine (.pointer (some ⟨b, 0, none⟩)) v k → B ≤ k := by
  rintro k (e | e)
  · cases e; exact hb
  · exact hv k e
theorem below_drewN' {B : Nat} {w0 w : World} (h : Below B w0 w) (n : Nat) : Below B w0 (w.drewN n) := h.trans ⟨rfl, rfl, rfl, Nat.le_refl _, fun _ _ => rfl⟩
theorem rU_300 : rU [172, 2] ⟨0, 0⟩ = (300, ⟨2, 0⟩) := by simp [rU, numA]
theorem rE_300 : rE [172, 2] ⟨2, 0⟩ = 0 := by simp [rE]
theorem enc_300 : enc 300 = [172, 2] := by rw [enc_ge (by omega), enc_lt (by omega)]

end Go.Proofs.Ytblmondkdcpkaaa


/-
  A writer of the call's own, and a reader of the call's own, each call told in one form. Conditions: what is laid together has at most 2^47 bytes.
-/
namespace Go.Proofs.Ytblmondkdcpkaaa
open Go.RowKit
set_option linter.unusedVariables false

/-- A writer that the call has made; nothing old has turned. -/
structure Wc (w0 w : World) (b : Nat) (v : Value) (l : List Nat) : Prop where
  at_ : WrAt w b v l false
  below : Below w0.heap.size w0 w
  hb : w0.heap.size ≤ b
  hv : New w0 v
theorem Wc.mine {w0 w : World} {b : Nat} {v : Value} {l : List Nat} (h : Wc w0 w b v l) : ∀ k, Mine (.pointer (some ⟨b, 0, none⟩)) v k → w0.heap.size ≤ k := mine_new h.hb h.hv (w := w) rfl
theorem Wc.step {w0 w w' : World} {b : Nat} {v v' : Value} {l l' : List Nat} (h : Wc w0 w b v l) (hw : WrV w' (.pointer (some ⟨b, 0, none⟩)) v' l' false) (st : Step (.pointer (some ⟨b, 0, none⟩)) w v w' v') : Wc w0 w' b v' l' :=
  ⟨hw.at, step_below h.below h.below.size st h.mine, h.hb, h.hv.moved st.moved h.below.size⟩
theorem Wc.later {w0 w w' : World} {b : Nat} {v : Value} {l : List Nat} (h : Wc w0 w b v l) (hb : Below w.heap.size w w') : Wc w0 w' b v l :=
  ⟨(WrV.later (.inr ⟨b, rfl, h.at_⟩) hb).at, h.below.trans (hb.mono h.below.size), h.hb, h.hv⟩
theorem Wc.v {w0 w : World} {b : Nat} {v : Value} {l : List Nat} (h : Wc w0 w b v l) : WrV w (.pointer (some ⟨b, 0, none⟩)) v l false := .inr ⟨b, rfl, h.at_⟩
theorem Wc.touch {w0 w w' : World} {b : Nat} {v : Value} {l : List Nat} {S : Nat → Prop} (h : Wc w0 w b v l) (t : Touch S w w') (hs : ∀ k, S k → w0.heap.size ≤ k) (ho : ∀ k, Mine (.pointer (some ⟨b, 0, none⟩)) v k → ¬ S k) : Wc w0 w' b v l :=
  ⟨(h.v.keep t ho).at, below_touch h.below t h.below.size hs, h.hb, h.hv⟩

theorem new_c (w : World) :
    Calls Try.prog 28 #[] w fun e w' => e = .returned (.pointer (some ⟨w.heap.size, 0, none⟩)) ∧ Wc w w' w.heap.size (.slice none 0 0) [] :=
  (newwriter_any w).mono fun _ _ ⟨he, h, b⟩ => ⟨he, h, b, Nat.le_refl _, New.nil _⟩
theorem uint_c {w0 w : World} {b : Nat} {v : Value} {l : List Nat} (n : Nat) (h : Wc w0 w b v l) (hn : n < 18446744073709551616) (hlen : l.length + 10 ≤ 140737488355328) :
    Calls Try.prog 65 #[.pointer (some ⟨b, 0, none⟩), .int .u64 n] w fun e w' => e = .returned (.tuple #[]) ∧ ∃ v', Wc w0 w' b v' (l ++ enc n) :=
  (wuint_any _ v l false n w h.v hn hlen).mono fun _ _ ⟨he, v', hw, st⟩ => ⟨he, v', h.step hw st⟩
theorem int_c {w0 w : World} {b : Nat} {v : Value} {l : List Nat} (i : Int) (h : Wc w0 w b v l) (h1 : -9223372036854775808 ≤ i) (h2 : i < 9223372036854775808) (hlen : l.length + 10 ≤ 140737488355328) :
    Calls Try.prog 57 #[.pointer (some ⟨b, 0, none⟩), .int .i64 i] w fun e w' => e = .returned (.tuple #[]) ∧ ∃ v', Wc w0 w' b v' (l ++ enc (zig i)) :=
  (wint_any _ v l false i w h.v h1 h2 hlen).mono fun _ _ ⟨he, v', hw, st⟩ => ⟨he, v', h.step hw st⟩
/-- Out: a new row, alike. -/
theorem out_c {w0 w : World} {b : Nat} {v : Value} {l : List Nat} (h : Wc w0 w b v l) (hl : l.length ≤ 140737488355328) :
    Calls Try.prog 32 #[.pointer (some ⟨b, 0, none⟩)] w fun e w' => ∃ vo, e = .returned (.tuple #[vo, .int .i64 0]) ∧ Wc w0 w' b v l ∧ Row w' vo l ∧ New w vo ∧ Below w.heap.size w w' :=
  (out_any b v l w h.at_ hl).mono fun _ _ ⟨vo, he, hr, hn, hb⟩ => ⟨vo, he, h.later hb, hr, hn, hb⟩

/-- A reader that the call has made; nothing old has turned. -/
structure Rc (w0 w : World) (b : Nat) (a : Option Addr) (cap : Nat) (t : List Nat) (s : Rst) : Prop where
  rd : RdAt 97 w b a cap t s
  below : Below w0.heap.size w0 w
  hb : w0.heap.size ≤ b
theorem Rc.step {w0 w w' : World} {b : Nat} {a : Option Addr} {cap : Nat} {t : List Nat} {s s' : Rst} (h : Rc w0 w b a cap t s) (hr : RdAt 97 w' b a cap t s') (tc : Touch (· = b) w w') : Rc w0 w' b a cap t s' :=
  ⟨hr, below_touch h.below tc h.below.size (fun k hk => by rw [hk]; exact h.hb), h.hb⟩
theorem Rc.drewN {w0 w : World} {b : Nat} {a : Option Addr} {cap : Nat} {t : List Nat} {s : Rst} (h : Rc w0 w b a cap t s) (n : Nat) : Rc w0 (w.drewN n) b a cap t s := ⟨h.rd.drewN n, below_drewN' h.below n, h.hb⟩
theorem reader_c {w0 w : World} (hb : Below w0.heap.size w0 w) (a : Option Addr) (cap : Nat) (t : List Nat) (h : LAt w a t) (hn : a = none → cap = 0) (hl : t.length ≤ 140737488355328) :
    Calls Try.prog 33 #[.slice a t.length cap] w fun e w' => ∃ b a' cap', e = .returned (.pointer (some ⟨b, 0, none⟩)) ∧ Rc w0 w' b a' cap' t ⟨0, 0⟩ ∧ Below w.heap.size w w' ∧ w.heap.size ≤ b ∧ ∀ x, a' = some x → w.heap.size ≤ x.block :=
  (newreader_any w a cap t h hn hl).mono fun _ _ ⟨b, a', cap', he, hr, hbl, hbb, ha⟩ => ⟨b, a', cap', he, ⟨hr, hb.trans (hbl.mono hb.size), Nat.le_trans hb.size hbb⟩, hbl, hbb, ha⟩
theorem ruint_c {w0 w : World} {b : Nat} {a : Option Addr} {cap : Nat} {t : List Nat} {s : Rst} (h : Rc w0 w b a cap t s) {n : Nat} {s' : Rst} (e : rU t s = (n, s')) :
    Calls Try.prog 78 #[.pointer (some ⟨b, 0, none⟩)] w fun x w' => x = .returned (.int .u64 (n : Nat)) ∧ Rc w0 w' b a cap t s' := by
  have := ruint_any w h.rd
  rw [e] at this
  exact this.mono fun _ _ ⟨he, hr, tc⟩ => ⟨he, h.step hr tc⟩
theorem rint_c {w0 w : World} {b : Nat} {a : Option Addr} {cap : Nat} {t : List Nat} {s : Rst} (h : Rc w0 w b a cap t s) {n : Int} {s' : Rst} (e : rI t s = (n, s')) :
    Calls Try.prog 70 #[.pointer (some ⟨b, 0, none⟩)] w fun x w' => x = .returned (.int .i64 n) ∧ Rc w0 w' b a cap t s' := by
  have := rint_any w h.rd
  rw [e] at this
  exact this.mono fun _ _ ⟨he, hr, tc⟩ => ⟨he, h.step hr tc⟩
theorem end_c {w0 w : World} {b : Nat} {a : Option Addr} {cap : Nat} {t : List Nat} {s : Rst} (h : Rc w0 w b a cap t s) {n : Nat} (e : rE t s = n) :
    Calls Try.prog 55 #[.pointer (some ⟨b, 0, none⟩)] w fun x w' => x = .returned (.int .i64 (n : Nat)) ∧ Rc w0 w' b a cap t s := by
  have := end_any w h.rd
  rw [e] at this
  exact this.mono fun _ _ ⟨he, k, hk⟩ => ⟨he, by rw [hk]; exact h.drewN k⟩
end Go.Proofs.Ytblmondkdcpkaaa


/-
  A codec.Writer among foreign blocks, each call told in one form; need, needKind, needCount. Conditions: what is laid together has at most 2^46 bytes.
-/
namespace Go.Proofs.Ytblmondkdcpkaaa
open Go.RowKit
set_option linter.unusedVariables false

/-- What was laid, and whether a piece was too long. -/
abbrev Ws := List Nat × Bool
def wX (s : Ws) (x : List Nat) : Ws := (lays s.2 s.1 x, s.2)
def wB (s : Ws) (d : List Nat) : Ws := if 4096 < d.length then ([], true) else wX s (enc d.length ++ d)
theorem wX_len (s : Ws) (x : List Nat) : (wX s x).1.length ≤ s.1.length + x.length := lays_len _ _ _
theorem wX_wX (s : Ws) (x y : List Nat) : wX (wX s x) y = wX s (x ++ y) := by simp only [wX, lays_lays]
theorem wX_nil (s : Ws) : wX s [] = s := by simp only [wX, lays_nil]
theorem wB_len (s : Ws) (d : List Nat) : (wB s d).1.length ≤ s.1.length + 4106 := by
  unfold wB
  split
  · simp
  · have := wX_len s (enc d.length ++ d)
    have h := enc_len10 (n := d.length) (by omega)
    rw [List.length_append] at this
    omega
/-- A writer; N are the blocks that it may not touch; w0 is the world in which the message lay. -/
structure Wq (w0 : World) (N : Nat → Prop) (w : World) (b : Nat) (s : Ws) : Prop where
  out : ∃ v, WrAt w b v s.1 s.2 ∧ ∀ k, v.ownBlock = some k → ¬ N k
  nb : ¬ N b
  old : ∀ k, N k → k < w.heap.size
  base : Below w0.heap.size w0 w
  low : ∀ k, k < w0.heap.size → N k
def Off (N : Nat → Prop) (k : Nat) : Prop := ¬ N k
theorem Wq.next {w0 w w' : World} {N : Nat → Prop} {b : Nat} {v v' : Value} {l' : List Nat} {lg' : Bool} (hv : ∀ k, v.ownBlock = some k → ¬ N k) (nb : ¬ N b) (old : ∀ k, N k → k < w.heap.size) (hB : Below w0.heap.size w0 w) (hL : ∀ k, k < w0.heap.size → N k) (hw : WrV w' (.pointer (some ⟨b, 0, none⟩)) v' l' lg') (st : Step (.pointer (some ⟨b, 0, none⟩)) w v w' v') : Wq w0 N w' b (l', lg') ∧ Touch (Off N) w w' := by
  have t : Touch (Off N) w w' := st.touch.mono (fun k hk => by
    rcases hk with e | e
    · cases e; exact nb
    · exact hv k e)
  refine ⟨⟨⟨v', hw.at, fun k hk hn => ?_⟩, nb, fun k hk => Nat.lt_of_lt_of_le (old k hk) t.size, below_touch hB t hB.size (fun k hk => ?_), hL⟩, t⟩
  · rcases st.moved k hk with e | e
    · exact hv k e hn
    · have := old k hn; omega
  · exact Nat.le_of_not_lt (fun h => hk (hL k h))
theorem Wq.lt {w0 w : World} {N : Nat → Prop} {b : Nat} {s : Ws} (h : Wq w0 N w b s) : b < w.heap.size := by
  obtain ⟨⟨v, h1, _⟩, _, _⟩ := h
  exact lt_of_heap h1.heap
theorem Wq.later {w0 w w' : World} {N : Nat → Prop} {b : Nat} {s : Ws} (h : Wq w0 N w b s) (hb : Below w.heap.size w w') : Wq w0 N w' b s := by
  obtain ⟨⟨v, h1, h2⟩, h3, h4, h5, h6⟩ := h
  have hv : WrV w (.pointer (some ⟨b, 0, none⟩)) v s.1 s.2 := .inr ⟨b, rfl, h1⟩
  exact ⟨⟨v, (hv.later hb).at, h2⟩, h3, fun k hk => Nat.lt_of_lt_of_le (h4 k hk) hb.size, h5.trans (hb.mono h5.size), h6⟩
/-- More foreign blocks: those that were laid since. -/
def Gr (N : Nat → Prop) (w w1 : World) (k : Nat) : Prop := N k ∨ (w.heap.size ≤ k ∧ k < w1.heap.size)
theorem Wq.grow {w0 w w1 : World} {N : Nat → Prop} {b : Nat} {s : Ws} (h : Wq w0 N w b s) (hb : Below w.heap.size w w1) : Wq w0 (Gr N w w1) w1 b s := by
  have hbl := h.lt
  obtain ⟨⟨v, h1, h2⟩, h3, h4, h5, h6⟩ := h
  have hv : WrV w (.pointer (some ⟨b, 0, none⟩)) v s.1 s.2 := .inr ⟨b, rfl, h1⟩
  refine ⟨⟨v, (hv.later hb).at, fun k hk hn => ?_⟩, fun hn => ?_, fun k hk => ?_, h5.trans (hb.mono h5.size), fun k hk => .inl (h6 k hk)⟩
  · rcases hn with e | e
    · exact h2 k hk e
    · have := hv.lt k hk; omega
  · rcases hn with e | e
    · exact h3 e
    · omega
  · rcases hk with e | e
    · exact Nat.lt_of_lt_of_le (h4 k e) hb.size
    · exact e.2
/-- Back to fewer foreign blocks. -/
theorem Wq.leave {w0 w w1 w' : World} {N : Nat → Prop} {b : Nat} {s : Ws} (h : Wq w0 (Gr N w w1) w' b s) (hb : Below w.heap.size w w1) (hN : ∀ k, N k → k < w.heap.size) (hL : ∀ k, k < w0.heap.size → N k) (t : Touch (Off (Gr N w w1)) w1 w') : Wq w0 N w' b s ∧ Touch (Off N) w w' := by
  obtain ⟨⟨v, h1, h2⟩, h3, h4, h5, h6⟩ := h
  exact ⟨⟨⟨v, h1, fun k hk hn => h2 k hk (.inl hn)⟩, fun hn => h3 (.inl hn), fun k hk => h4 k (.inl hk), h5, hL⟩, (Touch.of_below (S := Off N) hb).trans (t.mono (fun k hk hn => hk (.inl hn)))⟩
theorem Off.leave {w w1 w' : World} {N : Nat → Prop} (hb : Below w.heap.size w w1) (t : Touch (Off (Gr N w w1)) w1 w') : Touch (Off N) w w' := (Touch.of_below (S := Off N) hb).trans (t.mono (fun k hk hn => hk (.inl hn)))
theorem Gr.keep {w w1 w' : World} {N : Nat → Prop} (t : Touch (Off (Gr N w w1)) w1 w') {k : Nat} {o : Obj} (h : w1.heap[k]? = some o) (hk : w.heap.size ≤ k) : w'.heap[k]? = some o :=
  t.keep h (fun hn => hn (.inr ⟨hk, lt_of_heap h⟩))
theorem Wq.lat {w0 w : World} {N : Nat → Prop} {b : Nat} {s : Ws} (h : Wq w0 N w b s) {a : Option Addr} {d : List Nat} (hd : LAt w0 a d) : LAt w a d ∧ (0 < d.length → ∀ x, a = some x → N x.block) := by
  refine ⟨hd.later h.base, fun h0 x hx => h.low _ ?_⟩
  obtain ⟨b', o', e, hlt, _⟩ := hd 0 h0
  rw [hx] at e
  cases e
  exact hlt
theorem Wq.iat {w0 w : World} {N : Nat → Prop} {b : Nat} {s : Ws} (h : Wq w0 N w b s) {a : Option Addr} {d : List Int} (hd : IAt w0 a d) : IAt w a d ∧ (0 < d.length → ∀ x, a = some x → N x.block) := by
  refine ⟨hd.later h.base, fun h0 x hx => h.low _ ?_⟩
  obtain ⟨b', o', e, hlt, _⟩ := hd 0 h0
  rw [hx] at e
  cases e
  exact hlt
def WD (w0 : World) (N : Nat → Prop) (w : World) (b : Nat) (s : Ws) (e : Ending) (w' : World) : Prop := e = .returned (.tuple #[]) ∧ Wq w0 N w' b s ∧ Touch (Off N) w w'
section
variable {w0 w : World} {N : Nat → Prop} {b : Nat} {s : Ws}
theorem uint_q (n : Nat) (h : Wq w0 N w b s) (hn : n < 18446744073709551616) (hl : s.1.length ≤ 70368744177664) :
    Calls Try.prog 65 #[.pointer (some ⟨b, 0, none⟩), .int .u64 n] w fun e w' => WD w0 N w b (wX s (enc n)) e w' := by
  obtain ⟨⟨v, h1, h2⟩, h3, h4, h5, h6⟩ := h
  refine (wuint_any _ v s.1 s.2 n w (.inr ⟨b, rfl, h1⟩) hn (by omega)).mono ?_
  rintro e w' ⟨he, v', hw, st⟩
  exact ⟨he, Wq.next h2 h3 h4 h5 h6 hw st⟩
theorem int_q (i : Int) (h : Wq w0 N w b s) (h1 : -9223372036854775808 ≤ i) (h2 : i < 9223372036854775808) (hl : s.1.length ≤ 70368744177664) :
    Calls Try.prog 57 #[.pointer (some ⟨b, 0, none⟩), .int .i64 i] w fun e w' => WD w0 N w b (wX s (enc (zig i))) e w' := by
  obtain ⟨⟨v, g1, g2⟩, g3, g4, g5, g6⟩ := h
  refine (wint_any _ v s.1 s.2 i w (.inr ⟨b, rfl, g1⟩) h1 h2 (by omega)).mono ?_
  rintro e w' ⟨he, v', hw, st⟩
  exact ⟨he, Wq.next g2 g3 g4 g5 g6 hw st⟩
theorem flag_q (q : Bool) (h : Wq w0 N w b s) (hl : s.1.length ≤ 70368744177664) :
    Calls Try.prog 58 #[.pointer (some ⟨b, 0, none⟩), .bool q] w fun e w' => WD w0 N w b (wX s [q.toNat]) e w' := by
  obtain ⟨⟨v, g1, g2⟩, g3, g4, g5, g6⟩ := h
  refine (wflag_any _ v s.1 s.2 q w (.inr ⟨b, rfl, g1⟩) (by omega)).mono ?_
  rintro e w' ⟨he, v', hw, st⟩
  exact ⟨he, Wq.next g2 g3 g4 g5 g6 hw st⟩
theorem bytes_q (ao : Option Addr) (c : Nat) (d : List Nat) (h : Wq w0 N w b s) (hb : LAt w ao d) (hn : ao = none → c = 0) (hs : 0 < d.length → ∀ x, ao = some x → N x.block) (hl : s.1.length ≤ 70368744177664) :
    Calls Try.prog 61 #[.pointer (some ⟨b, 0, none⟩), .slice ao d.length c] w fun e w' => WD w0 N w b (wB s d) e w' := by
  obtain ⟨⟨v, g1, g2⟩, g3, g4, g5, g6⟩ := h
  unfold wB
  by_cases h4 : 4096 < d.length
  · rw [if_pos h4]
    refine (wbytes_long _ v s.1 s.2 ao d.length c w (.inr ⟨b, rfl, g1⟩) h4).mono ?_
    rintro e w' ⟨he, hw, st⟩
    exact ⟨he, Wq.next g2 g3 g4 g5 g6 hw st⟩
  · rw [if_neg h4]
    refine (wbytes_any _ v s.1 s.2 ao c d w (.inr ⟨b, rfl, g1⟩) hb hn (fun h0 x hx hm => ?_) (by omega) (by omega)).mono ?_
    · have hN := hs h0 x hx
      rcases hm with e | e
      · cases e; exact g3 hN
      · exact g2 _ e hN
    · rintro e w' ⟨he, v', hw, st⟩
      exact ⟨he, Wq.next g2 g3 g4 g5 g6 hw st⟩
theorem ints_q (ao : Option Addr) (c : Nat) (ls : List Int) (h : Wq w0 N w b s) (hb : IAt w ao ls) (hs : 0 < ls.length → ∀ x, ao = some x → N x.block) (hf : ∀ x ∈ ls, -9223372036854775808 ≤ x ∧ x < 9223372036854775808) (hm : ls.length ≤ 4096) (hl : s.1.length ≤ 70368744177664) :
    Calls Try.prog 67 #[.pointer (some ⟨b, 0, none⟩), .slice ao ls.length c] w fun e w' => WD w0 N w b (wX s (enc ls.length ++ encL ls)) e w' := by
  obtain ⟨⟨v, g1, g2⟩, g3, g4, g5, g6⟩ := h
  refine (wints_any _ v s.1 s.2 ao c ls w (.inr ⟨b, rfl, g1⟩) hb (fun h0 x hx hm => ?_) hf (by omega) (.inl (by omega))).mono ?_
  · have hN := hs h0 x hx
    rcases hm with e | e
    · cases e; exact g3 hN
    · exact g2 _ e hN
  · rintro e w' ⟨he, v', hw, st⟩
    exact ⟨he, Wq.next g2 g3 g4 g5 g6 hw st⟩
end
/-- The panic by which a call gives up. -/
abbrev gone (E : Int) : Ending := .panicked [{ v := .iface 22 (.int .i64 E), recovered := false }]
set_option maxHeartbeats 1000000 in
theorem need_any (E : Int) (w : World) : Calls Try.prog 54 #[.int .i64 E] w fun e w' => w' = w ∧ (E = 0 → e = .returned (.tuple #[])) ∧ (E ≠ 0 → e = gone E) := by
  by_cases h : E = 0
  · subst h
    go_enter Try.func54, Try.ntmps54
    go_wp2
    go_returns
    exact ⟨rfl, fun _ => rfl, fun h => absurd rfl h⟩
  · have hb : (E == 0) = false := by simpa using h
    go_enter Try.func54, Try.ntmps54
    go_wp2
    exact ⟨rfl, rfl, fun h0 => absurd h0 h, fun _ => rfl⟩
def kndE (k : Int) : Int := if k < 1 ∨ 15 < k then 1 else 0
def cntE (n : Nat) : Int := if 512 < n then 2 else 0
theorem needKind_ok {k : Int} (w : World) (h : kndE k = 0) : Calls Try.prog 40 #[.int .i64 k] w fun e w' => e = .returned (.tuple #[]) ∧ w' = w := by
  have h2 : 1 ≤ k ∧ k ≤ 15 := by
    unfold kndE at h
    split at h
    · cases h
    · omega
  have h3 : ¬ k < 1 := by omega
  have h4 : ¬ 15 < k := by omega
  go_enter Try.func40, Try.ntmps40
  go_wp2
  go_returns
  exact ⟨rfl, rfl⟩
theorem needKind_no {k : Int} (w : World) (h : kndE k ≠ 0) : Calls Try.prog 40 #[.int .i64 k] w fun e w' => e = gone 1 ∧ w' = w := by
  have h2 : k < 1 ∨ 15 < k := by
    unfold kndE at h
    split at h
    · assumption
    · exact absurd rfl h
  have K := hide (need_any 1 w)
  by_cases h3 : k < 1
  · go_enter Try.func40, Try.ntmps40
    go_wp2_with (go_at_call 54; refine (unhide K).mono ?_; rintro e w1 ⟨rfl, _, he⟩; obtain rfl := he (by decide); clear he)
    exact ⟨rfl, rfl, rfl⟩
  · have h4 : 15 < k := by omega
    go_enter Try.func40, Try.ntmps40
    go_wp2_with (go_at_call 54; refine (unhide K).mono ?_; rintro e w1 ⟨rfl, _, he⟩; obtain rfl := he (by decide); clear he)
    exact ⟨rfl, rfl, rfl⟩
theorem needCount_ok {n : Nat} (w : World) (h : cntE n = 0) : Calls Try.prog 66 #[.int .u64 (n : Int)] w fun e w' => e = .returned (.tuple #[]) ∧ w' = w := by
  have h2 : ¬ (512 : Int) < (n : Int) := by
    unfold cntE at h
    split at h
    · cases h
    · omega
  go_enter Try.func66, Try.ntmps66
  go_wp2
  go_returns
  exact ⟨rfl, rfl⟩
theorem needCount_no {n : Nat} (w : World) (h : cntE n ≠ 0) : Calls Try.prog 66 #[.int .u64 (n : Int)] w fun e w' => e = gone 2 ∧ w' = w := by
  have h2 : (512 : Int) < (n : Int) := by
    unfold cntE at h
    split at h
    · omega
    · exact absurd rfl h
  have K := hide (need_any 2 w)
  go_enter Try.func66, Try.ntmps66
  go_wp2_with (go_at_call 54; refine (unhide K).mono ?_; rintro e w1 ⟨rfl, _, he⟩; obtain rfl := he (by decide); clear he)
  exact ⟨rfl, rfl, rfl⟩
end Go.Proofs.Ytblmondkdcpkaaa


namespace Go.Proofs.Ytblmondkdcpkaaa
open Go.RowKit
set_option linter.unusedVariables false

set_option maxRecDepth 100000 in
theorem asserted (W : World) (v : Value) (x : TypeId) : (Instr.typeAssert (.iface 22 v) x 22 false).run Try.prog W = .ok v W := by kernel_rfl
set_option maxRecDepth 100000 in
theorem caught (p : Addr) (x E : Int) (older : List PanicEntry) (w : World) (hc : w.cell? p = some (.int .i64 x)) (hz : w.frozen? p = false) :
    CallsD Try.prog 39 #[.pointer (some p)] (.panicking ({ v := .iface 22 (.int .i64 E), recovered := false } :: older)) w fun e u' w' =>
      e = .returned (.tuple #[]) ∧ u' = .panicking ({ v := .iface 22 (.int .i64 E), recovered := true } :: older) ∧ w' = w.setCell p (.int .i64 E) := by
  refine callsD_of_wpS Try.func39 rfl fun c₀ cs hu => ?_
  apply wpS_seq
  apply wpS_region
  simp [wpOpsS, go_sem, recoverD, hu, Try.ntmps39, Exit.thenS]
  apply wpS_seq
  apply wpS_region
  simp [wpOpsS, go_sem, Exit.thenS, Array.replicate, Act.eval]
  refine wpS_cond (t := true) (by simp [Act.eval]) ?_
  simp only [if_true]
  apply wpS_region
  simp [wpOpsS, go_sem, asserted, hc, hz, bodyPostS, results, Try.results39, Act.eval]
theorem idle (p : Addr) (w : World) :
    CallsD Try.prog 39 #[.pointer (some p)] .returning w fun e u' w' => e = .returned (.tuple #[]) ∧ u' = .returning ∧ w' = w := by
  refine callsD_of_wpS Try.func39 rfl fun c₀ cs hu => ?_
  apply wpS_seq
  apply wpS_region
  simp [wpOpsS, go_sem, recoverD, hu, Try.ntmps39, Exit.thenS]
  apply wpS_seq
  apply wpS_region
  simp [wpOpsS, go_sem, Exit.thenS, Array.replicate, Act.eval]
  refine wpS_cond (t := false) (by simp [Act.eval]) ?_
  simp only [Bool.false_eq_true, if_false]
  refine wpS_of_wp (wp_skip ?_)
  cases c₀
  simp_all [bodyPostS, results, Try.results39]
/-- What is behind a call that was tried: it left the answer's own cell as it was. -/
def TR (v : Ending) (R : World → Prop) (r : Nat) (e : Ending) (w' : World) : Prop := e = v ∧ w'.heap[r]? = some (.cells #[.int .i64 0] 22) ∧ R w'
def TD (E : Int) (R : World → Prop) (r : Nat) (e : Ending) (w' : World) : Prop := e = .returned (.int .i64 E) ∧ ∃ u, R u ∧ Touch (· = r) u w'
set_option maxHeartbeats 4000000 in
theorem tried_ok {w : World} {g : Nat} {caps : Array Value} {R : World → Prop} (eg : ∀ args w, (callFunc g args).run Try.prog w = .ok (.enter g args) w)
    (K : Calls Try.prog g caps (w.alloc (.cells #[.int .i64 0] 22)) (fun e w' => TR (.returned (.tuple #[])) R w.heap.size e w')) :
    Calls Try.prog 29 #[.func (.func g) #[] caps] w fun e w' => TD 0 R w.heap.size e w' := by
  have hmf : ∀ (fn : Fn) (first cap : Array Value) (w : World), (Instr.makeFunc fn first cap).run Try.prog w = .ok (.func fn first cap) w := fun _ _ _ _ => rfl
  have HK := hide K
  clear K
  go_enter_defers Try.func29, Try.ntmps29
  go_wp2_with (go_at_fn g; refine (unhide HK).mono ?_; rintro e w1 ⟨rfl, h1, hr⟩; have c0 := cell_of h1 0; have f0 := frozen_of h1 0; simp at c0)
  refine leaves_cons (f := 39) (args := #[.pointer (some ⟨w.heap.size, 0, none⟩)]) (by simp) (by simp [go_sem]) ?_
  refine (idle ⟨w.heap.size, 0, none⟩ _).mono ?_
  rintro e u' w'' ⟨rfl, rfl, rfl⟩
  have cS := cell_of (heap_set h1 0 (.int .i64 0)) 0
  simp at cS
  have hP : TD 0 R w.heap.size (.returned (.int .i64 0)) (w1.setCell ⟨w.heap.size, 0, none⟩ (.int .i64 0)) := ⟨rfl, w1, hr, touch_set _ _ _ _⟩
  generalize w1.setCell ⟨w.heap.size, 0, none⟩ (.int .i64 0) = Y at *
  simp [Leaves, settle, results, Try.results29, go_sem, cS]
  exact hP
set_option maxHeartbeats 4000000 in
theorem tried_no {w : World} {g : Nat} {caps : Array Value} {R : World → Prop} {E : Int} (eg : ∀ args w, (callFunc g args).run Try.prog w = .ok (.enter g args) w)
    (K : Calls Try.prog g caps (w.alloc (.cells #[.int .i64 0] 22)) (fun e w' => TR (gone E) R w.heap.size e w')) :
    Calls Try.prog 29 #[.func (.func g) #[] caps] w fun e w' => TD E R w.heap.size e w' := by
  have hmf : ∀ (fn : Fn) (first cap : Array Value) (w : World), (Instr.makeFunc fn first cap).run Try.prog w = .ok (.func fn first cap) w := fun _ _ _ _ => rfl
  have HK := hide K
  clear K
  go_enter_defers Try.func29, Try.ntmps29
  go_wp2_with (go_at_fn g; refine (unhide HK).mono ?_; rintro e w1 ⟨rfl, h1, hr⟩)
  refine leaves_cons (f := 39) (args := #[.pointer (some ⟨w.heap.size, 0, none⟩)]) (by simp) (by simp [go_sem]) ?_
  refine (caught ⟨w.heap.size, 0, none⟩ 0 E [] w1 (by have := cell_of h1 0; simpa using this) (frozen_of h1 0)).mono ?_
  rintro e u' w'' ⟨rfl, rfl, rfl⟩
  have cS := cell_of (heap_set h1 0 (.int .i64 E)) 0
  simp at cS
  have hP : TD E R w.heap.size (.returned (.int .i64 E)) (w1.setCell ⟨w.heap.size, 0, none⟩ (.int .i64 E)) := ⟨rfl, w1, hr, touch_set _ _ _ _⟩
  generalize w1.setCell ⟨w.heap.size, 0, none⟩ (.int .i64 E) = Y at *
  simp [Leaves, settle, results, Try.results29, go_sem, cS]
  exact hP
end Go.Proofs.Ytblmondkdcpkaaa
