/-
  A writer of the call's own, and a reader of the call's own, each call told in one form. Conditions: what is laid together has at most 2^47 bytes.
-/
import Derived.Test.YtcekleconjmfjaaLaw3
namespace Go.Proofs.Ytcekleconjmfjaa
open Go.RowKit
set_option linter.unusedVariables false

/-- A writer that the call has made; nothing old has turned. -/
structure Wc (w0 w : World) (b : Nat) (v : Value) (l : List Nat) : Prop where
  at_ : WrAt w b v l false
  below : Below w0.heap.size w0 w
  hb : w0.heap.size ≤ b
  hv : New w0 v
theorem Wc.mine {w0 w : World} {b : Nat} {v : Value} {l : List Nat} (h : Wc w0 w b v l) : ∀ k, Mine (.pointer (some ⟨b, 0, none⟩)) v k → w0.heap.size ≤ k := mine_new h.hb h.hv (w := w) rfl
theorem Wc.step {w0 w w' : World} {b : Nat} {v v' : Value} {l l' : List Nat} (h : Wc w0 w b v l) (hw : WrV w' (.pointer (some ⟨b, 0, none⟩)) v' l' false) (st : Step (.pointer (some ⟨b, 0, none⟩)) w v w' v') : Wc w0 w' b v' l' :=
  ⟨hw.at, step_below h.below h.below.size st h.mine, h.hb, h.hv.moved st.moved h.below.size⟩
theorem Wc.later {w0 w w' : World} {b : Nat} {v : Value} {l : List Nat} (h : Wc w0 w b v l) (hb : Below w.heap.size w w') : Wc w0 w' b v l :=
  ⟨(WrV.later (.inr ⟨b, rfl, h.at_⟩) hb).at, h.below.trans (hb.mono h.below.size), h.hb, h.hv⟩
theorem Wc.v {w0 w : World} {b : Nat} {v : Value} {l : List Nat} (h : Wc w0 w b v l) : WrV w (.pointer (some ⟨b, 0, none⟩)) v l false := .inr ⟨b, rfl, h.at_⟩
theorem Wc.touch {w0 w w' : World} {b : Nat} {v : Value} {l : List Nat} {S : Nat → Prop} (h : Wc w0 w b v l) (t : Touch S w w') (hs : ∀ k, S k → w0.heap.size ≤ k) (ho : ∀ k, Mine (.pointer (some ⟨b, 0, none⟩)) v k → ¬ S k) : Wc w0 w' b v l :=
  ⟨(h.v.keep t ho).at, below_touch h.below t h.below.size hs, h.hb, h.hv⟩

theorem new_c (w : World) :
    Calls Try.prog 28 #[] w fun e w' => e = .returned (.pointer (some ⟨w.heap.size, 0, none⟩)) ∧ Wc w w' w.heap.size (.slice none 0 0) [] :=
  (newwriter_any w).mono fun _ _ ⟨he, h, b⟩ => ⟨he, h, b, Nat.le_refl _, New.nil _⟩
theorem uint_c {w0 w : World} {b : Nat} {v : Value} {l : List Nat} (n : Nat) (h : Wc w0 w b v l) (hn : n < 18446744073709551616) (hlen : l.length + 10 ≤ 140737488355328) :
    Calls Try.prog 65 #[.pointer (some ⟨b, 0, none⟩), .int .u64 n] w fun e w' => e = .returned (.tuple #[]) ∧ ∃ v', Wc w0 w' b v' (l ++ enc n) :=
  (wuint_any _ v l false n w h.v hn hlen).mono fun _ _ ⟨he, v', hw, st⟩ => ⟨he, v', h.step hw st⟩
theorem int_c {w0 w : World} {b : Nat} {v : Value} {l : List Nat} (i : Int) (h : Wc w0 w b v l) (h1 : -9223372036854775808 ≤ i) (h2 : i < 9223372036854775808) (hlen : l.length + 10 ≤ 140737488355328) :
    Calls Try.prog 57 #[.pointer (some ⟨b, 0, none⟩), .int .i64 i] w fun e w' => e = .returned (.tuple #[]) ∧ ∃ v', Wc w0 w' b v' (l ++ enc (zig i)) :=
  (wint_any _ v l false i w h.v h1 h2 hlen).mono fun _ _ ⟨he, v', hw, st⟩ => ⟨he, v', h.step hw st⟩
/-- Out: a new row, alike. -/
theorem out_c {w0 w : World} {b : Nat} {v : Value} {l : List Nat} (h : Wc w0 w b v l) (hl : l.length ≤ 140737488355328) :
    Calls Try.prog 32 #[.pointer (some ⟨b, 0, none⟩)] w fun e w' => ∃ vo, e = .returned (.tuple #[vo, .int .i64 0]) ∧ Wc w0 w' b v l ∧ Row w' vo l ∧ New w vo ∧ Below w.heap.size w w' :=
  (out_any b v l w h.at_ hl).mono fun _ _ ⟨vo, he, hr, hn, hb⟩ => ⟨vo, he, h.later hb, hr, hn, hb⟩

/-- A reader that the call has made; nothing old has turned. -/
structure Rc (w0 w : World) (b : Nat) (a : Option Addr) (cap : Nat) (t : List Nat) (s : Rst) : Prop where
  rd : RdAt 97 w b a cap t s
  below : Below w0.heap.size w0 w
  hb : w0.heap.size ≤ b
theorem Rc.step {w0 w w' : World} {b : Nat} {a : Option Addr} {cap : Nat} {t : List Nat} {s s' : Rst} (h : Rc w0 w b a cap t s) (hr : RdAt 97 w' b a cap t s') (tc : Touch (· = b) w w') : Rc w0 w' b a cap t s' :=
  ⟨hr, below_touch h.below tc h.below.size (fun k hk => by rw [hk]; exact h.hb), h.hb⟩
theorem Rc.drewN {w0 w : World} {b : Nat} {a : Option Addr} {cap : Nat} {t : List Nat} {s : Rst} (h : Rc w0 w b a cap t s) (n : Nat) : Rc w0 (w.drewN n) b a cap t s := ⟨h.rd.drewN n, below_drewN' h.below n, h.hb⟩
theorem reader_c {w0 w : World} (hb : Below w0.heap.size w0 w) (a : Option Addr) (cap : Nat) (t : List Nat) (h : LAt w a t) (hn : a = none → cap = 0) (hl : t.length ≤ 140737488355328) :
    Calls Try.prog 33 #[.slice a t.length cap] w fun e w' => ∃ b a' cap', e = .returned (.pointer (some ⟨b, 0, none⟩)) ∧ Rc w0 w' b a' cap' t ⟨0, 0⟩ ∧ Below w.heap.size w w' ∧ w.heap.size ≤ b ∧ ∀ x, a' = some x → w.heap.size ≤ x.block :=
  (newreader_any w a cap t h hn hl).mono fun _ _ ⟨b, a', cap', he, hr, hbl, hbb, ha⟩ => ⟨b, a', cap', he, ⟨hr, hb.trans (hbl.mono hb.size), Nat.le_trans hb.size hbb⟩, hbl, hbb, ha⟩
theorem ruint_c {w0 w : World} {b : Nat} {a : Option Addr} {cap : Nat} {t : List Nat} {s : Rst} (h : Rc w0 w b a cap t s) {n : Nat} {s' : Rst} (e : rU t s = (n, s')) :
    Calls Try.prog 78 #[.pointer (some ⟨b, 0, none⟩)] w fun x w' => x = .returned (.int .u64 (n : Nat)) ∧ Rc w0 w' b a cap t s' := by
  have := ruint_any w h.rd
  rw [e] at this
  exact this.mono fun _ _ ⟨he, hr, tc⟩ => ⟨he, h.step hr tc⟩
theorem rint_c {w0 w : World} {b : Nat} {a : Option Addr} {cap : Nat} {t : List Nat} {s : Rst} (h : Rc w0 w b a cap t s) {n : Int} {s' : Rst} (e : rI t s = (n, s')) :
    Calls Try.prog 70 #[.pointer (some ⟨b, 0, none⟩)] w fun x w' => x = .returned (.int .i64 n) ∧ Rc w0 w' b a cap t s' := by
  have := rint_any w h.rd
  rw [e] at this
  exact this.mono fun _ _ ⟨he, hr, tc⟩ => ⟨he, h.step hr tc⟩
theorem end_c {w0 w : World} {b : Nat} {a : Option Addr} {cap : Nat} {t : List Nat} {s : Rst} (h : Rc w0 w b a cap t s) {n : Nat} (e : rE t s = n) :
    Calls Try.prog 55 #[.pointer (some ⟨b, 0, none⟩)] w fun x w' => x = .returned (.int .i64 (n : Nat)) ∧ Rc w0 w' b a cap t s := by
  have := end_any w h.rd
  rw [e] at this
  exact this.mono fun _ _ ⟨he, k, hk⟩ => ⟨he, by rw [hk]; exact h.drewN k⟩
end Go.Proofs.Ytcekleconjmfjaa
