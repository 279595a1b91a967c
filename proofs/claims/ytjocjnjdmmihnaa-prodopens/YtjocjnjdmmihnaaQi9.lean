/-
  laid of layer 9 in plain words: a log, as the table lets it grow; the state of its loop. No conditions.
-/
import Derived.Test.YtjocjnjdmmihnaaQh9
import Derived.Test.YtjocjnjdmmihnaaRws
import Derived.Test.YtjocjnjdmmihnaaDcz
namespace Go.Proofs.Ytjocjnjdmmihnaa
open Go.RowKit
set_option linter.unusedVariables false

/-- A batch with its values' slice. -/
structure En where
  b : Bt
  a : Option Addr
  c : Nat
instance : Inhabited En := ⟨⟨⟨0, 0, 0, 0, 0, false, false, false, []⟩, none, 0⟩⟩
def enC (e : En) : List Value := [.int .i64 e.b.base, .int .i64 e.b.epoch, .int .u64 (e.b.pid : Int), .int .i64 e.b.pep, .int .i64 e.b.seq, .bool e.b.txn, .bool e.b.ctl, .bool e.b.com, .slice e.a e.b.vs.length e.c]
abbrev atB (b : Bt) (i : Nat) : Bt := ⟨(i : Int), b.epoch, b.pid, b.pep, b.seq, b.txn, b.ctl, b.com, b.vs⟩
abbrev atE (e : En) (i : Nat) : En := ⟨atB e.b i, e.a, e.c⟩
structure Lg where
  K : Nat → Option Kn
  log : List En
  at_ : Nat
def putK (K : Nat → Option Kn) (b : Bt) : Nat → Option Kn := if b.pid = 0 then K else fun s => if s = b.pid then some (apK b (atK (K b.pid) b.pep)) else K s
abbrev ansL (L : Lg) (b : Bt) : Int × Bool × Int := chkK (atB b L.at_) (atK (L.K b.pid) b.pep)
def took (L : Lg) (b : Bt) : Bool := decide ((ansL L b).2.2 = 0) && !(ansL L b).2.1
abbrev szB (b : Bt) : Nat := if b.ctl = true then 1 else b.vs.length
def stepL (L : Lg) (e : En) : Lg := if took L e.b = true then ⟨putK L.K (atB e.b L.at_), L.log ++ [atE e L.at_], L.at_ + szB e.b⟩ else L
def laidL (es : List En) (k : Nat) : Lg := (es.take k).foldl stepL ⟨fun _ => none, [], 0⟩
theorem laidL_zero (es : List En) : laidL es 0 = ⟨fun _ => none, [], 0⟩ := rfl
theorem laidL_succ {es : List En} {k : Nat} (h : k < es.length) : laidL es (k + 1) = stepL (laidL es k) es[k] := by
  unfold laidL
  rw [List.take_succ_eq_append_getElem h, List.foldl_append]
  rfl
theorem took_chk {L : Lg} {b : Bt} (h : took L b = true) : chk (atB b L.at_) = 0 := by
  unfold took at h
  by_cases hc : chk (atB b L.at_) = 0
  · exact hc
  · have e : ansL L b = (0, false, (chk (atB b L.at_) : Int)) := by unfold ansL chkK; rw [if_pos hc]
    rw [e] at h
    simp at h
    exact absurd h hc
theorem took_sz {L : Lg} {b : Bt} (h : took L b = true) : szB b ≤ 16 := by
  have := (chk_zero (took_chk h)).1
  unfold szB
  have h2 : b.vs.length ≤ 16 := this
  split <;> omega
theorem laidL_low (es : List En) {k : Nat} (h : k ≤ es.length) : (laidL es k).at_ ≤ 16 * k ∧ (laidL es k).log.length ≤ k := by
  induction k with
  | zero => exact ⟨Nat.le_refl _, Nat.le_refl _⟩
  | succ k ih =>
    obtain ⟨i1, i2⟩ := ih (by omega)
    rw [laidL_succ (by omega)]
    unfold stepL
    split
    · rename_i ht
      have := took_sz ht
      simp only [List.length_append, List.length_singleton]
      omega
    · omega
/-- Within laid: w the world when it was called. -/
structure LS (w W : World) (tb : Nat) (K : Nat → Option Kn) (c : Nat) (log : List En) (lv : Value) : Prop where
  bel : Below w.heap.size w W
  row : Wide W 30 9 lv log.length (log.flatMap enC)
  new : ∀ i, lv.ownBlock = some i → w.heap.size ≤ i
  tab : ∃ mv av m n R, Tb W tb mv av m K n c R ∧ (∀ i, R i → w.heap.size ≤ i ∧ i < W.heap.size) ∧ ∀ i, lv.ownBlock = some i → ¬ R i
section
variable {w W W' : World} {tb c : Nat} {K : Nat → Option Kn} {log : List En} {lv : Value}
theorem LS.later (h : LS w W tb K c log lv) (hb : Below W.heap.size W W') : LS w W' tb K c log lv := by
  obtain ⟨mv, av, m, n, R, t1, t2, t3⟩ := h.tab
  exact ⟨h.bel.trans (hb.mono h.bel.size), h.row.later hb, h.new, mv, av, m, n, R, t1.later hb, fun i hi => ⟨(t2 i hi).1, Nat.lt_of_lt_of_le (t2 i hi).2 hb.size⟩, t3⟩
/-- A store into a block of laid's own that is neither the row's nor the table's. -/
theorem LS.more (h : LS w W tb K c log lv) : LS w W tb K (c + 1) log lv := by
  obtain ⟨mv, av, m, n, R, t1, t2, t3⟩ := h.tab
  exact ⟨h.bel, h.row, h.new, mv, av, m, n, R, ⟨t1.tab, t1.map, t1.non, t1.hav, t1.own, t1.apt, t1.abr, t1.abo, t1.tbr, ⟨Nat.le_succ_of_le t1.len.1, Nat.le_succ_of_le t1.len.2⟩⟩, t2, t3⟩
theorem LS.check (h : LS w W tb K c log lv) (b : Bt) (a : Option Addr) (cap : Nat) (hp : RAt W a b.vs) (h64 : b.pid < 18446744073709551616) :
    Calls Try.prog 8 #[.pointer (some ⟨tb, 0, none⟩), bv b a cap] W fun e w' => AnsPost W (tup3 (chkK b (atK (K b.pid) b.pep))) e w' := by
  obtain ⟨mv, av, m, n, R, t1, _⟩ := h.tab
  exact check_tb t1 b a cap hp h64
theorem LS.below (h : LS w W tb K c log lv) : Below w.heap.size w W := h.bel
/-- With a box of its own at g. -/
structure LB (w W : World) (tb : Nat) (K : Nat → Option Kn) (c : Nat) (log : List En) (lv : Value) (g : Nat) (o : Obj) : Prop where
  bel : Below w.heap.size w W
  row : Wide W 30 9 lv log.length (log.flatMap enC)
  new : ∀ i, lv.ownBlock = some i → w.heap.size ≤ i
  tab : ∃ mv av m n R, Tb W tb mv av m K n c R ∧ (∀ i, R i → w.heap.size ≤ i ∧ i < W.heap.size) ∧ (∀ i, lv.ownBlock = some i → ¬ R i) ∧ ¬ R g
  box : W.heap[g]? = some o
  gl : lv.ownBlock ≠ some g
variable {g : Nat} {o : Obj}
theorem LB.ls (h : LB w W tb K c log lv g o) : LS w W tb K c log lv := by
  obtain ⟨mv, av, m, n, R, t1, t2, t3, _⟩ := h.tab
  exact ⟨h.bel, h.row, h.new, mv, av, m, n, R, t1, t2, t3⟩
theorem LS.box (h : LS w W tb K c log lv) (o : Obj) : LB w (W.alloc o) tb K c log lv W.heap.size o := by
  have hb : Below W.heap.size W (W.alloc o) := (Below.refl _ _).alloc (Nat.le_refl _) _
  obtain ⟨mv, av, m, n, R, t1, t2, t3⟩ := h.tab
  refine ⟨h.bel.trans (hb.mono h.bel.size), h.row.later hb, h.new, ⟨mv, av, m, n, R, t1.later hb, fun i hi => ⟨(t2 i hi).1, Nat.lt_of_lt_of_le (t2 i hi).2 hb.size⟩, t3, fun hr => ?_⟩, heap_new _ _, fun e => ?_⟩
  · have := (t2 _ hr).2; omega
  · have := h.row.lt _ e; omega
theorem LB.later (h : LB w W tb K c log lv g o) (hb : Below W.heap.size W W') : LB w W' tb K c log lv g o := by
  obtain ⟨mv, av, m, n, R, t1, t2, t3, t4⟩ := h.tab
  exact ⟨h.bel.trans (hb.mono h.bel.size), h.row.later hb, h.new, ⟨mv, av, m, n, R, t1.later hb, fun i hi => ⟨(t2 i hi).1, Nat.lt_of_lt_of_le (t2 i hi).2 hb.size⟩, t3, t4⟩, below_keep hb h.box, h.gl⟩
/-- Apply. -/
theorem LB.apply (h : LB w W tb K c log lv g o) (hc : c ≤ 2000000000000) (b : Bt) (a : Option Addr) (cap : Nat) (h64 : b.pid < 18446744073709551616) :
    Calls Try.prog 11 #[.pointer (some ⟨tb, 0, none⟩), bv b a cap] W fun e w' => e = .returned (.tuple #[]) ∧ LB w w' tb (putK K b) (c + 1) log lv g o := by
  by_cases h0 : b.pid = 0
  · refine (apply_zero tb W b a cap h0).mono ?_
    rintro e w' ⟨rfl, hb⟩
    have : putK K b = K := if_pos h0
    rw [this]
    obtain ⟨mv, av, m, n, R, t1, t2, t3, t4⟩ := (h.later hb).tab
    exact ⟨rfl, (h.later hb).bel, (h.later hb).row, h.new, ⟨mv, av, m, n, R, ⟨t1.tab, t1.map, t1.non, t1.hav, t1.own, t1.apt, t1.abr, t1.abo, t1.tbr, ⟨Nat.le_succ_of_le t1.len.1, Nat.le_succ_of_le t1.len.2⟩⟩, t2, t3, t4⟩, (h.later hb).box, h.gl⟩
  · obtain ⟨mv, av, m, n, R, t1, t2, t3, t4⟩ := h.tab
    refine (apply_any t1 hc b a cap h0 h64).mono ?_
    rintro e w' ⟨rfl, mv', av', m', n', R', u1, u2, u3⟩
    have e2 : putK K b = fun s => if s = b.pid then some (apK b (atK (K b.pid) b.pep)) else K s := if_neg h0
    rw [e2]
    have hgW := lt_of_heap h.box
    refine ⟨rfl, below_touch h.bel u3 h.bel.size (fun k hk => (t2 k hk).1), h.row.keep u3 t3, h.new, ⟨mv', av', m', n', R', u1, fun i hi => ?_, fun i hi hr => ?_, fun hr => ?_⟩, u3.keep h.box t4, h.gl⟩
    · rcases u2 i hi with e | e
      · exact ⟨(t2 i e).1, Nat.lt_of_lt_of_le (t2 i e).2 u3.size⟩
      · exact ⟨Nat.le_trans h.bel.size e.1, e.2⟩
    · rcases u2 i hr with e | e
      · exact t3 i hi e
      · have := h.row.lt i hi
        omega
    · rcases u2 g hr with e | e
      · exact t4 e
      · omega
/-- The log grows. -/
theorem LB.push {X W3 : World} (h : LB w W tb K c log lv g o) (hX : Below W.heap.size W X) (e : En) {v3 : Value} (o3 : Wide W3 30 9 v3 (log.length + 1) (log.flatMap enC ++ enC e)) (t3 : Touch (fun k => lv.ownBlock = some k) X W3) (m3 : Moved X lv v3) : LB w W3 tb K c (log ++ [e]) v3 g o := by
  have hx := h.later hX
  obtain ⟨mv, av, m, n, R, u1, u2, u3, u4⟩ := hx.tab
  refine ⟨below_touch hx.bel t3 hx.bel.size (fun k hk => h.new k hk), ?_, fun i hi => ?_, ⟨mv, av, m, n, R, u1.keep t3 (fun k hk e => u3 k e hk), fun i hi => ⟨(u2 i hi).1, Nat.lt_of_lt_of_le (u2 i hi).2 t3.size⟩, fun i hi hr => ?_, u4⟩, t3.keep hx.box h.gl, fun e => ?_⟩
  · rw [List.length_append, List.length_singleton, List.flatMap_append, List.flatMap_cons, List.flatMap_nil, List.append_nil]
    exact o3
  · rcases m3 i hi with e2 | e2
    · exact h.new i e2
    · exact Nat.le_trans hx.bel.size e2
  · rcases m3 i hi with e2 | e2
    · exact u3 i e2 hr
    · have := (u2 i hr).2; omega
  · rcases m3 g e with e2 | e2
    · exact h.gl e2
    · have := lt_of_heap hx.box; omega
end
end Go.Proofs.Ytjocjnjdmmihnaa
