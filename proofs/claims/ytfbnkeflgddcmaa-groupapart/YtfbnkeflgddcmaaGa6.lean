/-
  Two states side by side; the law in plain words. Conditions: as each says.
-/
import Derived.Test.YtfbnkeflgddcmaaGa5
import Derived.Test.YtfbnkeflgddcmaaGw9
import Derived.Test.YtfbnkeflgddcmaaSi16
import Derived.Test.YtfbnkeflgddcmaaPyg16
namespace Go.Proofs.Ytfbnkeflgddcmaa
open Go.RowKit Go.Maps
set_option linter.unusedVariables false

theorem rec_few {r : Rx} (hf : RFit r) (hC : isR r = true) : (encR r).length ≤ 4096 := by
  have h5 := isR_few hC
  have l0 := enc_len10 (zig_lt hf.kd.1 hf.kd.2)
  have l1 := enc_len10 (zig_lt hf.gr.1 hf.gr.2)
  have l2 := enc_len10 (zig_lt hf.gen.1 hf.gen.2)
  have l3 := enc_len10 (zig_lt hf.pt.1 hf.pt.2)
  have l4 := enc_len10 (zig_lt hf.off.1 hf.off.2)
  have l5 := enc_len10 (n := r.l.length) (by omega)
  have l5L := encL_len r.l hf.l
  unfold encR
  (repeat rw [List.length_append])
  (try rw [List.length_cons, List.length_nil])
  omega
theorem isR_gr {r : Rx} (hC : isR r = true) : 0 ≤ r.gr ∧ r.gr < 8 := by
  simp only [isR, Bool.and_eq_true, Bool.or_eq_true, decide_eq_true_eq] at hC
  exact hC.2.1
theorem gaAll_in {r : Rx} {A A' : Int → Ga} {k : Int} (h : A k = A' k) (e : r.gr = k) : gaAll r A k = gaAll r A' k := by
  unfold gaAll
  rw [if_pos e.symm, if_pos e.symm, e, h]
theorem gaAll_out {r : Rx} {A : Int → Ga} {k : Int} (e : ¬ r.gr = k) : gaAll r A k = A k := by
  unfold gaAll
  rw [if_neg (fun h => e h.symm)]
theorem GP.more {B : Nat} {w : World} {sb c : Nat} {mo : Option Nat} {m : List (Int × Tm)} {A : Int → Ga} (h : GP B w sb mo m c A) : GP B w sb mo m (c + 1) A := ⟨h.obj, h.g, h.team, Nat.le_succ_of_le h.few, h.hb⟩
theorem GP.apart {B : Nat} {w : World} {sb c : Nat} {mo : Option Nat} {m : List (Int × Tm)} {A : Int → Ga} (h : GP B w sb mo m c A) {k : Nat} {cs : Array Value} {t : TypeId} (hk : w.heap[k]? = some (.cells cs t)) (ht : k ≠ sb) : ¬ TP sb mo w k := by
  rintro (e | e | e)
  · exact ht e
  · subst e
    obtain ⟨es, ck, h1⟩ := h.map1.1.block
    rw [h1] at hk
    cases hk
  · have := lt_of_heap hk
    omega
theorem GP.ne {B : Nat} {w : World} {sb c k : Nat} {mo : Option Nat} {m : List (Int × Tm)} {A : Int → Ga} (h : GP B w sb mo m c A) {cs : Array Value} {t : TypeId} (hk : w.heap[k]? = some (.cells cs t)) (ht : t ≠ 52) : k ≠ sb := fun e => by
  subst e
  rw [h.obj] at hk
  exact ht (Obj.cells.inj (Option.some.inj hk)).2.1.symm
/-- One of two states was changed. -/
theorem two_step {B : Nat} {w w' : World} {sb xs c c' : Nat} {mo mo' : Option Nat} {m m' : List (Int × Tm)} {A A' : Int → Ga} {r : Rx} {e : Ending} (h : GP B w sb mo m c A) (g : GP B w xs mo' m' c' A') (hne : sb ≠ xs) (hd : ∀ b, mo = some b → mo' ≠ some b) (hq : HdQ B w sb mo c A r e w') :
    ∃ b m1, GP B w' sb (some b) m1 (c + 1) (gaAll r A) ∧ GP B w' xs mo' m' c' A' ∧ (∀ b', some b = some b' → mo' ≠ some b') ∧ Touch (TP sb mo w) w w' := by
  obtain ⟨_, b, m1, h1, h2, t⟩ := hq
  refine ⟨b, m1, h1, g.keep t (h.apart g.obj (fun e => hne e.symm)) (fun b' e hT => ?_) h.odd, fun b' e e2 => ?_, t⟩
  · subst e
    rcases hT with e | e | e
    · subst e
      obtain ⟨es, ck, q⟩ := g.map1.1.block
      rw [h.obj] at q
      cases q
    · exact hd _ e rfl
    · have := g.map1.1.lt
      omega
  · cases e
    subst e2
    rcases h2 with e | e
    · exact hd _ e rfl
    · have := g.map1.1.lt
      omega
/-- What stands between the rounds. -/
def AI (w : World) (k : Int) (i : Nat) (wr : World) : Prop := ∃ mos ms As mox mx Ax, GP w.heap.size wr w.heap.size mos ms i As ∧ GP w.heap.size wr (w.heap.size + 1) mox mx i Ax ∧ As k = Ax k ∧ (∀ b, mos = some b → mox ≠ some b) ∧ Below w.heap.size w wr
theorem AI.later {w wr w' : World} {k : Int} {i : Nat} (h : AI w k i wr) (hb : Below wr.heap.size wr w') : AI w k i w' := by
  obtain ⟨mos, ms, As, mox, mx, Ax, h1, h2, h3, h4, h5⟩ := h
  exact ⟨mos, ms, As, mox, mx, Ax, h1.later hb, h2.later hb, h3, h4, h5.trans (Below.mono hb h5.size)⟩
theorem AI.more {w wr : World} {k : Int} {i : Nat} (h : AI w k i wr) : AI w k (i + 1) wr := by
  obtain ⟨mos, ms, As, mox, mx, Ax, h1, h2, h3, h4, h5⟩ := h
  exact ⟨mos, ms, As, mox, mx, Ax, h1.more, h2.more, h3, h4, h5⟩
theorem AI.below {w wr : World} {k : Int} {i : Nat} (h : AI w k i wr) : Below w.heap.size w wr := by
  obtain ⟨mos, ms, As, mox, mx, Ax, h1, h2, h3, h4, h5⟩ := h
  exact h5
/-- One state has what the other one wants still. -/
def AJ (w : World) (k : Int) (i : Nat) (r : Rx) (wr : World) : Prop := ∃ mos ms As mox mx Ax, GP w.heap.size wr w.heap.size mos ms (i + 1) (gaAll r As) ∧ GP w.heap.size wr (w.heap.size + 1) mox mx i Ax ∧ As k = Ax k ∧ (∀ b, mos = some b → mox ≠ some b) ∧ Below w.heap.size w wr
theorem AJ.later {w wr w' : World} {k : Int} {i : Nat} {r : Rx} (h : AJ w k i r wr) (hb : Below wr.heap.size wr w') : AJ w k i r w' := by
  obtain ⟨mos, ms, As, mox, mx, Ax, h1, h2, h3, h4, h5⟩ := h
  exact ⟨mos, ms, As, mox, mx, Ax, h1.later hb, h2.later hb, h3, h4, h5.trans (Below.mono hb h5.size)⟩
theorem AJ.below {w wr : World} {k : Int} {i : Nat} {r : Rx} (h : AJ w k i r wr) : Below w.heap.size w wr := by
  obtain ⟨mos, ms, As, mox, mx, Ax, h1, h2, h3, h4, h5⟩ := h
  exact h5
theorem AJ.out {w wr : World} {k : Int} {i : Nat} {r : Rx} (h : AJ w k i r wr) (e : ¬ r.gr = k) : AI w k (i + 1) wr := by
  obtain ⟨mos, ms, As, mox, mx, Ax, h1, h2, h3, h4, h5⟩ := h
  exact ⟨mos, ms, _, mox, mx, Ax, h1, h2.more, by rw [gaAll_out e, h3], h4, h5⟩
/-- Apply to the first state. -/
def ApS (w : World) (k : Int) (i : Nat) (r : Rx) (W : World) (e : Ending) (w' : World) : Prop := e = .returned (.tuple #[]) ∧ AJ w k i r w' ∧ ∀ (j : Nat) (cs : Array Value) (t : TypeId), t ≠ 52 → W.heap[j]? = some (.cells cs t) → w'.heap[j]? = some (.cells cs t)
theorem apply_s {w W : World} {k : Int} {i : Nat} {r : Rx} {v : Value} {C : Nat} (h : AI w k i W) (ho : OneT C W v (encR r)) (hf : RFit r) (hC : isR r = true) (hi : i < maxLen) :
    Calls Try.prog 7 #[.pointer (some ⟨w.heap.size, 0, none⟩), .agg #[.int .i64 0, .int .i64 0, .int .u64 0, .int .i64 0, .int .i64 0, .bool false, .bool false, .bool false, v]] W fun e w' => ApS w k i r W e w' := by
  obtain ⟨mos, ms, As, mox, mx, Ax, h1, h2, h3, h4, h5⟩ := h
  refine (apply_gen h1 ho hf hC (rec_few hf hC) hi h5.size).mono fun e w' hq => ?_
  have he := hq.1
  obtain ⟨b, m1, g1, g2, g3, t⟩ := two_step h1 h2 (by omega) h4 hq
  exact ⟨he, ⟨_, m1, As, mox, mx, Ax, g1, g2, h3, g3, below_touch h5 t h5.size (TP.low h1 h5.size)⟩, fun j cs t' ht hj => t.keep hj (h1.apart hj (h1.ne hj ht))⟩
theorem apply_x {w W : World} {k : Int} {i : Nat} {r : Rx} {v : Value} {C : Nat} (h : AJ w k i r W) (ho : OneT C W v (encR r)) (hf : RFit r) (hC : isR r = true) (hi : i < maxLen) (hk : r.gr = k) :
    Calls Try.prog 7 #[.pointer (some ⟨w.heap.size + 1, 0, none⟩), .agg #[.int .i64 0, .int .i64 0, .int .u64 0, .int .i64 0, .int .i64 0, .bool false, .bool false, .bool false, v]] W fun e w' => e = .returned (.tuple #[]) ∧ AI w k (i + 1) w' := by
  obtain ⟨mos, ms, As, mox, mx, Ax, h1, h2, h3, h4, h5⟩ := h
  refine (apply_gen h2 ho hf hC (rec_few hf hC) hi h5.size).mono fun e w' hq => ?_
  have he := hq.1
  obtain ⟨b, m1, g1, g2, g3, t⟩ := two_step h2 h1 (by omega) (fun b e e2 => h4 b e2 e) hq
  exact ⟨he, mos, ms, _, _, m1, _, g2, g1, gaAll_in h3 hk, fun b e e2 => g3 b e2 e, below_touch h5 t h5.size (TP.low h2 h5.size)⟩
theorem ai_new (w : World) (k : Int) : AI w k 0 ((w.alloc (.cells #[.map none, .map none] 52)).alloc (.cells #[.map none, .map none] 52)) := by
  have b1 := (Below.refl w.heap.size w).alloc (Nat.le_refl _) (.cells #[.map none, .map none] 52)
  have b2 := b1.alloc b1.size (.cells #[.map none, .map none] 52)
  have hz : (w.alloc (.cells #[.map none, .map none] 52)).heap.size = w.heap.size + 1 := by simp
  have h2 := heap_new (w.alloc (.cells #[.map none, .map none] 52)) (.cells #[.map none, .map none] 52)
  rw [hz] at h2
  exact ⟨none, [], _, none, [], _, gp_new (heap_old _ (heap_new w _)) (Nat.le_refl _), gp_new h2 (Nat.le_succ _), rfl, (fun b e => by cases e), b2⟩
/-- A record that was handed in, as the law has it. -/
abbrev gqR (g : Gq) : Rx := ⟨g.kd, g.gr, g.gen, g.l, g.pt, g.off⟩
theorem gq_fit {w : World} {g : Gq} (h : GGot w g) : RFit (gqR g) := ⟨h.kd, h.gr, h.gen, h.l, h.pt, h.off⟩
end Go.Proofs.Ytfbnkeflgddcmaa
