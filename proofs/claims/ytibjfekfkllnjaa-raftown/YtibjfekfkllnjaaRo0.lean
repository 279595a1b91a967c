/-
  A raft of one node with its blocks: laid into, asked, while others write elsewhere. Conditions: at most 2^42 - 128 entries.
-/
import Derived.Test.YtibjfekfkllnjaaRti
namespace Go.Proofs.Ytibjfekfkllnjaa
open Go.RowKit Go.Maps
set_option linter.unusedVariables false

/-- A raft alone that leads, all its blocks among R. -/
structure A2 (w0 w : World) (rb : Nat) (R : Nat → Prop) (ps : List En) (tn : Nat) (sv : Bool) : Prop where
  ex : ∃ sa sc v mo nx, (sa = none → sc = 0) ∧ R1 (.slice sa 0 sc) w rb 1 0 v 3 0 0 4 mo nx (ps.length : Int) (ps.length : Int) (tn : Int) sv ∧ EL 64 w v ps ∧ ∀ k, (k = rb ∨ ELB v ps k) → R k
  low : ∀ k, R k → w0.heap.size ≤ k
  lt : ∀ k, R k → k < w.heap.size
  below : Below w0.heap.size w0 w
theorem A1.set {w0 w : World} {rb : Nat} {ps : List En} {tn : Nat} {sv : Bool} (h : A1 w0 w rb ps tn sv) : ∃ R, A2 w0 w rb R ps tn sv := by
  obtain ⟨sa, sc, v, mo, nx, h1, h2, h3, h4⟩ := h.ex
  refine ⟨fun k => k = rb ∨ ELB v ps k, ⟨⟨sa, sc, v, mo, nx, h1, h2, h3, fun k hk => hk⟩, h4, ?_, h.below⟩⟩
  rintro k (rfl | hk)
  · exact lt_of_heap h2
  · exact h3.lt k hk
theorem A2.keep {w0 w w' : World} {rb : Nat} {R S : Nat → Prop} {ps : List En} {tn : Nat} {sv : Bool} (h : A2 w0 w rb R ps tn sv) (t : Touch S w w') (hs : ∀ k, R k → ¬ S k) (hS : ∀ k, S k → w0.heap.size ≤ k) : A2 w0 w' rb R ps tn sv := by
  obtain ⟨sa, sc, v, mo, nx, h1, h2, h3, h4⟩ := h.ex
  exact ⟨⟨sa, sc, v, mo, nx, h1, t.keep h2 (hs rb (h4 rb (.inl rfl))), h3.keep t (fun k hk => hs k (h4 k (.inr hk))), h4⟩, h.low, fun k hk => Nat.lt_of_lt_of_le (h.lt k hk) t.size, below_touch h.below t h.below.size hS⟩
theorem A2.later {w0 w w' : World} {rb : Nat} {R : Nat → Prop} {ps : List En} {tn : Nat} {sv : Bool} (h : A2 w0 w rb R ps tn sv) (hb : Below w.heap.size w w') : A2 w0 w' rb R ps tn sv := h.keep (Touch.of_below (S := fun _ => False) hb) (fun _ _ h => h) (fun _ h => h.elim)
/-- What Propose leaves. -/
def P2Post (w0 w : World) (rb : Nat) (R : Nat → Prop) (ps : List En) (tn : Nat) (l : List Nat) (w' : World) : Prop := ∃ p R', p.abs = (1, l) ∧ A2 w0 w' rb R' (ps ++ [p]) tn true ∧ Touch R w w' ∧ ∀ k, R' k → R k ∨ w.heap.size ≤ k
theorem propose2 {w0 w : World} {rb : Nat} {R : Nat → Prop} {ps : List En} {tn : Nat} {sv : Bool} (h : A2 w0 w rb R ps tn sv) {a : Option Addr} {c : Nat} {l : List Nat} (hp : EIn w ⟨1, a, c, l⟩) (hl : l.length ≤ 4096) (hn : ps.length ≤ 4398046510976) :
    Calls Try.prog 13 #[.pointer (some ⟨rb, 0, none⟩), .slice a l.length c] w fun e w' => e = .returned (.tuple #[.int .i64 ((ps.length + 1 : Nat) : Int), .int .i64 0]) ∧ P2Post w0 w rb R ps tn l w' := by
  obtain ⟨sa, sc, v, mo, nx, h1, h2, h3, h4⟩ := h.ex
  refine (propose1 h2 h3 hn hp hl).mono ?_
  rintro e w1 ⟨rfl, v', p', a1, a2, a3, a4, a5⟩
  have a4' : Touch R w w1 := a4.mono (fun k hk => h4 k (hk.imp id .inl))
  refine ⟨rfl, p', fun k => k = rb ∨ ELB v' (ps ++ [p']) k, a3, ⟨⟨sa, sc, v', mo, nx, h1, ?_, a2, fun k hk => hk⟩, ?_, ?_, below_touch h.below a4' h.below.size h.low⟩, a4', ?_⟩
  · rw [List.length_append, List.length_singleton]; exact a1
  · rintro k (rfl | hk)
    · exact h.low k (h4 k (.inl rfl))
    · rcases a5 k hk with e | e
      · exact h.low k (h4 k (.inr e))
      · exact Nat.le_trans h.below.size e
  · rintro k (rfl | hk)
    · exact lt_of_heap a1
    · exact a2.lt k hk
  · rintro k (rfl | hk)
    · exact .inl (h4 k (.inl rfl))
    · exact (a5 k hk).imp (fun e => h4 k (.inr e)) id
/-- What Take answers of it. -/
structure T2 (w0 w w' : World) (rb : Nat) (R : Nat → Prop) (ps : List En) (tn : Nat) (g : Hd) (v : Value) (ks : List En) : Prop where
  T : g.ps.map En.abs = ps.map En.abs
  own : HRow w w' g
  list : EL 48 w' v ks
  abs : ks.map En.abs = cmE (tn : Int) (ps.drop tn)
  new : ∀ j, ELB v ks j → w.heap.size ≤ j
  apart : ∀ j, ELB v ks j → ¬ ELB (hdL g) g.ps j
  raft : A2 w0 w' rb R ps ps.length false
  touch : Touch R w w'
theorem take2 {w0 w : World} {rb : Nat} {R : Nat → Prop} {ps : List En} {tn : Nat} (h : A2 w0 w rb R ps tn true) (hto : tn < ps.length) (hn : ps.length ≤ 4398046510976) :
    Calls Try.prog 18 #[.pointer (some ⟨rb, 0, none⟩)] w fun e w' => ∃ g v ks, e = .returned (rdV true g (.slice none 0 0) false (.slice none 0 0) v) ∧ T2 w0 w w' rb R ps tn g v ks := by
  obtain ⟨sa, sc, v, mo, nx, h1, h2, h3, h4⟩ := h.ex
  obtain ⟨g, cap, rfl, hc1, hc2, ea, eb⟩ := h3.dropArr hto
  have hnot := h3.not h2 (by decide) (by decide)
  have hlen : (ps.drop tn).length = ps.length - tn := by simp
  have TL : ∀ X, Below w.heap.size w X → Calls Try.prog 33 #[.pointer (some ⟨rb, 0, none⟩)] X fun e w' => TlPost X rb (r1C (.slice sa 0 sc) 1 0 (.slice (some ⟨g, 0, none⟩) ps.length cap) 3 0 0 4 mo nx (ps.length : Int) (ps.length : Int) (tn : Int) true) (tn : Int) (ps.drop tn) e w' := fun X hX => by
    have hX2 := below_keep hX h2
    refine tell_of (cap := cap - tn) hX2 rfl rfl ?_ (by omega) (by rw [hlen]; omega) (ea.later hX) (fun b hb => hnot b (eb b hb)) (by rw [hlen]; omega) (fun n => ?_)
    · rw [hlen, wrap_low (by omega) (by omega)]; omega
    · have := behind_any (w := X.drewN n) (rb := rb) (g := g) (k := ps.length) (cap := cap) (d := tn) (m := ps.length - tn) (base := 0) (num := (tn : Int)) (cell_of hX2 4) (cell_of hX2 7) (by rw [Int.sub_zero, wrap64_i64]; exact wrap_low (by omega) (by omega)) hto hc1 (Nat.le_refl _) hc2
      rw [hlen]
      exact this
  refine (take_save (h := ⟨1, 0, 0, 0, sa, sc, [], some ⟨g, 0, none⟩, cap, ps⟩) h2 ⟨rfl, rfl, rfl, rfl, rfl, rfl, rfl, rfl, rfl, rfl, rfl⟩ ⟨fun i hi => by simp at hi, h1, by simp, ?_, hn⟩ TL).mono ?_
  · obtain ⟨a', c', e', ar⟩ := h3.arr
    cases e'
    exact ar
  · rintro e w1 ⟨gg, sn, v', ks, rfl, s⟩
    obtain rfl := s.none rfl
    have tR : Touch R w w1 := s.touch.mono (fun k hk => h4 k (.inl hk))
    refine ⟨gg, v', ks, rfl, ⟨(s.hard rfl).ps, s.own, s.list, s.abs, s.new, s.apart, ⟨⟨sa, sc, _, mo, nx, h1, ?_, h3.keep s.touch (fun k hk e => hnot k hk e), h4⟩, h.low, fun k hk => Nat.lt_of_lt_of_le (h.lt k hk) tR.size, below_touch h.below tR h.below.size h.low⟩, tR⟩⟩
    have hb := s.box
    unfold tkC at hb
    rw [hlen, show (tn : Int) + ((ps.length - tn : Nat) : Int) = (ps.length : Int) by omega] at hb
    exact hb

/-- A [][]byte that is handed in. -/
structure BRow (w : World) (a : Option Addr) (ls : List En) : Prop where
  cell : ∀ i (h : i < ls.length), ∃ b off, a = some ⟨b, off, none⟩ ∧ b < w.heap.size ∧ w.cell? ⟨b, off + i, none⟩ = some (enS ls[i])
  each : ∀ p ∈ ls, EIn w p
theorem BRow.later {w w' : World} {a : Option Addr} {ls : List En} (h : BRow w a ls) (hb : Below w.heap.size w w') : BRow w' a ls := by
  refine ⟨fun i hi => ?_, fun p hp => (h.each p hp).later hb⟩
  obtain ⟨b, off, h1, h2, h3⟩ := h.cell i hi
  exact ⟨b, off, h1, Nat.lt_of_lt_of_le h2 hb.size, (hb.cell (p := ⟨b, off + i, none⟩) h2).trans h3⟩
/-- The log behind k of them. -/
def lgL (ls : List En) (k : Nat) : List (Int × List Nat) := (1, []) :: (ls.take k).map (fun p => ((1 : Int), p.l))
theorem lgL_succ {ls : List En} {k : Nat} (h : k < ls.length) : lgL ls (k + 1) = lgL ls k ++ [(1, ls[k].l)] := by
  unfold lgL
  rw [List.take_succ_eq_append_getElem h, List.map_append, List.map_singleton, List.cons_append]
theorem lgL_len {ls : List En} {k : Nat} (h : k ≤ ls.length) : (lgL ls k).length = k + 1 := by
  unfold lgL
  simp [Nat.min_eq_left h]
theorem lgL_at {ls : List En} {i : Nat} (h : i < ls.length) : (lgL ls ls.length)[i + 1]? = some (1, ls[i].l) := by
  unfold lgL
  simp [h]
end Go.Proofs.Ytibjfekfkllnjaa
