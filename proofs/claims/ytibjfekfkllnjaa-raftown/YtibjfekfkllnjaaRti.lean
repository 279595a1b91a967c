/-
  A raft of one node, of the call's own: begun, elected, told to lay, asked. Conditions: at most 2^42 - 128 entries.
-/
import Derived.Test.YtibjfekfkllnjaaRte
import Derived.Test.YtibjfekfkllnjaaRth
namespace Go.Proofs.Ytibjfekfkllnjaa
open Go.RowKit Go.Maps
set_option linter.unusedVariables false

theorem EL.dropArr {ty : TypeId} {w : World} {v : Value} {ps : List En} (h : EL ty w v ps) {d : Nat} (hd : d < ps.length) : ∃ g cap, v = .slice (some ⟨g, 0, none⟩) ps.length cap ∧ ps.length ≤ cap ∧ cap ≤ maxLen ∧ EArr w (some ⟨g, d * 2, none⟩) (ps.drop d) ∧ ∀ b, EAB (some ⟨g, d * 2, none⟩) (ps.drop d) b → ELB v ps b := by
  obtain ⟨g, cap, hv, hg, h1, h2, _, _⟩ := h.at_ hd
  refine ⟨g, cap, hv, h1, h2, ⟨fun i hi => ?_, fun p hp => (h.each p (List.mem_of_mem_drop hp)).ein⟩, ?_⟩
  · have hi' : d + i < ps.length := by rw [List.length_drop] at hi; omega
    obtain ⟨g', cap', hv', hg', _, _, y0, y1⟩ := h.at_ hi'
    rw [hv] at hv'
    cases hv'
    refine ⟨g, d * 2, rfl, hg, ?_, ?_⟩
    · rw [List.getElem_drop, show d * 2 + i * 2 = (d + i) * 2 by omega]; exact y0
    · rw [List.getElem_drop, show d * 2 + i * 2 = (d + i) * 2 by omega]; exact y1
  · rintro b (⟨_, x, hx, rfl⟩ | ⟨p, hp, _, x, hx, rfl⟩)
    · cases hx
      rw [hv]; exact .inl rfl
    · have hm := List.mem_of_mem_drop hp
      obtain ⟨a, cp, e, _, _, _, _, h5, _⟩ := (h.each p hm).row.parts
      injection e with e1 _ _
      exact .inr ⟨p, hm, h5 x (by rw [← e1]; exact hx)⟩

/-- A raft alone that leads. -/
structure A1 (w0 w : World) (rb : Nat) (ps : List En) (tn : Nat) (sv : Bool) : Prop where
  ex : ∃ sa sc v mo nx, (sa = none → sc = 0) ∧ R1 (.slice sa 0 sc) w rb 1 0 v 3 0 0 4 mo nx (ps.length : Int) (ps.length : Int) (tn : Int) sv ∧ EL 64 w v ps ∧ ∀ k, (k = rb ∨ ELB v ps k) → w0.heap.size ≤ k
  below : Below w0.heap.size w0 w
theorem A1.later {w0 w w' : World} {rb : Nat} {ps : List En} {tn : Nat} {sv : Bool} (h : A1 w0 w rb ps tn sv) (hb : Below w.heap.size w w') : A1 w0 w' rb ps tn sv := by
  obtain ⟨sa, sc, v, mo, nx, h1, h2, h3, h4⟩ := h.ex
  exact ⟨⟨sa, sc, v, mo, nx, h1, below_keep hb h2, h3.later hb, h4⟩, h.below.trans (hb.mono h.below.size)⟩
/-- A raft alone that has had i ticks. -/
structure B1 (w0 w : World) (rb : Nat) (i : Nat) : Prop where
  ex : ∃ sa sc v, (sa = none → sc = 0) ∧ R1 (.slice sa 0 sc) w rb 0 (-1) v 0 (-1) (i : Int) 4 none 0 0 0 0 false ∧ EL 64 w v [] ∧ ∀ k, (k = rb ∨ ELB v [] k) → w0.heap.size ≤ k
  below : Below w0.heap.size w0 w
theorem own_none {sa : Option Addr} {n sc : Nat} {w : World} {l : List Nat} (h : Row w (.slice sa n sc) l) : sa = none → sc = 0 := by
  obtain ⟨a, c, e, _, _, _, h4, _⟩ := h.parts
  injection e with e1 _ e3
  subst e1 e3
  exact h4
theorem begun1 (w : World) : Calls Try.prog 16 #[.int .i64 0, .int .i64 1, .agg #[.int .i64 0, .int .i64 (-1), .int .i64 0, .int .i64 0, .slice none 0 0, .slice none 0 0]] w fun e w' => ∃ rb, e = .returned (.tuple #[.pointer (some ⟨rb, 0, none⟩), .int .i64 0]) ∧ B1 w w' rb 0 := by
  refine (new_ok (w := w) (i := 0) (n := 1) (h := ⟨0, -1, 0, 0, none, 0, [], none, 0, []⟩) ⟨fun i hi => by simp at hi, fun _ => rfl, by simp, EArr.nil _ _, by simp⟩ (by omega) (by omega) (by omega) (by omega) (by simp) (by simp) (by simp) (by simp)).mono ?_
  rintro e w1 ⟨rb, g, rfl, h1, h2, h3, h4, h5⟩
  obtain ⟨gT, gvo, gbase, gbt, ga, gc, gl, gla, glc, gps⟩ := g
  obtain ⟨rfl, rfl, rfl, rfl, rfl, e6⟩ := h3
  have hps : gps = [] := by simpa using e6
  subst hps
  refine ⟨rb, rfl, ⟨⟨ga, gc, .slice gla 0 glc, own_none h4.row, h1, h4.log, ?_⟩, h5⟩⟩
  rintro k (rfl | hk)
  · exact h2
  · exact h4.newL k hk
theorem tick1 {w0 w : World} {rb i : Nat} (hi : i < 3) (h : B1 w0 w rb i) : Calls Try.prog 19 #[.pointer (some ⟨rb, 0, none⟩), .int .u64 0] w fun e w' => e = .returned (.tuple #[]) ∧ B1 w0 w' rb (i + 1) := by
  obtain ⟨sa, sc, v, h1, h2, h3, h4⟩ := h.ex
  refine (tick_low (tk1 := ((i + 1 : Nat) : Int)) (by rw [wrap_low (by omega) (by omega)]; omega) (by omega) h2).mono ?_
  rintro e w1 ⟨rfl, r1, t1⟩
  refine ⟨rfl, ⟨⟨sa, sc, v, h1, r1, h3.keep t1 (fun k hk e => h3.not h2 (by decide) (by decide) k hk e), h4⟩, below_touch h.below t1 h.below.size (fun k hk => h4 k (.inl hk))⟩⟩
theorem tick4 {w0 w : World} {rb : Nat} (h : B1 w0 w rb 3) : Calls Try.prog 19 #[.pointer (some ⟨rb, 0, none⟩), .int .u64 0] w fun e w' => e = .returned (.tuple #[]) ∧ ∃ p, p.abs = (1, []) ∧ A1 w0 w' rb [p] 0 true := by
  obtain ⟨sa, sc, v, h1, h2, h3, h4⟩ := h.ex
  refine (tick_at (T1 := 1) (tk1 := 4) (by rfl) (by rfl) (by omega) h2 h3 (by simp) (by simp)).mono ?_
  rintro e w1 ⟨rfl, m, v', p', a1, a2, a3, a4, a5⟩
  refine ⟨rfl, p', a3, ⟨⟨sa, sc, v', some m, _, h1, a1, a2, ?_⟩, below_touch h.below a4 h.below.size (fun k hk => h4 k (hk.imp id .inl))⟩⟩
  rintro k (rfl | hk)
  · exact h4 k (.inl rfl)
  · rcases a5 k hk with e | e
    · exact h4 k (.inr e)
    · exact Nat.le_trans h.below.size e
theorem lay_own {w0 w : World} {rb : Nat} {ps : List En} {tn : Nat} {sv : Bool} (h : A1 w0 w rb ps tn sv) {a : Option Addr} {c : Nat} {l : List Nat} (hp : EIn w ⟨1, a, c, l⟩) (hl : l.length ≤ 4096) (hn : ps.length ≤ 4398046510976) :
    Calls Try.prog 13 #[.pointer (some ⟨rb, 0, none⟩), .slice a l.length c] w fun e w' => e = .returned (.tuple #[.int .i64 ((ps.length + 1 : Nat) : Int), .int .i64 0]) ∧ ∃ p, p.abs = (1, l) ∧ A1 w0 w' rb (ps ++ [p]) tn true := by
  obtain ⟨sa, sc, v, mo, nx, h1, h2, h3, h4⟩ := h.ex
  refine (propose1 h2 h3 hn hp hl).mono ?_
  rintro e w1 ⟨rfl, v', p', a1, a2, a3, a4, a5⟩
  refine ⟨rfl, p', a3, ⟨⟨sa, sc, v', mo, nx, h1, ?_, a2, ?_⟩, below_touch h.below a4 h.below.size (fun k hk => h4 k (hk.imp id .inl))⟩⟩
  · rw [List.length_append, List.length_singleton]; exact a1
  · rintro k (rfl | hk)
    · exact h4 k (.inl rfl)
    · rcases a5 k hk with e | e
      · exact h4 k (.inr e)
      · exact Nat.le_trans h.below.size e
/-- What Take answers of a raft alone. -/
structure Tk1 (w0 w w' : World) (rb : Nat) (ps : List En) (tn : Nat) (g : Hd) (v : Value) (ks : List En) : Prop where
  T : g.ps.map En.abs = ps.map En.abs
  own : HRow w w' g
  list : EL 48 w' v ks
  abs : ks.map En.abs = cmE (tn : Int) (ps.drop tn)
  new : ∀ j, ELB v ks j → w.heap.size ≤ j
  apart : ∀ j, ELB v ks j → ¬ ELB (hdL g) g.ps j
  raft : A1 w0 w' rb ps ps.length false
  touch : Touch (fun k => w0.heap.size ≤ k) w w'
theorem take1 {w0 w : World} {rb : Nat} {ps : List En} {tn : Nat} (h : A1 w0 w rb ps tn true) (hto : tn < ps.length) (hn : ps.length ≤ 4398046510976) :
    Calls Try.prog 18 #[.pointer (some ⟨rb, 0, none⟩)] w fun e w' => ∃ g v ks, e = .returned (rdV true g (.slice none 0 0) false (.slice none 0 0) v) ∧ Tk1 w0 w w' rb ps tn g v ks := by
  obtain ⟨sa, sc, v, mo, nx, h1, h2, h3, h4⟩ := h.ex
  obtain ⟨g, cap, rfl, hc1, hc2, ea, eb⟩ := h3.dropArr hto
  have hnot := h3.not h2 (by decide) (by decide)
  have hlen : (ps.drop tn).length = ps.length - tn := by simp
  have TL : ∀ X, Below w.heap.size w X → Calls Try.prog 33 #[.pointer (some ⟨rb, 0, none⟩)] X fun e w' => TlPost X rb (r1C (.slice sa 0 sc) 1 0 (.slice (some ⟨g, 0, none⟩) ps.length cap) 3 0 0 4 mo nx (ps.length : Int) (ps.length : Int) (tn : Int) true) (tn : Int) (ps.drop tn) e w' := fun X hX => by
    have hX2 := below_keep hX h2
    refine tell_of (cap := cap - tn) hX2 rfl rfl ?_ (by omega) (by rw [hlen]; omega) (ea.later hX) (fun b hb => hnot b (eb b hb)) (by rw [hlen]; omega) (fun n => ?_)
    · rw [hlen, wrap_low (by omega) (by omega)]; omega
    · have := behind_any (w := X.drewN n) (rb := rb) (g := g) (k := ps.length) (cap := cap) (d := tn) (m := ps.length - tn) (base := 0) (num := (tn : Int)) (cell_of hX2 4) (cell_of hX2 7) (by rw [Int.sub_zero, wrap64_i64]; exact wrap_low (by omega) (by omega)) hto hc1 (Nat.le_refl _) hc2
      rw [hlen]
      exact this
  refine (take_save (h := ⟨1, 0, 0, 0, sa, sc, [], some ⟨g, 0, none⟩, cap, ps⟩) h2 ⟨rfl, rfl, rfl, rfl, rfl, rfl, rfl, rfl, rfl, rfl, rfl⟩ ⟨fun i hi => by simp at hi, h1, by simp, ?_, hn⟩ TL).mono ?_
  · obtain ⟨a', c', e', ar⟩ := h3.arr
    cases e'
    exact ar
  · rintro e w1 ⟨gg, sn, v', ks, rfl, s⟩
    obtain rfl := s.none rfl
    refine ⟨gg, v', ks, rfl, ⟨(s.hard rfl).ps, s.own, s.list, s.abs, s.new, s.apart, ⟨⟨sa, sc, _, mo, nx, h1, ?_, h3.keep s.touch (fun k hk e => hnot k hk e), h4⟩, below_touch h.below s.touch h.below.size (fun k hk => h4 k (.inl hk))⟩, s.touch.mono (fun k hk => h4 k (.inl hk))⟩⟩
    have hb := s.box
    unfold tkC at hb
    rw [hlen, show (tn : Int) + ((ps.length - tn : Nat) : Int) = (ps.length : Int) by omega] at hb
    exact hb
theorem state1 {w0 w : World} {rb : Nat} {ps : List En} {tn : Nat} {sv : Bool} (h : A1 w0 w rb ps tn sv) (hn : ps.length ≤ 4398046510976) :
    Calls Try.prog 12 #[.pointer (some ⟨rb, 0, none⟩)] w fun e w' => e = .returned (.tuple #[.int .i64 3, .int .i64 1, .int .i64 0, .int .i64 (ps.length : Int), .int .i64 (ps.length : Int)]) ∧ ∃ n, w' = w.drewN n := by
  obtain ⟨sa, sc, v, mo, nx, h1, h2, h3, h4⟩ := h.ex
  obtain ⟨av, cv, rfl⟩ := h3.row.shape
  have := state_any (w := w) (rb := rb) (k := ps.length) (cap := cv) (a := av) (base := 0) (cell_of h2 2) (cell_of h2 4) (cell_of h2 7) (cell_of h2 8) (cell_of h2 9) (cell_of h2 23)
  rw [show wrap64 (0 + (ps.length : Int)) = (ps.length : Int) by rw [wrap64_i64, Int.zero_add]; exact wrap_low (by omega) (by omega)] at this
  exact this
end Go.Proofs.Ytibjfekfkllnjaa
