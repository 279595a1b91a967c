/-
  An image of the call's own between commands, and the calls that ask it. Conditions: as each says.
-/
import Derived.Test.YthaedepnglincaaIgn
import Derived.Test.YthaedepnglincaaHs13
import Derived.Test.YthaedepnglincaaOw13
import Derived.Test.YthaedepnglincaaIg7
import Derived.Test.YthaedepnglincaaAw13
namespace Go.Proofs.Ythaedepnglincaa
open Go.RowKit Go.Maps
set_option linter.unusedVariables false

theorem INew.goes {w w1 w2 : World} {mb : Nat} {m m' : Im} (h : INew w w1 mb m) (t : ImTo w1 mb m w2 m') : INew w w2 mb m' :=
  ⟨t.at_, fun k hk => by
    rcases t.moved k hk with e | e
    · exact h.new k e
    · exact Nat.le_trans h.below.size e, below_touch h.below t.touch h.below.size (fun k hk => h.new k hk)⟩
theorem INew.after {w w1 w2 : World} {mb : Nat} {m : Im} (h : INew w w1 mb m) (b : Below w1.heap.size w1 w2) : INew w w2 mb m :=
  ⟨h.at_.later b, h.new, h.below.trans (b.mono h.below.size)⟩
/-- An image of the call's own. -/
structure LS (w wr : World) (mb : Nat) (g : Img) : Prop where
  ex : ∃ m, INew w wr mb m ∧ m.abs = g
theorem LS.later {w w1 w2 : World} {mb : Nat} {g : Img} (h : LS w w1 mb g) (b : Below w1.heap.size w1 w2) : LS w w2 mb g := by
  obtain ⟨m, h1, h2⟩ := h.ex
  exact ⟨m, h1.after b, h2⟩
theorem LS.below {w w1 : World} {mb : Nat} {g : Img} (h : LS w w1 mb g) : Below w.heap.size w w1 := by
  obtain ⟨m, h1, h2⟩ := h.ex
  exact h1.below
/-- Another block is written. -/
theorem LS.keep {w w1 w2 : World} {mb : Nat} {g : Img} (h : LS w w1 mb g) {wb : Nat} (hw : w.heap.size ≤ wb) (hn : ∀ m, ImAt w1 mb m → ¬ m.R mb wb) (t : Touch (· = wb) w1 w2) : LS w w2 mb g := by
  obtain ⟨m, h1, h2⟩ := h.ex
  exact ⟨m, ⟨h1.at_.keep t (fun k hk e => hn m h1.at_ (by rw [← e]; exact hk)), h1.new, below_touch h1.below t h1.below.size (fun k hk => by rw [hk]; exact hw)⟩, h2⟩
theorem ls_new (w : World) : Calls Try.prog 5 #[.int .i64 5, .int .i64 4, .int .i64 3] w fun e w' => ∃ mb, e = .returned (.tuple #[.pointer (some ⟨mb, 0, none⟩), .int .i64 0]) ∧ LS w w' mb (newI 5 4 3) := by
  refine (inew_any (w := w) (n := 5) (p := 4) (c := 3) (by omega) (by omega) (by omega) (by omega) (by omega) (by omega)).mono ?_
  rintro e w' ⟨mb, m, rfl, h1, h2⟩
  exact ⟨mb, rfl, ⟨m, h1, h2⟩⟩
theorem arnd_in (k c n : Nat) (hn : 0 < n) : inN n (arnd k c n) := by
  intro x hx
  have hx' : x ∈ rawA k c n := List.mem_mergeSort.1 hx
  obtain ⟨i, _, rfl⟩ := List.mem_map.1 hx'
  have h1 : (0 : Int) ≤ ((k : Int) + (i : Int)) % (n : Int) := Int.emod_nonneg _ (by omega)
  have h2 : ((k : Int) + (i : Int)) % (n : Int) < (n : Int) := Int.emod_lt_of_pos _ (by omega)
  simp [isN, h1, h2]
theorem thr_off (n : Nat) (y : Int) : thr (List.replicate n ⟨false, 0, 0⟩) y = false := by
  unfold thr
  cases h : (List.replicate n (⟨false, 0, 0⟩ : Nd))[y.toNat]? with
  | none => simp [List.getD, h]; rfl
  | some d =>
    have : d ∈ List.replicate n (⟨false, 0, 0⟩ : Nd) := List.mem_of_getElem? h
    rw [List.getD, h]
    rw [List.eq_of_mem_replicate this]
    rfl
theorem newP_fit (n c k : Nat) (hn : 0 < n) (hc : 0 < c) (h5 : c ≤ 1000) : QF n 0 (newP n c k) ∧ LI n (List.replicate n ⟨false, 0, 0⟩) (newP n c k) := by
  have hl : (arnd k c n).length = c := arnd_len k c n
  have hne : arnd k c n ≠ [] := fun e => by rw [e] at hl; simp at hl; omega
  refine ⟨⟨arnd_in k c n hn, (fun x hx => by cases hx), by show (arnd k c n).length ≤ 1000; omega, by show (arnd k c n).length ≤ 1000; omega, by simp [newP], ⟨Int.le_refl _, Int.le_refl _⟩, ⟨Int.le_refl _, Int.le_refl _⟩⟩, ⟨arnd_in k c n hn, hne, hne, fun x hx => .inl hx, fun h => absurd rfl h, fun _ x _ => thr_off n x⟩⟩
theorem gl_new : GL 5 4 0 (newI 5 4 3) := by
  have key : ∀ q ∈ (newI 5 4 3).ps, QF 5 0 q ∧ LI 5 (newI 5 4 3).ns q := fun q hq => by
    obtain ⟨k, _, rfl⟩ := List.mem_map.1 hq
    exact newP_fit 5 3 k (by omega) (by omega) (by omega)
  exact ⟨⟨by simp [newI], by simp [newI], fun q hq => (key q hq).1⟩, fun i q hq => (key q (List.mem_of_getElem? hq)).2⟩
theorem ls_apply {w w1 w2 : World} {mb : Nat} {g : Img} {b : Int} {a : Option Addr} {k : Nat} {l : List Int} (kd nd pt ep ve : Int) (h : LS w w1 mb g) (hG : GL 5 4 b g) (hb : b ≤ 2305843009213693952) (h0 : 0 ≤ g.ct) (h1 : g.ct ≤ 4611686018427387904)
    (b2 : Below w1.heap.size w1 w2) (hl : IL w2 (.slice a l.length k) l) (hn : New w1 (.slice a l.length k)) :
    Calls Try.prog 7 #[.pointer (some ⟨mb, 0, none⟩), .agg #[.int .i64 kd, .int .i64 nd, .int .i64 pt, .int .i64 ep, .int .i64 ve, .slice a l.length k]] w2 fun e w3 => ∃ E : Int, e = .returned (.int .i64 E) ∧ LS w w3 mb (applyI g ⟨kd, nd, pt, ep, ve, a, k, l⟩).2 ∧
      ∀ wb, (∀ m, ImAt w2 mb m → ¬ m.R mb wb) → wb < w2.heap.size → w3.heap[wb]? = w2.heap[wb]? := by
  obtain ⟨m, i1, rfl⟩ := h.ex
  have at2 := i1.at_.later b2
  obtain ⟨a', k', e1, hi, _, _, _, hw⟩ := hl.iat
  injection e1 with e1 e2 e3
  subst e1 e3
  have far : Far m mb ⟨kd, nd, pt, ep, ve, a, k, l⟩ := fun _ x hx hR => by
    have q1 := i1.at_.lt hR
    have q2 := hn x.block (hw x hx)
    omega
  have hF : ∀ q ∈ m.ps.map Pm.q, PFit m.ns.length q := fun q hq => by
    have := (hG.gf.each q hq).fit hb
    have e : m.ns.length = 5 := hG.gf.nl
    rw [e]; exact this
  refine (does_any (c := ⟨kd, nd, pt, ep, ve, a, k, l⟩) at2 ⟨hi, hl.len⟩ far h0 h1 hF).mono ?_
  rintro e w3 ⟨v, rfl, rfl, m', t, e2⟩
  exact ⟨_, rfl, ⟨m', (i1.after b2).goes t, e2⟩, fun wb hwb hlt => t.touch.block wb hlt (fun hR => hwb m at2 hR)⟩
theorem ls_part {w wr : World} {mb : Nat} {g : Img} {b : Int} (h : LS w wr mb g) (hG : GL 5 4 b g) {k : Nat} {q : Pt} (hq : g.ps[k]? = some q) :
    Calls Try.prog 9 #[.pointer (some ⟨mb, 0, none⟩), .int .i64 k] wr fun e w' => ∃ ui ur ut, e = .returned (.tuple #[.agg #[.int .i64 q.ld, .int .i64 q.ep, .int .i64 q.ve, ui, ur, ut], .bool true]) ∧ Told13 wr w' q ui ur ut := by
  obtain ⟨m, i1, rfl⟩ := h.ex
  have hq' : (m.ps.map Pm.q)[k]? = some q := hq
  rw [List.getElem?_map] at hq'
  have hk : k < m.ps.length := by
    rcases Nat.lt_or_ge k m.ps.length with h | h
    · exact h
    · rw [List.getElem?_eq_none h] at hq'; cases hq'
  rw [List.getElem?_eq_getElem hk] at hq'
  have e : (m.ps[k]).q = q := Option.some.inj hq'
  have hF := hG.gf.each q (List.mem_of_getElem? hq)
  exact part_any i1.at_ hk (q := q) (vi := (m.ps[k]).vi) (vr := (m.ps[k]).vr) (vt := (m.ps[k]).vt) (by rw [← e]) (by have := hF.il; omega) (by have := hF.rl; omega) (by have := hF.tl; omega)
theorem ls_node {w wr : World} {mb : Nat} {g : Img} {b : Int} (h : LS w wr mb g) (hG : GL 5 4 b g) {x : Int} (hx : isN 5 x = true) :
    Calls Try.prog 10 #[.pointer (some ⟨mb, 0, none⟩), .int .i64 x] wr fun e w' => ∃ (t u : Int), e = .returned (.tuple #[.bool (thr g.ns x), .int .i64 t, .int .u64 u]) ∧ Below wr.heap.size wr w' := by
  obtain ⟨m, i1, rfl⟩ := h.ex
  obtain ⟨k, rfl, hk⟩ := isN_nat hx
  have hl : k < m.ns.length := by
    have e : m.ns.length = 5 := hG.gf.nl
    omega
  refine (node_any i1.at_ hl).mono ?_
  rintro e w2 ⟨rfl, b2⟩
  refine ⟨(m.ns[k]).tm, (m.ns[k]).bk, ?_, b2⟩
  have : thr m.abs.ns (k : Int) = (m.ns[k]).th := by
    unfold thr Im.abs
    rw [Int.toNat_natCast]
    simp [List.getD, hl]
  rw [this]
/-- A block of another type is none of an image's. -/
theorem ImAt.alien {w : World} {mb : Nat} {m : Im} (h : ImAt w mb m) {k : Nat} {cs : Array Value} {t : TypeId} (hk : w.heap[k]? = some (.cells cs t)) (h1 : t ≠ 52) (h2 : t ≠ 69) (h3 : t ≠ 62) (h4 : t ≠ 30) (h5 : t ≠ 3) : ¬ m.R mb k := by
  rintro (rfl | rfl | hB | hB | ⟨i, hi, hB⟩)
  · exact h1 (ty_ne hk h.obj)
  · exact h2 (ty_ne hk h.ctr.at_)
  · obtain ⟨cs', e⟩ := h.nds.heap hB; exact h3 (ty_ne hk e)
  · obtain ⟨cs', e⟩ := h.pts.heap hB; exact h4 (ty_ne hk e)
  · obtain ⟨cs', e⟩ := (h.each i hi).heap hB; exact h5 (ty_ne hk e)
theorem CGot.later {w w' : World} {c : Cm} (h : CGot w c) (b : Below w.heap.size w w') : CGot w' c := ⟨h.cin.later b, h.len, h.ks, h.cap, h.room⟩
end Go.Proofs.Ythaedepnglincaa
