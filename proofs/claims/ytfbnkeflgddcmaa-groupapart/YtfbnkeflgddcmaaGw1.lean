/-
  The law's batch of one record, and what group's records reads of it. Conditions: the record may be written.
-/
import Derived.Test.YtfbnkeflgddcmaaGw0
import Derived.Test.YtfbnkeflgddcmaaCrg2
import Derived.Deep.CutBlock
import Derived.Deep.MidRow
namespace Go.Proofs.Ytfbnkeflgddcmaa
open Go.RowKit
set_option linter.unusedVariables false

def lay (cs : Array Value) : Nat → List Value → Array Value
  | _, [] => cs
  | o, v :: r => lay (cs.setIfInBounds o v) (o + 1) r
theorem heap_setCells {g : Nat} {t : TypeId} : ∀ (vs : List Value) (o : Nat) (u : World) (cs : Array Value), u.heap[g]? = some (.cells cs t) → (u.setCells g o vs).heap[g]? = some (.cells (lay cs o vs) t) ∧ Touch (· = g) u (u.setCells g o vs)
  | [], o, u, cs, h => ⟨h, Touch.refl _ _⟩
  | v :: r, o, u, cs, h => by
    have h1 := heap_set h o v
    obtain ⟨q1, q2⟩ := heap_setCells r (o + 1) (u.setCell ⟨g, o, none⟩ v) (cs.setIfInBounds o v) h1
    exact ⟨q1, (touch_set u g o v).trans q2⟩
theorem lay_size : ∀ (vs : List Value) (o : Nat) (cs : Array Value), (lay cs o vs).size = cs.size
  | [], _, _ => rfl
  | v :: r, o, cs => by rw [lay, lay_size r]; simp
theorem lay_at : ∀ (vs : List Value) (o : Nat) (cs : Array Value) (i : Nat), (lay cs o vs)[i]? = if o ≤ i ∧ i < o + vs.length ∧ i < cs.size then vs[i - o]? else cs[i]?
  | [], o, cs, i => by
    rw [lay, if_neg]
    simp
    omega
  | v :: r, o, cs, i => by
    rw [lay, lay_at r]
    by_cases h : i = o
    · subst h
      rw [if_neg (by omega)]
      by_cases hs : i < cs.size
      · rw [if_pos (by simp; omega)]
        simp [hs]
      · rw [if_neg (by omega)]
        simp [hs]
    · by_cases hs : o + 1 ≤ i ∧ i < o + 1 + r.length ∧ i < cs.size
      · rw [if_pos (by simpa using hs), if_pos (by simp; omega)]
        have e : i - o = i - (o + 1) + 1 := by omega
        rw [e, List.getElem?_cons_succ]
      · rw [if_neg (by simpa using hs), if_neg (by simp; omega)]
        rw [Array.getElem?_setIfInBounds_ne (by omega)]
theorem lay_all {cs : Array Value} {vs : List Value} (h : cs.size = vs.length) : lay cs 0 vs = vs.toArray := by
  refine Array.ext_getElem? fun i => ?_
  rw [lay_at]
  by_cases hi : i < vs.length
  · rw [if_pos (by omega)]
    simp
  · rw [if_neg (by omega), Array.getElem?_eq_none (by omega)]
    simp
    omega
theorem there_of {u : World} {g o n : Nat} {cs : Array Value} {t : TypeId} (h : u.heap[g]? = some (.cells cs t)) (hn : o + n ≤ cs.size) : u.there g o n := fun j hj => by
  refine ⟨?_, frozen_of h (o + j)⟩
  rw [cell_of h]
  simp
  omega
theorem store_part {ops : Array Oper} {rest : List Oper} {op : Oper} {a : Act} {w : World} {Q : Exit → Act → World → Prop} (T TM : TypeId) (hgd : op.guard = none) (x y : Operand) (ho : op.op = .store T x y)
    (g o : Nat) (D : List Value) (hx : a.eval x = .pointer (some ⟨g, o, none⟩)) (hy : a.eval y = .agg D.toArray) {cs : Array Value} (L' : List Value)
    (hg : w.heap[g]? = some (.cells cs TM)) (hfit : o + D.length ≤ cs.size) (hi : (Try.prog.info? T).map (·.size) = some D.length) (h1 : D.toArray.all (·.oneCell') = true) (hL : lay cs o D = L'.toArray)
    (h : ∀ W, W.heap[g]? = some (.cells L'.toArray TM) → Touch (· = g) w W → wpList Try.prog ops Q rest (a.put op.dst undef) W) : wpList Try.prog ops Q (op :: rest) a w := by
  refine wpList_store_mid hgd T x y ho g o _ hx hy (there_of hg (by simpa using hfit)) (by rw [hi]; simp) h1 ?_
  obtain ⟨q1, q2⟩ := heap_setCells D o w _ hg
  rw [hL] at q1
  exact h _ q1 q2
theorem bs_info : ∃ i, Try.prog.info? 41 = some i ∧ i.zero = some (.slice none 0 0) ∧ i.size = 1 ∧ i.bytes = 24 := by
  have h : (Try.prog.info? 41).map (fun i => (i.zero, i.size, i.bytes)) = some (some (.slice none 0 0), 1, 24) := by kernel_rfl
  exact info_parts h
/-- A batch's values: one text. -/
def OneT (B : Nat) (w : World) (v : Value) (t : List Nat) : Prop := ∃ (g c : Nat) (ta : Option Addr) (tc : Nat), v = .slice (some ⟨g, 0, none⟩) 1 c ∧ w.cell? ⟨g, 0, none⟩ = some (.slice ta t.length tc) ∧ g < w.heap.size ∧ LAt w ta t ∧ (ta = none → tc = 0) ∧ t.length ≤ tc ∧ B ≤ g ∧ ∀ x, ta = some x → B ≤ x.block
theorem OneT.keep {B : Nat} {S : Nat → Prop} {w w' : World} {v : Value} {t : List Nat} (h : OneT B w v t) (ts : Touch S w w') (hs : ∀ k, B ≤ k → ¬ S k) : OneT B w' v t := by
  obtain ⟨g, c, ta, tc, e, h1, h2, h3, h4, h5, h6, h7⟩ := h
  exact ⟨g, c, ta, tc, e, (World.cell?_of_block (ts.block g h2 (hs g h6))).trans h1, Nat.lt_of_lt_of_le h2 ts.size, h3.keep ts (fun _ x hx => hs _ (h7 x hx)), h4, h5, h6, h7⟩
theorem OneT.later {B : Nat} {w w' : World} {v : Value} {t : List Nat} (h : OneT B w v t) (hb : Below w.heap.size w w') : OneT B w' v t := h.keep (Touch.of_below (S := fun _ => False) hb) (fun _ _ h => h)
theorem OneT.weak {B C : Nat} {w : World} {v : Value} {t : List Nat} (h : OneT B w v t) (hc : C ≤ B) : OneT C w v t := by
  obtain ⟨g, c, ta, tc, e, h1, h2, h3, h4, h5, h6, h7⟩ := h
  exact ⟨g, c, ta, tc, e, h1, h2, h3, h4, h5, Nat.le_trans hc h6, fun x hx => Nat.le_trans hc (h7 x hx)⟩
abbrev baC (pid : Int) (v : Value) : List Value := [.int .i64 0, .int .i64 0, .int .u64 pid, .int .i64 0, .int .i64 0, .bool (decide (0 < pid)), .bool false, .bool false, v]
def BaP (w : World) (pid : Int) (t : List Nat) (e : Ending) (w' : World) : Prop := ∃ v, e = .returned (.agg (baC pid v).toArray) ∧ OneT w.heap.size w' v t ∧ Below w.heap.size w w'
theorem res_ba {Y : World} {g : Nat} {l : List Value} {tmps : Array Value} (h : Y.heap[g]? = some (.cells l.toArray 34)) (hl : l.length = 9) (ht : tmps[4]?.getD undef = .pointer (some ⟨g, 0, none⟩)) :
    (results Try.f8 tmps).run Try.prog Y = .ok (.agg l.toArray) Y := by
  have hi : (Try.prog.info? 34).map (·.size) = some l.length := by rw [hl]; kernel_rfl
  have hr : Y.rangeAt g 0 l := fun j v hv => by rw [Nat.zero_add, cell_of h]; simpa using hv
  have hlv := run_loadVar_mid (P := Try.prog) Y g 0 34 l _ hr Try.underlying34 rfl hi
  simp [results, Try.results8, ht, asAddr, hlv]
/-- A text was laid into a list of none. -/
theorem one_grow {w5 : World} {v5 : Value} {ta : Option Addr} {tc n : Nat} (h : Wide w5 41 1 v5 (0 + 1) ([] ++ [.slice ta n tc])) : ∃ g c, v5 = .slice (some ⟨g, 0, none⟩) 1 c ∧ w5.cell? ⟨g, 0, none⟩ = some (.slice ta n tc) ∧ ∃ cs, w5.heap[g]? = some (.cells cs 41) := by
  obtain ⟨a, cap, e, _, _, _, hob, hc⟩ := h.parts
  obtain ⟨g, rfl, hg, hcell, _⟩ := hc (by omega)
  refine ⟨g, cap, e, ?_, h.heap (hob _ rfl)⟩
  have := hcell 0 (by omega)
  simpa using this
set_option maxRecDepth 100000 in
set_option maxHeartbeats 8000000 in
theorem batch_one {w : World} {lb : Nat} {r : Rx} {a : Option Addr} {k : Nat} {pid : Int} (h : w.heap[lb]? = some (.cells (rxA r a k) 29)) (hi : IAt w a r.l) (hl : r.l.length ≤ maxLen) (hf : RFit r) (hC : isR r = true) (ht : (encR r).length ≤ 4096) :
    Calls Try.prog 8 #[.int .u64 pid, .slice (some ⟨lb, 0, none⟩) 1 1] w fun e w' => BaP w pid (encR r) e w' := by
  have KD : Hid (∀ W, Below w.heap.size w W → Calls Try.prog 10 #[.agg (rxA r a k)] W fun e w' => EnR W 0 (encR r) e w') := hide (fun W hb => docencode_ok (hi.later hb) hl hf hC)
  have hlb := lt_of_heap h
  have HLB := hide hlb
  have HT := hide ht
  obtain ⟨ii, hio, hzo, hso, hbo⟩ := bs_info
  have HIO := hide hio
  have HZO := hide hzo
  have HSO := hide hso
  have HBO := hide hbo
  have b1 := (Below.refl w.heap.size w).alloc (Nat.le_refl _) (.cells #[.int .i64 0, .int .i64 0, .int .u64 0, .int .i64 0, .int .i64 0, .bool false, .bool false, .bool false, .slice none 0 0] 34)
  have b2 := b1.alloc b1.size (.cells #[.int .i64 0, .int .i64 0, .int .u64 pid, .int .i64 0, .int .i64 0, .bool (decide (0 < pid)), .bool false, .bool false, .slice none 0 0] 34)
  have HR := hide (heap_old (.cells #[.int .i64 0, .int .i64 0, .int .u64 pid, .int .i64 0, .int .i64 0, .bool (decide (0 < pid)), .bool false, .bool false, .slice none 0 0] 34) (heap_new w (.cells #[.int .i64 0, .int .i64 0, .int .u64 0, .int .i64 0, .int .i64 0, .bool false, .bool false, .bool false, .slice none 0 0] 34)))
  have hbb := heap_new (w.alloc (.cells #[.int .i64 0, .int .i64 0, .int .u64 0, .int .i64 0, .int .i64 0, .bool false, .bool false, .bool false, .slice none 0 0] 34)) (.cells #[.int .i64 0, .int .i64 0, .int .u64 pid, .int .i64 0, .int .i64 0, .bool (decide (0 < pid)), .bool false, .bool false, .slice none 0 0] 34)
  have hz : (w.alloc (.cells #[.int .i64 0, .int .i64 0, .int .u64 0, .int .i64 0, .int .i64 0, .bool false, .bool false, .bool false, .slice none 0 0] 34)).heap.size = w.heap.size + 1 := by simp
  rw [hz] at hbb
  have HBB := hide hbb
  have B2 := hide b2
  have H2 := hide (below_keep b2 h)
  generalize encR r = tx at *
  obtain ⟨kd, gr, gen, l, pt, off⟩ := r
  unfold rxA at *
  clear h hi hl hf hC ht hio hzo hso hbo b1 b2 hbb hz
  simp only at *
  go_enter Try.func8, Try.ntmps8
  go_upto_region 2 with fail
  generalize (w.alloc (.cells #[.int .i64 0, .int .i64 0, .int .u64 0, .int .i64 0, .int .i64 0, .bool false, .bool false, .bool false, .slice none 0 0] 34)).alloc (.cells #[.int .i64 0, .int .i64 0, .int .u64 pid, .int .i64 0, .int .i64 0, .bool (decide (0 < pid)), .bool false, .bool false, .slice none 0 0] 34) = W2 at *
  go_wp2_with fail
  go_loopw [16] (fun iv wr => (iv = .int .i64 0 ∧ wr = W2) ∨ (iv = .int .i64 1 ∧ ∃ v, Hid (wr.heap[w.heap.size + 1]? = some (.cells (baC pid v).toArray 34)) ∧ Hid (OneT (w.heap.size + 2) wr v tx) ∧ Hid (Below w.heap.size w wr) ∧ Hid (wr.heap[w.heap.size]? = some (.cells #[.int .i64 0, .int .i64 0, .int .u64 0, .int .i64 0, .int .i64 0, .bool false, .bool false, .bool false, .slice none 0 0] 34)))) (fun iv _ => 1 - (intOf iv).toNat)
  case atStart => exact .inl ⟨rfl, rfl⟩
  case round =>
    rcases hrel with ⟨rfl, rfl⟩ | ⟨rfl, v, hb, ho, hw, hr⟩
    · have y0 := cell_of (unhide H2) 0
      have y1 := cell_of (unhide H2) 1
      have y2 := cell_of (unhide H2) 2
      have y3 := cell_of (unhide H2) 3
      have y4 := cell_of (unhide H2) 4
      have y5 := cell_of (unhide H2) 5
      simp at y0 y1 y2 y3 y4 y5
      go_upto_region 5 with fail
      have b3 := (Below.refl wr.heap.size wr).alloc (Nat.le_refl _) (.cells #[.int .i64 kd, .int .i64 gr, .int .i64 gen, .slice a l.length k, .int .i64 pt, .int .i64 off] 29)
      have HX := hide (heap_new wr (.cells #[.int .i64 kd, .int .i64 gr, .int .i64 gen, .slice a l.length k, .int .i64 pt, .int .i64 off] 29))
      have HBB3 := hide (below_keep b3 (unhide HBB))
      have HR3 := hide (below_keep b3 (unhide HR))
      have B3 := hide ((unhide B2).trans (Below.mono b3 (unhide B2).size))
      have HSZ : Hid (w.heap.size + 1 < wr.heap.size) := hide (lt_of_heap (unhide HBB))
      clear y0 y1 y2 y3 y4 y5 b3 H2 HBB HR B2
      change Code.wp _ _ _ _ (wr.alloc (.cells #[.int .i64 kd, .int .i64 gr, .int .i64 gen, .slice a l.length k, .int .i64 pt, .int .i64 off] 29))
      generalize wr.alloc (.cells #[.int .i64 kd, .int .i64 gr, .int .i64 gen, .slice a l.length k, .int .i64 pt, .int .i64 off] 29) = W3 at *
      generalize wr.heap.size = xb at *
      have x0 := cell_of (unhide HX) 0
      have x1 := cell_of (unhide HX) 1
      have x2 := cell_of (unhide HX) 2
      have x3 := cell_of (unhide HX) 3
      have x4 := cell_of (unhide HX) 4
      have x5 := cell_of (unhide HX) 5
      simp at x0 x1 x2 x3 x4 x5
      have K3 := hide (unhide KD W3 (unhide B3))
      go_wp2_with fail
      refine (unhide K3).mono ?_
      rintro e W4 ⟨vo, rfl, q1, q2, q3⟩
      obtain ⟨ta, tc, rfl, la, hcp, _, hnn, hob, _⟩ := q1.parts
      have HLA := hide la
      have HNW : Hid (∀ x, ta = some x → W3.heap.size ≤ x.block) := hide (fun x hx => q2 _ (hob x hx))
      have HBB4 := hide (below_keep q3 (unhide HBB3))
      have HR4 := hide (below_keep q3 (unhide HR3))
      have B4 := hide ((unhide B3).trans (Below.mono q3 (unhide B3).size))
      have HCP := hide hcp
      have HNN := hide hnn
      have HSZ3 : Hid (w.heap.size + 1 < W3.heap.size) := hide (lt_of_heap (unhide HBB3))
      have HW4 : Hid (W3.heap.size ≤ W4.heap.size) := hide q3.size
      clear la q1 q2 q3 hcp hnn hob K3 HX HBB3 HR3 B3 x0 x1 x2 x3 x4 x5
      have y8 : W4.cell? ⟨w.heap.size + 1, 8, none⟩ = some (.slice none 0 0) := cell_of (unhide HBB4) 8
      go_wp2_with (at_builtin; refine wpList_wide _ rfl (.tmp 26) (.tmp 28) 32 rfl 41 ii _ 1 24 Try.underlying32 (unhide HIO) (unhide HZO) (unhide HSO) (unhide HBO) rfl (by decide) (.slice none 0 0) 0 [] rfl (Wide.nil _ _ _) W4.heap.size 0 1 [.slice ta tx.length tc] rfl rfl (fun j u hj => by rw [cell_of (heap_new _ _), Nat.zero_add, ← Array.getElem?_toList]; exact hj) (by intro u hu; simp only [List.mem_cons, List.not_mem_nil, or_false] at hu; rcases hu with rfl; rfl) (by unfold maxLen; omega) (by omega) ?_; intro v5 w5 o5 t5 m5; have O5 := hide o5; have b5 : Below W4.heap.size W4 w5 := below_touch ((Below.refl _ _).alloc (Nat.le_refl _) _) t5 (Nat.le_of_lt (lt_of_heap (heap_new _ _))) (fun k hk => by simp [Value.ownBlock] at hk); have HBB5 := below_keep b5 (unhide HBB4); have HR5 := hide (below_keep b5 (unhide HR4)); have B5 := hide b5; have y9 : w5.cell? ⟨w.heap.size + 1, 8, none⟩ = some (.slice none 0 0) := cell_of HBB5 8; have f9 : w5.frozen? ⟨w.heap.size + 1, 8, none⟩ = false := frozen_of HBB5 8; have HBB5 := hide HBB5; obtain ⟨g5, c5, rfl, hg5, ht5⟩ := one_grow o5; have G5 := hide hg5; have N5 : Hid (W4.heap.size ≤ g5) := hide ((m5 g5 rfl).elim (fun e => by simp [Value.ownBlock] at e) (fun e => Nat.le_trans (Nat.le_of_lt (lt_of_heap (heap_new _ _))) e)); have H5T := hide ht5; clear o5 t5 m5 b5 hg5 ht5 O5)
      have GO : Hid (∃ v, Hid ((w5.setCell ⟨w.heap.size + 1, 8, none⟩ (.slice (some ⟨g5, 0, none⟩) 1 c5)).heap[w.heap.size + 1]? = some (.cells (baC pid v).toArray 34)) ∧ Hid (OneT (w.heap.size + 2) (w5.setCell ⟨w.heap.size + 1, 8, none⟩ (.slice (some ⟨g5, 0, none⟩) 1 c5)) v tx) ∧ Hid (Below w.heap.size w (w5.setCell ⟨w.heap.size + 1, 8, none⟩ (.slice (some ⟨g5, 0, none⟩) 1 c5))) ∧ Hid ((w5.setCell ⟨w.heap.size + 1, 8, none⟩ (.slice (some ⟨g5, 0, none⟩) 1 c5)).heap[w.heap.size]? = some (.cells #[.int .i64 0, .int .i64 0, .int .u64 0, .int .i64 0, .int .i64 0, .bool false, .bool false, .bool false, .slice none 0 0] 34))) := by
        have ts := touch_set w5 (w.heap.size + 1) 8 (.slice (some ⟨g5, 0, none⟩) 1 c5)
        have hne : g5 ≠ w.heap.size + 1 := fun e => by
          obtain ⟨cs, h1⟩ := unhide H5T
          rw [e, unhide HBB5] at h1
          exact absurd (Obj.cells.inj (Option.some.inj h1)).2.1 (by decide)
        have hg := lt_of_cell (a := ⟨g5, 0, none⟩) (unhide G5)
        have z1 := unhide HSZ3
        have z2 := unhide HW4
        have z3 := (unhide B5).size
        refine hide ⟨_, hide (heap_set (unhide HBB5) 8 _), hide ⟨g5, c5, ta, tc, rfl, ?_, Nat.lt_of_lt_of_le hg ts.size, ?_, unhide HNN, unhide HCP, (by have := unhide N5; omega), fun x hx => by have := unhide HNW x hx; omega⟩, hide ?_, hide (ts.keep (unhide HR5) (by omega))⟩
        · rw [← unhide G5]
          exact World.cell?_of_block (ts.block g5 hg (fun e => hne e))
        · exact ((unhide HLA).later (unhide B5)).keep ts (fun _ x hx e => by have := unhide HNW x hx; omega)
        · exact below_touch ((unhide B4).trans (Below.mono (unhide B5) (by omega))) ts (by omega) (fun k hk => by omega)
      clear y8 y9 f9 HLA HNW HBB4 HR4 B4 HCP HNN HSZ3 HW4 HBB5 HR5 B5 G5 H5T N5 HIO HZO HSO HBO
      go_wp2
      go_roundw
      case rel => exact .inr ⟨by go_num, unhide GO⟩
      case measure => simp [intOf]
    · obtain ⟨g, c, ta, tc, rfl, hot⟩ := unhide ho
      have R5 : Hid (wr.rangeAt (w.heap.size + 1) 0 (baC pid (.slice (some ⟨g, 0, none⟩) 1 c))) := hide (fun j v hv => by rw [Nat.zero_add, cell_of (unhide hb)]; simpa using hv)
      have HI9 : Hid ((Try.prog.info? 34).map (·.size) = some (baC pid (.slice (some ⟨g, 0, none⟩) 1 c)).length) := hide (by kernel_rfl)
      have H19 : Hid ((baC pid (.slice (some ⟨g, 0, none⟩) 1 c)).toArray.all (·.oneCell') = true) := hide (by simp [Value.oneCell'])
      have HLL : Hid (lay #[.int .i64 0, .int .i64 0, .int .u64 0, .int .i64 0, .int .i64 0, .bool false, .bool false, .bool false, .slice none 0 0] 0 (baC pid (.slice (some ⟨g, 0, none⟩) 1 c)) = (baC pid (.slice (some ⟨g, 0, none⟩) 1 c)).toArray) := hide (lay_all rfl)
      have HO : Hid (OneT (w.heap.size + 2) wr (.slice (some ⟨g, 0, none⟩) 1 c) tx) := ho
      have HLEN : Hid ((baC pid (.slice (some ⟨g, 0, none⟩) 1 c)).length = 9) := hide rfl
      have HOT := hide hot
      obtain ⟨D, hD⟩ : ∃ D, D = baC pid (.slice (some ⟨g, 0, none⟩) 1 c) := ⟨_, rfl⟩
      have HD := hide hD
      rw [← hD] at R5 HI9 H19 HLL HLEN
      clear hD hot
      go_wp2_with (first | (with_reducible (show wpList _ _ _ (Oper.mk _ (Op.load 34 _) _ _ _ _ :: _) _ _); refine wpList_load_mid rfl 34 _ rfl (w.heap.size + 1) 0 rfl D _ (unhide R5) Try.underlying34 rfl (unhide HI9) ?_) | (with_reducible (show wpList _ _ _ (Oper.mk _ (Op.store 34 _ _) _ _ _ _ :: _) _ _); refine store_part 34 34 rfl _ _ rfl w.heap.size 0 D rfl rfl D (unhide hr) (by rw [unhide HLEN]; decide) (unhide HI9) (unhide H19) (unhide HLL) ?_; rintro w9 q1 q2; have Q1 := hide q1; have Q2 := hide q2; clear q1 q2))
      refine bodyPost_ret (res_ba (unhide Q1) (unhide HLEN) rfl) rfl ?_
      have hsz : w.heap.size + 1 < wr.heap.size := lt_of_heap (unhide hb)
      refine ⟨_, by rw [unhide HD], ?_, below_touch (unhide hw) (unhide Q2) (by omega) (fun k hk => by omega)⟩
      exact ((unhide HO).keep (unhide Q2) (fun k hk e => by omega)).weak (by omega)
end Go.Proofs.Ytfbnkeflgddcmaa
