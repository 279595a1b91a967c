/-
  What group's records reads of a batch of one text. Conditions: the text is a record's.
-/
import Derived.Test.YtfbnkeflgddcmaaGw1
namespace Go.Proofs.Ytfbnkeflgddcmaa
open Go.RowKit
set_option linter.unusedVariables false

theorem gr_info : ∃ i, Try.prog.info? 29 = some i ∧ i.zero = some (.agg #[.int .i64 0, .int .i64 0, .int .i64 0, .slice none 0 0, .int .i64 0, .int .i64 0]) ∧ i.size = 6 ∧ i.bytes = 64 := by
  have h : (Try.prog.info? 29).map (fun i => (i.zero, i.size, i.bytes)) = some (some (.agg #[.int .i64 0, .int .i64 0, .int .i64 0, .slice none 0 0, .int .i64 0, .int .i64 0]), 6, 64) := by kernel_rfl
  exact info_parts h
/-- A row of one record. -/
def OneR (B : Nat) (w : World) (v : Value) (r : Rx) : Prop := ∃ (g c : Nat) (a : Option Addr) (k : Nat), v = .slice (some ⟨g, 0, none⟩) 1 c ∧ Wide w 29 6 v 1 (rxA r a k).toList ∧ IAt w a r.l ∧ B ≤ g
theorem oner_grow {w W3 w5 : World} {a2 : Option Addr} {k2 : Nat} {kd gr gen pt off : Int} {l : List Int} {v5 : Value} {cs : Array Value} (hb : Below w.heap.size w W3) (hi : IAt W3 a2 l) (o5 : Wide w5 29 6 v5 (0 + 1) ([] ++ [.int .i64 kd, .int .i64 gr, .int .i64 gen, .slice a2 l.length k2, .int .i64 pt, .int .i64 off])) (t5 : Touch (fun k => (Value.slice none 0 0).ownBlock = some k) (W3.alloc (.cells cs 29)) w5) (m5 : Moved (W3.alloc (.cells cs 29)) (.slice none 0 0) v5) :
    Hid (OneR w.heap.size w5 v5 ⟨kd, gr, gen, l, pt, off⟩) ∧ Hid (Below w.heap.size w w5) := by
  have b5 : Below W3.heap.size W3 w5 := below_touch ((Below.refl _ _).alloc (Nat.le_refl _) _) t5 (Nat.le_of_lt (lt_of_heap (heap_new _ _))) (fun k hk => by simp [Value.ownBlock] at hk)
  obtain ⟨a, cap, e, _, _, _, hob, hc⟩ := o5.parts
  obtain ⟨g, rfl, hg, _, _⟩ := hc (by omega)
  have hn := (m5 g (hob _ rfl)).elim (fun e => by simp [Value.ownBlock] at e) (fun e => Nat.le_trans (Nat.le_of_lt (lt_of_heap (heap_new W3 (.cells cs 29)))) e)
  refine ⟨hide ⟨g, cap, a2, k2, e, ?_, hi.later b5, Nat.le_trans hb.size hn⟩, hide (hb.trans (Below.mono b5 hb.size))⟩
  rw [e] at o5
  rw [e]
  simpa using o5
def RcP (w : World) (r : Rx) (e : Ending) (w' : World) : Prop := ∃ v, e = .returned v ∧ OneR w.heap.size w' v r ∧ Below w.heap.size w w'
set_option maxRecDepth 100000 in
set_option maxHeartbeats 8000000 in
theorem records_one {w : World} {B : Nat} {r : Rx} {v c0 c1 c2 c3 c4 c5 c6 c7 : Value} (h : OneT B w v (encR r)) (hf : RFit r) (hC : isR r = true) (ht : (encR r).length ≤ 4096) :
    Calls Try.prog 17 #[.agg #[c0, c1, c2, c3, c4, c5, c6, c7, v]] w fun e w' => RcP w r e w' := by
  have KD : Hid (∀ W a k, LAt W a (encR r) → (a = none → k = 0) → (encR r).length ≤ k → Calls Try.prog 28 #[.slice a (encR r).length k] W fun e w' => DeR W r.kd r.gr r.gen r.l r.pt r.off 0 e w') := hide (fun W a k h1 h2 h3 => dec_enc hf hC h1 h2 h3 (by omega))
  obtain ⟨ii, hio, hzo, hso, hbo⟩ := gr_info
  have HIO := hide hio
  have HZO := hide hzo
  have HSO := hide hso
  have HBO := hide hbo
  have b1 := (Below.refl w.heap.size w).alloc (Nat.le_refl _) (.cells #[c0, c1, c2, c3, c4, c5, c6, c7, v] 34)
  have HB := hide (heap_new w (.cells #[c0, c1, c2, c3, c4, c5, c6, c7, v] 34))
  have B1 := hide b1
  obtain ⟨g, cv, ta, tc, rfl, hg, hlt, la, hn, hcp, _, _⟩ := h.later b1
  have LA := hide la
  have HG := hide hg
  have HN := hide hn
  have HCP := hide hcp
  generalize encR r = tx at *
  obtain ⟨kd, gr, gen, l, pt, off⟩ := r
  clear h hf hC ht hio hzo hso hbo b1 la hg hn hcp hlt
  simp only at *
  go_enter Try.func17, Try.ntmps17
  go_upto_region 2 with fail
  generalize w.alloc (.cells #[c0, c1, c2, c3, c4, c5, c6, c7, .slice (some ⟨g, 0, none⟩) 1 cv] 34) = W1 at *
  have y8 : W1.cell? ⟨w.heap.size, 8, none⟩ = some (.slice (some ⟨g, 0, none⟩) 1 cv) := cell_of (unhide HB) 8
  go_wp2_with fail
  clear y8 HB
  go_loopw [3, 11] (fun sv iv wr => (iv = .int .i64 0 ∧ wr = W1 ∧ ∃ v : Value, v = sv ∧ v = .slice none 0 0) ∨ (iv = .int .i64 1 ∧ ∃ v : Value, v = sv ∧ Hid (OneR w.heap.size wr v ⟨kd, gr, gen, l, pt, off⟩) ∧ Hid (Below w.heap.size w wr))) (fun _ iv _ => 1 - (intOf iv).toNat)
  case atStart => exact .inl ⟨rfl, rfl, _, rfl, rfl⟩
  case round =>
    rcases hrel with ⟨rfl, rfl, v, rfl, hv⟩ | ⟨rfl, v, rfl, ho, hb⟩
    · subst hv
      have z0 := unhide HG
      go_wp2_with fail
      refine (unhide KD wr ta tc (unhide LA) (unhide HN) (unhide HCP)).mono ?_
      rintro e w2 ⟨a2, k2, rfl, i2, b2⟩
      have I2 := hide i2
      have BB2 := hide ((unhide B1).trans (Below.mono b2 (unhide B1).size))
      clear z0 KD LA HG HN HCP i2 b2 B1
      go_upto_region 6 with fail
      have HX := hide (heap_new w2 (.cells #[.int .i64 kd, .int .i64 gr, .int .i64 gen, .slice a2 l.length k2, .int .i64 pt, .int .i64 off] 29))
      have I3 := hide ((unhide I2).later ((Below.refl _ _).alloc (Nat.le_refl _) (.cells #[.int .i64 kd, .int .i64 gr, .int .i64 gen, .slice a2 l.length k2, .int .i64 pt, .int .i64 off] 29)))
      have B3 := hide ((unhide BB2).alloc (unhide BB2).size (.cells #[.int .i64 kd, .int .i64 gr, .int .i64 gen, .slice a2 l.length k2, .int .i64 pt, .int .i64 off] 29))
      clear I2 BB2
      change Code.wp _ _ _ _ (w2.alloc (.cells #[.int .i64 kd, .int .i64 gr, .int .i64 gen, .slice a2 l.length k2, .int .i64 pt, .int .i64 off] 29))
      generalize w2.alloc (.cells #[.int .i64 kd, .int .i64 gr, .int .i64 gen, .slice a2 l.length k2, .int .i64 pt, .int .i64 off] 29) = W3 at *
      generalize w2.heap.size = xb at *
      have x0 := cell_of (unhide HX) 0
      have x1 := cell_of (unhide HX) 1
      have x2 := cell_of (unhide HX) 2
      have x3 := cell_of (unhide HX) 3
      have x4 := cell_of (unhide HX) 4
      have x5 := cell_of (unhide HX) 5
      simp at x0 x1 x2 x3 x4 x5
      go_wp2_with (at_builtin; refine wpList_wide _ rfl (.tmp 22) (.tmp 24) 40 rfl 29 ii _ 6 64 Try.underlying40 (unhide HIO) (unhide HZO) (unhide HSO) (unhide HBO) rfl (by decide) (.slice none 0 0) 0 [] rfl (Wide.nil _ _ _) W3.heap.size 0 1 [.int .i64 kd, .int .i64 gr, .int .i64 gen, .slice a2 l.length k2, .int .i64 pt, .int .i64 off] rfl rfl (fun j u hj => by rw [cell_of (heap_new _ _), Nat.zero_add, ← Array.getElem?_toList]; exact hj) (by intro u hu; simp only [List.mem_cons, List.not_mem_nil, or_false] at hu; rcases hu with rfl | rfl | rfl | rfl | rfl | rfl <;> rfl) (by unfold maxLen; omega) (by omega) ?_; intro v5 w5 o5 t5 m5; have GO : Hid (Hid (OneR w.heap.size w5 v5 ⟨kd, gr, gen, l, pt, off⟩) ∧ Hid (Below w.heap.size w w5)) := hide (oner_grow (unhide B3) (unhide I3) o5 t5 m5); clear o5 t5 m5)
      clear x0 x1 x2 x3 x4 x5 HX I3 B3
      go_roundw
      case rel => exact .inr ⟨by go_num, v5, rfl, (unhide GO).1, (unhide GO).2⟩
      case measure => simp [intOf]
    · have FF : Hid (RcP w ⟨kd, gr, gen, l, pt, off⟩ (.returned v) wr) := hide ⟨v, rfl, unhide ho, unhide hb⟩
      clear ho hb
      go_wp2
      go_returns
      exact unhide FF
end Go.Proofs.Ytfbnkeflgddcmaa
