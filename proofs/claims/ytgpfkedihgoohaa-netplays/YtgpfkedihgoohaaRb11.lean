/-
  The document's net: At, out, cut. Conditions: the net is one; numbers within 64 bits.
-/
import Derived.Test.YtgpfkedihgoohaaRa11
namespace Go.Proofs.Ytgpfkedihgoohaa
open Go.RowKit
set_option linter.unusedVariables false

def atE (i : Int) (n : Nat) : Int := if n = 0 then -1 else (rnd i n : Int)
theorem rnd_in {i : Int} {n : Nat} (h0 : 0 ≤ i) (h1 : i < n) : (rnd i n : Int) = i := by
  rw [rnd_int i (by omega)]
  exact Int.emod_eq_of_lt h0 h1
set_option maxRecDepth 100000 in
theorem rat_some {w : World} {rb n cap : Nat} {a : Option Addr} (h : w.cell? ⟨rb, 0, none⟩ = some (.slice a n cap)) (hn : 0 < n) (hm : n ≤ maxLen) (i : Int) (hi : InR i) : Calls Try.prog 33 #[.pointer (some ⟨rb, 0, none⟩), .int .i64 i] w fun e w' => e = .returned (.int .i64 (rnd i n : Int)) ∧ w' = w := by
  unfold maxLen at hm
  have hn0 : ¬ (n : Int) = 0 := by omega
  have hrl := rnd_lt i hn
  have hT := tmod_in i hn
  have hwT : IntKind.i64.wrap (Int.tmod i (n : Int)) = Int.tmod i (n : Int) := by
    simp [IntKind.wrap, IntKind.bits, IntKind.signed]
    omega
  go_enter Try.func33, Try.ntmps33
  go_wp2_with fail
  go_loopw [1] (fun pl wr => wr = w ∧ (pl = .int .i64 i ∨ pl = .int .i64 (rnd i n : Int))) (fun pl _ => if 0 ≤ intOf pl ∧ intOf pl < (n : Int) then 0 else 1)
  case atStart => exact ⟨rfl, .inl rfl⟩
  case round =>
    obtain ⟨rfl, hpl⟩ := hrel
    rcases hpl with rfl | rfl
    · by_cases hin : 0 ≤ i ∧ i < (n : Int)
      · obtain ⟨i0, i1⟩ := hin
        have hri := rnd_in i0 i1
        have g1 : ¬ i < 0 := by omega
        have g2 : ¬ (n : Int) ≤ i := by omega
        have F : Hid (Ending.returned (.int .i64 i) = .returned (.int .i64 (rnd i n : Int))) := by show _ = _; rw [hri]
        clear hri hT hwT hrl
        go_wp2
        go_returns
        exact ⟨unhide F, rfl⟩
      · have hg : (decide (i < 0) || decide ((n : Int) ≤ i)) = true := by
          rw [← Bool.decide_or]; exact decide_eq_true (by omega)
        have MS : Hid (∀ x : Int, x = (rnd i n : Int) → (if 0 ≤ intOf (Value.int .i64 x) ∧ intOf (Value.int .i64 x) < (n : Int) then 0 else 1) < (if 0 ≤ intOf (Value.int .i64 i) ∧ intOf (Value.int .i64 i) < (n : Int) then 0 else 1)) := fun x hx => by
          have e1 : intOf (Value.int .i64 x) = x := rfl
          have e2 : intOf (Value.int .i64 i) = i := rfl
          rw [e1, e2, if_pos (by omega), if_neg hin]
          omega
        by_cases g : i < 0
        · by_cases h0 : Int.tmod i (n : Int) < 0
          · have hE := tmod_neg hn h0
            have hw2 : IntKind.i64.wrap (Int.tmod i (n : Int) + (n : Int)) = Int.tmod i (n : Int) + (n : Int) := by
              simp [IntKind.wrap, IntKind.bits, IntKind.signed]
              omega
            have HE := hide hE
            clear hE hT hin hrl
            go_wp2
            go_roundw
            case rel => exact ⟨by first | rfl | trivial, .inr (by rw [unhide HE])⟩
            case measure => exact unhide MS _ (unhide HE)
          · have hE := tmod_low hn h0
            have HE := hide hE
            clear hE hT hin hrl
            go_wp2
            go_roundw
            case rel => exact ⟨by first | rfl | trivial, .inr (by rw [unhide HE])⟩
            case measure => exact unhide MS _ (unhide HE)
        · have g0 : 0 ≤ i := by omega
          have g2 : (n : Int) ≤ i := by omega
          have hE := (rnd_int i hn).symm
          have h0 : ¬ i % (n : Int) < 0 := by omega
          have HE := hide hE
          clear hE hT hin hrl
          go_wp2
          go_roundw
          case rel => exact ⟨by first | rfl | trivial, .inr (by rw [unhide HE])⟩
          case measure => exact unhide MS _ (unhide HE)
    · have g1 : ¬ (rnd i n : Int) < 0 := by omega
      have g2 : ¬ (n : Int) ≤ (rnd i n : Int) := by omega
      clear hT hwT
      go_wp2
      go_returns
      exact ⟨rfl, rfl⟩
theorem rat_none {w : World} {rb cap : Nat} {a : Option Addr} (h : w.cell? ⟨rb, 0, none⟩ = some (.slice a 0 cap)) (i : Int) : Calls Try.prog 33 #[.pointer (some ⟨rb, 0, none⟩), .int .i64 i] w fun e w' => e = .returned (.int .i64 (-1)) ∧ w' = w := by
  go_enter Try.func33, Try.ntmps33
  go_wp2
  go_returns
  exact ⟨rfl, rfl⟩
theorem rat_any {w : World} {rb : Nat} {R : Nat → Prop} {qs : List Pa} {D : Cts} (h : RS w rb R qs D) (i : Int) (hi : InR i) : Calls Try.prog 33 #[.pointer (some ⟨rb, 0, none⟩), .int .i64 i] w fun e w' => e = .returned (.int .i64 (atE i qs.length)) ∧ w' = w := by
  obtain ⟨v, cm, ps, h1, rfl, h3⟩ := h.ex
  obtain ⟨a, cap, _, hc, hl, hm⟩ := h1.cell
  rw [List.length_map]
  unfold atE
  by_cases h0 : ps.length = 0
  · rw [if_pos h0]
    rw [h0] at hc
    exact rat_none hc i
  · rw [if_neg h0]
    exact rat_some hc (by omega) (by omega) i hi

/-- What out leaves. -/
def OutPost (w : World) (rb : Nat) (cv : Value) (ps : List Pk) (k : Nat) (hk : k < ps.length) (e : Ending) (w' : World) : Prop :=
  e = .returned (pkV ps[k]) ∧ ∃ v', w'.heap[rb]? = some (.cells #[v', cv] 29) ∧ Wide w' 33 3 v' (ps.eraseIdx k).length ((ps.eraseIdx k).flatMap pkC) ∧ Touch (· = rb) w w' ∧ New w v'
set_option maxRecDepth 100000 in
set_option maxHeartbeats 2000000 in
theorem rout_any {w : World} {rb : Nat} {v cv : Value} {ps : List Pk} {D : Cts} (h : RefAt w rb v cv ps D) (hlen : ps.length ≤ 256) {k : Nat} (hk : k < ps.length) :
    Calls Try.prog 34 #[.pointer (some ⟨rb, 0, none⟩), .int .i64 (k : Int)] w fun e w' => OutPost w rb cv ps k hk e w' := by
  have hrb := lt_of_heap h.box
  have hbox := h.box
  have hone := flat_one ps
  obtain ⟨g, cap, rfl, hg, hcap, hmax, y0, y1, y2⟩ := h.list.at_ hk
  have hrow := h.list.row
  obtain ⟨a', cap', e', _, _, _, _, hpa⟩ := hrow.parts
  cases e'
  obtain ⟨g', e', _, hcell, _⟩ := hpa (by omega)
  cases e'
  have hgn : g ≠ rb := fun e => h.apart.2.1 (by rw [← e]; rfl)
  unfold maxLen at hmax
  have hkl : (k : Int) < (ps.length : Int) := by omega
  have hz : (0 : Int) ≤ (k : Int) := by omega
  have hw1 : IntKind.i64.wrap ((k : Int) + 1) = (k : Int) + 1 := wrap_low (by omega) (by omega)
  have hkc : (k : Int) ≤ (cap : Int) := by omega
  have hk1n : (k : Int) + 1 ≤ (ps.length : Int) := by omega
  have hk01 : (0 : Int) ≤ (k : Int) + 1 := by omega
  have hxl : (ps.flatMap pkC).length = ps.length * 3 := flat_len pkC pkC_len ps
  obtain ⟨ad, had, hsrc⟩ : ∃ ad : Addr, (if cap = k + 1 then some (⟨g, 0, none⟩ : Addr) else some ⟨g, (k + 1) * 3, none⟩) = some ad ∧ Hid (∀ X, Below w.heap.size w X → ∀ t u, ((ps.flatMap pkC).drop ((k + 1) * 3))[t]? = some u → X.cell? (ad.add t) = some u) := by
    by_cases hc : cap = k + 1
    · refine ⟨⟨g, 0, none⟩, by simp [hc], fun X hX t u hu => ?_⟩
      have : (ps.flatMap pkC).drop ((k + 1) * 3) = [] := List.drop_eq_nil_iff.2 (by rw [hxl]; omega)
      rw [this] at hu; simp at hu
    · refine ⟨⟨g, (k + 1) * 3, none⟩, by simp [hc], fun X hX t u hu => ?_⟩
      rw [addr_add]
      rw [List.getElem?_drop] at hu
      have hl := (List.getElem?_eq_some_iff.1 hu).1
      rw [hxl] at hl
      exact (hX.cell (p := ⟨g, (k + 1) * 3 + t, none⟩) hg).trans ((hcell _ hl).trans hu)
  have hsrc1 : Hid (∀ X, Below w.heap.size w X → ∀ t u, ((ps.flatMap pkC).take (k * 3))[t]? = some u → X.cell? ((⟨g, 0, none⟩ : Addr).add t) = some u) := fun X hX t u hu => by
    rw [addr_add, Nat.zero_add]
    have hl := (List.getElem?_eq_some_iff.1 hu).1
    rw [List.length_take] at hl
    rw [List.getElem?_take, if_pos (by omega)] at hu
    exact (hX.cell (p := ⟨g, t, none⟩) hg).trans ((hcell t (by omega)).trans hu)
  have s1 : Hid (((ps.flatMap pkC).take (k * 3)).length = k * 3) := by show _ = _; rw [List.length_take, hxl]; omega
  have s2 : Hid (((ps.flatMap pkC).drop ((k + 1) * 3)).length = (ps.length - (k + 1)) * 3) := by show _ = _; rw [List.length_drop, hxl]; omega
  have o1 : Hid (∀ u ∈ (ps.flatMap pkC).take (k * 3), u.oneCell' = true) := fun u hu => hone u (List.mem_of_mem_take hu)
  have o2 : Hid (∀ u ∈ (ps.flatMap pkC).drop ((k + 1) * 3), u.oneCell' = true) := fun u hu => hone u (List.mem_of_mem_drop hu)
  have FE := hide (flat_erase ps k hk)
  have hle : Hid ((ps.eraseIdx k).length = k + (ps.length - (k + 1))) := by show _ = _; rw [List.length_eraseIdx, if_pos hk]; omega
  obtain ⟨p, hp⟩ : ∃ p, ps[k] = p := ⟨_, rfl⟩
  rw [hp] at y0 y1 y2
  have HP := hide hp
  clear hp
  obtain ⟨fr, to, a, c, l⟩ := p
  simp only [pkS] at y0 y1 y2
  have hA : Below w.heap.size w (w.alloc (.cells #[.int .i64 0, .int .i64 0, .slice none 0 0] 33)) := (Below.refl _ _).alloc (Nat.le_refl _) _
  have hB : Below w.heap.size w ((w.alloc (.cells #[.int .i64 0, .int .i64 0, .slice none 0 0] 33)).alloc (.cells #[.int .i64 fr, .int .i64 to, .slice a l.length c] 33)) := hA.alloc (by simp) _
  have c0 : w.cell? ⟨rb, 0, none⟩ = some (.slice (some ⟨g, 0, none⟩) ps.length cap) := by rw [cell_of h.box]; rfl
  have k0 := (hA.cell (p := ⟨rb, 0, none⟩) hrb).trans c0
  have j0 := (hB.cell (p := ⟨rb, 0, none⟩) hrb).trans c0
  have z0 := (hA.cell (p := ⟨g, k * 3, none⟩) hg).trans y0
  have z1 := (hA.cell (p := ⟨g, k * 3 + 1, none⟩) hg).trans y1
  have z2 := (hA.cell (p := ⟨g, k * 3 + 2, none⟩) hg).trans y2
  have G0 : Hid (((w.alloc (.cells #[.int .i64 0, .int .i64 0, .slice none 0 0] 33)).alloc (.cells #[.int .i64 fr, .int .i64 to, .slice a l.length c] 33)).heap[w.heap.size]? = some (.cells #[.int .i64 0, .int .i64 0, .slice none 0 0] 33)) := heap_old _ (heap_new _ _)
  have G1 : Hid (((w.alloc (.cells #[.int .i64 0, .int .i64 0, .slice none 0 0] 33)).alloc (.cells #[.int .i64 fr, .int .i64 to, .slice a l.length c] 33)).heap[w.heap.size + 1]? = some (.cells #[.int .i64 fr, .int .i64 to, .slice a l.length c] 33)) := by
    have := heap_new (w.alloc (.cells #[.int .i64 0, .int .i64 0, .slice none 0 0] 33)) (.cells #[.int .i64 fr, .int .i64 to, .slice a l.length c] 33)
    rw [World.size_alloc] at this
    exact this
  have HB := hide hB
  have HBX := hide hbox
  have hsz : ((w.alloc (.cells #[.int .i64 0, .int .i64 0, .slice none 0 0] 33)).alloc (.cells #[.int .i64 fr, .int .i64 to, .slice a l.length c] 33)).heap.size = w.heap.size + 2 := by simp
  have HSZ := hide hsz
  have FX1 : Hid (∀ v1 w1, Wide w1 33 3 v1 (0 + k) ([] ++ (ps.flatMap pkC).take (k * 3)) → Touch (fun j => (Value.slice none 0 0).ownBlock = some j) ((w.alloc (.cells #[.int .i64 0, .int .i64 0, .slice none 0 0] 33)).alloc (.cells #[.int .i64 fr, .int .i64 to, .slice a l.length c] 33)) w1 → Moved ((w.alloc (.cells #[.int .i64 0, .int .i64 0, .slice none 0 0] 33)).alloc (.cells #[.int .i64 fr, .int .i64 to, .slice a l.length c] 33)) (.slice none 0 0) v1 →
      w1.cell? ⟨rb, 0, none⟩ = some (.slice (some ⟨g, 0, none⟩) ps.length cap) ∧ Hid (Below w.heap.size w w1) ∧ Hid (New ((w.alloc (.cells #[.int .i64 0, .int .i64 0, .slice none 0 0] 33)).alloc (.cells #[.int .i64 fr, .int .i64 to, .slice a l.length c] 33)) v1) ∧ Hid (Below ((w.alloc (.cells #[.int .i64 0, .int .i64 0, .slice none 0 0] 33)).alloc (.cells #[.int .i64 fr, .int .i64 to, .slice a l.length c] 33)).heap.size ((w.alloc (.cells #[.int .i64 0, .int .i64 0, .slice none 0 0] 33)).alloc (.cells #[.int .i64 fr, .int .i64 to, .slice a l.length c] 33)) w1)) := fun v1 w1 r1 t1 m1 => by
    have b1 : Below ((w.alloc (.cells #[.int .i64 0, .int .i64 0, .slice none 0 0] 33)).alloc (.cells #[.int .i64 fr, .int .i64 to, .slice a l.length c] 33)).heap.size ((w.alloc (.cells #[.int .i64 0, .int .i64 0, .slice none 0 0] 33)).alloc (.cells #[.int .i64 fr, .int .i64 to, .slice a l.length c] 33)) w1 := ⟨t1.os, t1.tape, t1.output, t1.size, fun j hj => t1.block j hj (fun e => by simp [Value.ownBlock] at e)⟩
    have b2 : Below w.heap.size w w1 := hB.trans (b1.mono hB.size)
    exact ⟨(b2.cell (p := ⟨rb, 0, none⟩) hrb).trans c0, b2, fun j hj => (m1 j hj).elim (fun e => by simp [Value.ownBlock] at e) id, b1⟩
  have FX2 : Hid (∀ v1 w1 v2 w2, Below w.heap.size w w1 → New ((w.alloc (.cells #[.int .i64 0, .int .i64 0, .slice none 0 0] 33)).alloc (.cells #[.int .i64 fr, .int .i64 to, .slice a l.length c] 33)) v1 → Below ((w.alloc (.cells #[.int .i64 0, .int .i64 0, .slice none 0 0] 33)).alloc (.cells #[.int .i64 fr, .int .i64 to, .slice a l.length c] 33)).heap.size ((w.alloc (.cells #[.int .i64 0, .int .i64 0, .slice none 0 0] 33)).alloc (.cells #[.int .i64 fr, .int .i64 to, .slice a l.length c] 33)) w1 → Wide w2 33 3 v2 (0 + k + (ps.length - (k + 1))) ([] ++ (ps.flatMap pkC).take (k * 3) ++ (ps.flatMap pkC).drop ((k + 1) * 3)) → Touch (fun j => v1.ownBlock = some j) w1 w2 → Moved w1 v1 v2 →
      (w2.cell? ⟨rb, 0, none⟩ = some (.slice (some ⟨g, 0, none⟩) ps.length cap) ∧ w2.frozen? ⟨rb, 0, none⟩ = false) ∧ (w2.cell? ⟨w.heap.size + 1, 0, none⟩ = some (.int .i64 fr) ∧ w2.cell? ⟨w.heap.size + 1, 1, none⟩ = some (.int .i64 to) ∧ w2.cell? ⟨w.heap.size + 1, 2, none⟩ = some (.slice a l.length c)) ∧
      (w2.cell? ⟨w.heap.size, 0, none⟩ = some (.int .i64 0) ∧ w2.cell? ⟨w.heap.size, 1, none⟩ = some (.int .i64 0) ∧ w2.cell? ⟨w.heap.size, 2, none⟩ = some (.slice none 0 0)) ∧ (w2.frozen? ⟨w.heap.size, 0, none⟩ = false ∧ w2.frozen? ⟨w.heap.size, 1, none⟩ = false ∧ w2.frozen? ⟨w.heap.size, 2, none⟩ = false) ∧
      Hid (((((w2.setCell ⟨rb, 0, none⟩ v2).setCell ⟨w.heap.size, 0, none⟩ (.int .i64 fr)).setCell ⟨w.heap.size, 1, none⟩ (.int .i64 to)).setCell ⟨w.heap.size, 2, none⟩ (.slice a l.length c)).heap[w.heap.size]? = some (.cells #[.int .i64 fr, .int .i64 to, .slice a l.length c] 33) ∧ OutPost w rb cv ps k hk (.returned (.agg #[.int .i64 fr, .int .i64 to, .slice a l.length c])) ((((w2.setCell ⟨rb, 0, none⟩ v2).setCell ⟨w.heap.size, 0, none⟩ (.int .i64 fr)).setCell ⟨w.heap.size, 1, none⟩ (.int .i64 to)).setCell ⟨w.heap.size, 2, none⟩ (.slice a l.length c)))) := fun v1 w1 v2 w2 b1 n1 bW r2 t2 m2 => by
    have hlo : ∀ j, v1.ownBlock = some j → w.heap.size + 2 ≤ j := fun j hj => by have := n1 j hj; rw [unhide HSZ] at this; exact this
    have gb := t2.keep (below_keep b1 (unhide HBX)) (fun e => by have := hlo _ e; omega)
    have g0 := t2.keep (below_keep bW (unhide G0)) (fun e => by have := hlo _ e; omega)
    have g1 := t2.keep (below_keep bW (unhide G1)) (fun e => by have := hlo _ e; omega)
    have hs1 : w.heap.size + 2 ≤ w1.heap.size := by have := bW.size; rw [unhide HSZ] at this; exact this
    have hlo2 : ∀ j, v2.ownBlock = some j → w.heap.size + 2 ≤ j := fun j hj => (m2 j hj).elim (hlo j) (fun e => by omega)
    refine ⟨⟨by rw [cell_of gb]; rfl, frozen_of gb 0⟩, ⟨by rw [cell_of g1]; rfl, by rw [cell_of g1]; rfl, by rw [cell_of g1]; rfl⟩, ⟨by rw [cell_of g0]; rfl, by rw [cell_of g0]; rfl, by rw [cell_of g0]; rfl⟩, ⟨frozen_of g0 0, frozen_of g0 1, frozen_of g0 2⟩, ?_⟩
    have ts := touch_set w2 rb 0 v2
    have T3 : Touch (fun j => j = w.heap.size) (w2.setCell ⟨rb, 0, none⟩ v2) ((((w2.setCell ⟨rb, 0, none⟩ v2).setCell ⟨w.heap.size, 0, none⟩ (.int .i64 fr)).setCell ⟨w.heap.size, 1, none⟩ (.int .i64 to)).setCell ⟨w.heap.size, 2, none⟩ (.slice a l.length c)) := (((Touch.refl (fun j => j = w.heap.size) _).setCell (p := ⟨w.heap.size, 0, none⟩) rfl _).setCell (p := ⟨w.heap.size, 1, none⟩) rfl _).setCell (p := ⟨w.heap.size, 2, none⟩) rfl _
    refine ⟨set3 (ts.keep g0 (show ¬ w.heap.size = rb by omega)) _ _ _, ?_, v2, ?_, ?_, ?_, fun j hj => by have := hlo2 j hj; omega⟩
    · rw [unhide HP]
    · have := heap_set gb 0 v2
      refine T3.keep ?_ (show ¬ rb = w.heap.size by omega)
      simpa using this
    · rw [unhide hle, ← unhide FE]
      rw [Nat.zero_add, List.nil_append] at r2
      exact (r2.keep ts (fun j hj e => by have := hlo2 j hj; omega)).keep T3 (fun j hj e => by have := hlo2 j hj; omega)
    · refine ⟨T3.os.trans (ts.os.trans (t2.os.trans b1.os)), T3.tape.trans (ts.tape.trans (t2.tape.trans b1.tape)), T3.output.trans (ts.output.trans (t2.output.trans b1.output)), Nat.le_trans (Nat.le_trans (Nat.le_trans b1.size t2.size) ts.size) T3.size, fun j hj hs => ?_⟩
      have h1 : j < w1.heap.size := Nat.lt_of_lt_of_le hj b1.size
      have h2 : j < w2.heap.size := Nat.lt_of_lt_of_le h1 t2.size
      rw [T3.block j (Nat.lt_of_lt_of_le h2 ts.size) (show ¬ j = w.heap.size by omega), ts.block j h2 hs, t2.block j h1 (fun e => by have := hlo j e; omega), b1.block j hj]
  clear hA hB h hbox y0 y1 y2 c0 hrow hcell hpa hone hxl hsz
  clear G0 G1 FE hle HP HBX HSZ
  go_enter Try.func34, Try.ntmps34
  go_wp2_with (first
    | (at_builtin; refine wpList_pks _ rfl (.tmp 22) (.tmp 29) rfl v1 (0 + k) _ rfl r1 ad (ps.length - (k + 1)) (cap - (k + 1)) ((ps.flatMap pkC).drop ((k + 1) * 3)) rfl (unhide s2) (unhide hsrc _ (unhide b1)) (unhide o2) (by omega) ?_; intro v2 w2 r2 t2 m2; obtain ⟨⟨x0, x1⟩, ⟨p0, p1, p2⟩, ⟨q0, q1, q2⟩, ⟨f0, f1, f2⟩, FF⟩ := unhide FX2 v1 w1 v2 w2 (unhide b1) (unhide n1) (unhide bW) r2 t2 m2; obtain ⟨a2, n2, c2, rfl⟩ : ∃ a2 n2 c2, v2 = .slice a2 n2 c2 := (by obtain ⟨a2, c2, e2⟩ := r2.shape; exact ⟨a2, _, c2, e2⟩); have ne1 : ¬ w.heap.size = rb := (by omega); have ne2 : ¬ rb = w.heap.size := (by omega); have ne3 : ¬ w.heap.size + 1 = rb := (by omega); have ne4 : ¬ rb = w.heap.size + 1 := (by omega); clear r1 r2 t2 m2 b1 n1 bW)
    | (at_builtin; refine wpList_pks _ rfl (.tmp 14) (.tmp 20) rfl (.slice none 0 0) 0 [] rfl (Wide.nil _ _ _) ⟨g, 0, none⟩ k cap ((ps.flatMap pkC).take (k * 3)) rfl (unhide s1) (unhide hsrc1 _ (unhide HB)) (unhide o1) (by omega) ?_; intro v1 w1 r1 t1 m1; obtain ⟨cr, b1, n1, bW⟩ := unhide FX1 v1 w1 r1 t1 m1; clear t1 m1))
  obtain ⟨vg, vf⟩ := unhide FF
  generalize (((w2.setCell ⟨rb, 0, none⟩ (.slice a2 n2 c2)).setCell ⟨w.heap.size, 0, none⟩ (.int .i64 fr)).setCell ⟨w.heap.size, 1, none⟩ (.int .i64 to)).setCell ⟨w.heap.size, 2, none⟩ (.slice a l.length c) = V at *
  have v0 := cell_of vg 0
  have v1' := cell_of vg 1
  have v2' := cell_of vg 2
  simp only [List.getElem?_toArray, List.getElem?_cons_zero, List.getElem?_cons_succ] at v0 v1' v2'
  refine bodyPost_ret (by simp [results, Try.results34, go_sem, v0, v1', v2']; try rfl) rfl ?_
  exact vf

theorem any_take_succ {α : Type} (f : α → Bool) (l : List α) {k : Nat} (hk : k < l.length) : (l.take (k + 1)).any f = ((l.take k).any f || f l[k]) := by
  have e : l.take (k + 1) = l.take k ++ [l[k]] := by rw [List.take_add_one, List.getElem?_eq_getElem hk]; rfl
  rw [e, List.any_append]; simp
theorem isC_take_succ (D : Cts) (a b : Int) {k : Nat} (hk : k < D.length) : isC (D.take (k + 1)) a b = (isC (D.take k) a b || (decide (D[k].1 = a ∧ D[k].2 = b) || decide (D[k].1 = b ∧ D[k].2 = a))) := by
  unfold isC
  rw [any_take_succ _ _ hk]
  congr 1
  generalize D[k] = x
  obtain ⟨x, y⟩ := x
  simp only [Prod.mk.injEq]
theorem isC_of_take (D : Cts) (a b : Int) {k : Nat} (h : isC (D.take k) a b = true) : isC D a b = true := by
  unfold isC at *
  rw [List.any_eq_true] at *
  obtain ⟨x, hx, hf⟩ := h
  exact ⟨x, List.mem_of_mem_take hx, hf⟩
set_option maxRecDepth 100000 in
set_option maxHeartbeats 2000000 in
theorem rcut_any {w : World} {rb : Nat} {v cv : Value} {ps : List Pk} {D : Cts} (h : RefAt w rb v cv ps D) {a b : Int} (ha : InR a) (hb : InR b) (hl : D.length ≤ 9000000000000000) :
    Calls Try.prog 35 #[.pointer (some ⟨rb, 0, none⟩), .int .i64 a, .int .i64 b] w fun e w' => e = .returned (.bool (isC D a b)) ∧ w' = w := by
  obtain ⟨ac, cc, hcv, hcap, hmax, _, _, hpa⟩ := h.cuts.parts
  have c1 : w.cell? ⟨rb, 1, none⟩ = some (.slice ac D.length cc) := by rw [cell_of h.box, ← hcv]; rfl
  have HC : Hid (∀ k (hk : k < D.length), ∃ g, ac = some ⟨g, 0, none⟩ ∧ w.cell? ⟨g, k * 2, none⟩ = some (.int .i64 D[k].1) ∧ w.cell? ⟨g, k * 2 + 1, none⟩ = some (.int .i64 D[k].2)) := fun k hk => by
    obtain ⟨g, e1, e2, e3, _⟩ := hpa (by omega)
    refine ⟨g, e1, ?_, ?_⟩
    · rw [e3 (k * 2) (by omega)]
      have := flat_at prC (fun _ => rfl) D k 0 hk (by omega : (0 : Nat) < 2)
      rw [Nat.add_zero] at this
      rw [this]; rfl
    · rw [e3 (k * 2 + 1) (by omega), flat_at prC (fun _ => rfl) D k 1 hk (by omega : (1 : Nat) < 2)]; rfl
  have HI := hide h.cin
  clear h hpa hcv
  go_enter Try.func35, Try.ntmps35
  go_wp2_with fail
  go_loopw [7] (fun pl wr => ∃ k : Nat, k ≤ D.length ∧ pl = .int .i64 (k : Int) ∧ wr = w ∧ isC (D.take k) a b = false) (fun pl _ => D.length - (intOf pl).toNat)
  case atStart => exact ⟨0, Nat.zero_le _, rfl, rfl, rfl⟩
  case round =>
    obtain ⟨k, hk, rfl, rfl, hno⟩ := hrel
    by_cases hkl : k < D.length
    · have hkl' : (k : Int) < (D.length : Int) := by omega
      have hz : (0 : Int) ≤ (k : Int) := by omega
      have hw1 : IntKind.i64.wrap ((k : Int) + 1) = (k : Int) + 1 := wrap_low (by omega) (by omega)
      obtain ⟨g, rfl, y0, y1⟩ := unhide HC k hkl
      obtain ⟨hx, hy⟩ := unhide HI _ (List.getElem_mem hkl)
      have NS := hide (isC_take_succ D a b hkl)
      rw [hno, Bool.false_or] at NS
      clear hno HC HI
      generalize D[k] = x at *
      obtain ⟨xa, xb⟩ := x
      dsimp only at *
      have E1 := fun w => eql_pair hx hy ha hb w
      have E2 := fun w => eql_pair hx hy hb ha w
      clear hx hy
      by_cases e1 : xa = a ∧ xb = b
      · have YES : Hid (isC D a b = true) := isC_of_take D a b (by rw [unhide NS]; simp [e1])
        have e1d : decide (xa = a ∧ xb = b) = true := decide_eq_true e1
        simp only [e1d] at E1
        clear e1 e1d NS
        go_wp2
        go_returns
        exact ⟨by rw [unhide YES]; rfl, rfl⟩
      · have e1d : decide (xa = a ∧ xb = b) = false := decide_eq_false e1
        simp only [e1d] at E1
        by_cases e2 : xa = b ∧ xb = a
        · have YES : Hid (isC D a b = true) := isC_of_take D a b (by rw [unhide NS]; simp [e2])
          have e2d : decide (xa = b ∧ xb = a) = true := decide_eq_true e2
          simp only [e2d] at E2
          clear e1 e1d NS e2 e2d
          go_wp2
          go_returns
          exact ⟨by rw [unhide YES]; rfl, rfl⟩
        · have e2d : decide (xa = b ∧ xb = a) = false := decide_eq_false e2
          simp only [e2d] at E2
          have NO : Hid (isC (D.take (k + 1)) a b = false) := by show _ = _; rw [unhide NS, e1d, e2d]; rfl
          clear e1 e1d NS e2 e2d
          go_wp2
          go_roundw
          case rel => exact ⟨k + 1, by omega, by go_num, by first | rfl | trivial, unhide NO⟩
          case measure => simp [intOf]; omega
    · obtain rfl : k = D.length := by omega
      have hkl' : ¬ (D.length : Int) < (D.length : Int) := by omega
      rw [List.take_length] at hno
      have NO := hide hno
      clear hno HC HI
      go_wp2
      go_returns
      exact ⟨by rw [unhide NO]; rfl, rfl⟩
end Go.Proofs.Ytgpfkedihgoohaa
