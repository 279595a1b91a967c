/-
  penstockref07's Copy: a batch with values of its own. penstockref03's Same and penstockref07's Same at any two. Conditions: the values and each of them are as great as memory can be.
-/
import Derived.Test.YtfccddcoindnlaaCk7
import Derived.Test.YtfccddcoindnlaaSet9
import Derived.Test.YtfccddcoindnlaaRf2
namespace Go.Proofs.Ytfccddcoindnlaa
open Go.RowKit
set_option linter.unusedVariables false

theorem take_succ_l {ls : List (List Nat)} {k : Nat} (h : k < ls.length) : ls.take (k + 1) = ls.take k ++ [ls.getD k []] := by
  rw [List.take_add_one]
  simp [List.getD, h]
theorem getD_mem_l {ls : List (List Nat)} {k : Nat} (h : k < ls.length) : ls.getD k [] ∈ ls := by simp [List.getD, h]
/-- What the loop has. -/
def Copied (w wr : World) (v : Value) (ls : List (List Nat)) : Prop := Paid w wr v ls ∧ New w v ∧ Below w.heap.size w wr
def CoPost (w : World) (b : Bt) (e : Ending) (w' : World) : Prop := ∃ a cap, e = .returned (bv b a cap) ∧ Copied w w' (.slice a b.vs.length cap) b.vs
theorem fresh_nil {w w3 : World} {v : Value} {p : List Nat} (r3 : Row w3 v p) (t3 : Touch (fun k => (Value.slice none 0 0).ownBlock = some k) w w3) (m3 : Moved w (.slice none 0 0) v) : Fresh w w3 v p :=
  ⟨r3, (New.nil w).moved m3 (Nat.le_refl _), below_touch (Below.refl _ _) t3 (Nat.le_refl _) (fun k hk => by simp [Value.ownBlock] at hk)⟩

set_option maxRecDepth 100000 in
set_option maxHeartbeats 4000000 in
theorem copy7_any (b : Bt) (a : Option Addr) (cap : Nat) (w : World) (hp : RAt w a b.vs) (hl : b.vs.length * 24 ≤ 140737488355328) (h4 : ∀ p ∈ b.vs, p.length ≤ 140737488355328) :
    Calls Try.prog 11 #[bv b a cap] w fun e w' => CoPost w b e w' := by
  have HP := hide hp
  have H4 := hide h4
  clear hp h4
  obtain ⟨base, epoch, pid, pep, seq, txn, ctl, com, ls⟩ := b
  simp only at HP H4 hl
  have BW : Hid (Below w.heap.size w ((w.alloc (.cells #[.int .i64 base, .int .i64 epoch, .int .u64 (pid : Int), .int .i64 pep, .int .i64 seq, .bool txn, .bool ctl, .bool com, .slice a ls.length cap] 25)).alloc (.cells #[.int .i64 0, .int .i64 0, .int .u64 0, .int .i64 0, .int .i64 0, .bool false, .bool false, .bool false, .slice none 0 0] 25))) := ((Below.refl _ _).alloc (Nat.le_refl _) _).alloc (by simp) _
  have BX : Hid (Box ((w.alloc (.cells #[.int .i64 base, .int .i64 epoch, .int .u64 (pid : Int), .int .i64 pep, .int .i64 seq, .bool txn, .bool ctl, .bool com, .slice a ls.length cap] 25)).alloc (.cells #[.int .i64 0, .int .i64 0, .int .u64 0, .int .i64 0, .int .i64 0, .bool false, .bool false, .bool false, .slice none 0 0] 25)) w.heap.size ⟨base, epoch, pid, pep, seq, txn, ctl, com, ls⟩ a cap) := heap_old _ (Box.new w ⟨base, epoch, pid, pep, seq, txn, ctl, com, ls⟩ a cap)
  have BZ : Hid (Box ((w.alloc (.cells #[.int .i64 base, .int .i64 epoch, .int .u64 (pid : Int), .int .i64 pep, .int .i64 seq, .bool txn, .bool ctl, .bool com, .slice a ls.length cap] 25)).alloc (.cells #[.int .i64 0, .int .i64 0, .int .u64 0, .int .i64 0, .int .i64 0, .bool false, .bool false, .bool false, .slice none 0 0] 25)) (w.heap.size + 1) zeroB none 0) := by
    have := Box.new (w.alloc (.cells #[.int .i64 base, .int .i64 epoch, .int .u64 (pid : Int), .int .i64 pep, .int .i64 seq, .bool txn, .bool ctl, .bool com, .slice a ls.length cap] 25)) zeroB none 0
    simp only [World.size_alloc] at this
    exact this
  go_enter Try.func11, Try.ntmps11
  go_wp2_with fail
  generalize hW : (w.alloc (.cells #[.int .i64 base, .int .i64 epoch, .int .u64 (pid : Int), .int .i64 pep, .int .i64 seq, .bool txn, .bool ctl, .bool com, .slice a ls.length cap] 25)).alloc (.cells #[.int .i64 0, .int .i64 0, .int .u64 0, .int .i64 0, .int .i64 0, .bool false, .bool false, .bool false, .slice none 0 0] 25) = W at *
  have hWs : W.heap.size = w.heap.size + 2 := by rw [← hW]; simp
  have HWS := hide hWs
  clear hW hWs
  go_loopw [3, 4] (fun pv pl wr => ∃ (v1 : Value) (k : Nat), v1 = pv ∧ k ≤ ls.length ∧ pl = .int .i64 k ∧ Copied W wr v1 (ls.take k)) (fun _ pl _ => ls.length - (intOf pl).toNat)
  case atStart => exact ⟨_, 0, rfl, Nat.zero_le _, rfl, ⟨[], Spine.nil _ _⟩, New.nil _, Below.refl _ _⟩
  case round =>
    obtain ⟨v1, k, rfl, hk, rfl, ⟨vs, hsp⟩, hnw, hbl⟩ := hrel
    have HSP := hide hsp
    have HNW := hide hnw
    have HBL := hide hbl
    obtain ⟨a1, m1, c1, rfl⟩ := hsp.shape
    clear hsp hnw hbl
    obtain ⟨k0, k1, k2, k3, k4, k5, k6, k7, k8⟩ := ((unhide BX).later (unhide HBL)).cells
    simp only at k0 k1 k2 k3 k4 k5 k6 k7 k8
    by_cases hkc : k < ls.length
    · have hkc' : (k : Int) < (ls.length : Int) := by omega
      obtain ⟨b, off, x, c, rfl, _, hcell, lx, hnx⟩ := (((unhide HP).later (unhide BW)).later (unhide HBL)).cell hkc
      have hp4 : (ls.getD k []).length ≤ 140737488355328 := unhide H4 _ (getD_mem_l hkc)
      have ET := hide (take_succ_l hkc)
      have hvl : (vs.length + 1) * 24 ≤ 140737488355328 := by have := (unhide HSP).len; rw [List.length_take] at this; omega
      have LX := hide lx
      clear lx k0 k1 k2 k3 k4 k5 k6 k7
      generalize ls.getD k [] = p at *
      go_wp2_with (at_builtin; refine wpList_row _ rfl (.tmp 13) (.tmp 18) rfl _ [] rfl (Row.nil _) x c p rfl (unhide LX) hnx (by simp; omega) ?_)
      intro v3 w3 r3 t3 m3
      have F3 := fresh_nil r3 t3 m3
      have FR3 := hide F3
      obtain ⟨a3, n3, c3, rfl⟩ := r3.shape
      have SP3 : Hid (Spine (Mine4 W w3) w3 (.slice a1 m1 c1) vs (ls.take k)) := ((unhide HSP).later F3.2.2).imp (fun u l h => ⟨h.1.later F3.2.2, h.2⟩)
      have O4 : Hid (Own (w3.alloc (.cells #[.slice a3 n3 c3] 26)) 26 (.slice a1 m1 c1) vs) := (unhide SP3).own.later ((Below.refl _ _).alloc (Nat.le_refl _) _)
      have hu : (w3.alloc (.cells #[.slice a3 n3 c3] 26)).cell? ⟨w3.heap.size, 0, none⟩ = some (.slice a3 n3 c3) := cell_of (heap_new _ _) 0
      have HU := hide hu
      clear hu F3 r3 t3 m3 k8 hcell
      go_wp2_with (at_builtin; refine wpList_elem _ rfl (.tmp 20) (.tmp 22) rfl (.slice a1 m1 c1) vs rfl (unhide O4) w3.heap.size (.slice a3 n3 c3) rfl (unhide HU) rfl hvl ?_)
      intro v5 w5 o5 t5 m5
      have hA : Touch (fun _ => False) w3 (w3.alloc (.cells #[.slice a3 n3 c3] 26)) := (Touch.refl _ _).alloc _
      have hrA : ∀ (x : Value) (l : List Nat), Row w3 x l → Row w5 x l := fun x l hx => (hx.keep hA (fun _ _ h => h)).keep t5 (fun k hk e => Spine.apart (unhide O4) (hx.keep hA (fun _ _ h => h)) k hk e)
      have hsz : W.heap.size ≤ wr.heap.size := (unhide HBL).size
      have hsz3 : wr.heap.size ≤ w3.heap.size := (unhide FR3).2.2.size
      have NX : Hid (Copied W w5 v5 (ls.take k ++ [p])) := by
        refine ⟨⟨_, ((unhide SP3).imp (F := Mine4 W w5) (fun u l h => ⟨hrA u l h.1, h.2⟩)).push o5 ⟨hrA _ _ (unhide FR3).1, (unhide FR3).2.1.mono hsz⟩⟩, (unhide HNW).moved m5 (by simp; omega), ?_⟩
        exact below_touch (below_touch ((unhide HBL).trans ((unhide FR3).2.2.mono hsz)) hA (by omega) (fun _ h => h.elim)) t5 (by simp; omega) (fun j hj => unhide HNW j hj)
      rw [← unhide ET] at NX
      obtain ⟨a5, n5, c5, rfl⟩ : ∃ a n c, v5 = Value.slice a n c := by obtain ⟨a, cap, e, _⟩ := o5.parts; exact ⟨a, _, cap, e⟩
      clear o5 t5 m5 hA hrA O4 HU SP3 FR3 HNW HBL HSP LX
      go_wp2
      go_roundw
      case rel => exact ⟨_, k + 1, rfl, by omega, by go_num, unhide NX⟩
      case measure => simp [intOf]; omega
    · have hkc' : ¬ (k : Int) < (ls.length : Int) := by omega
      obtain rfl : k = ls.length := by omega
      rw [List.take_length] at HSP
      obtain ⟨a1', c1', e1, _, _, _, _, _⟩ := Paid.parts ⟨vs, unhide HSP⟩
      cases e1
      have bx := (unhide BX).later (unhide HBL)
      have bz := (unhide BZ).later (unhide HBL)
      have z1 : ∀ i, wr.frozen? ⟨w.heap.size, i, none⟩ = false := frozen_of bx
      have z2 : ∀ i, wr.frozen? ⟨w.heap.size + 1, i, none⟩ = false := frozen_of bz
      have bz1 : (wr.setCell ⟨w.heap.size, 8, none⟩ (.slice a1 ls.length c1)).heap[w.heap.size + 1]? = some _ := (touch_set wr w.heap.size 8 (.slice a1 ls.length c1)).keep bz (by omega)
      have bz2 : Box (wr.setCell ⟨w.heap.size, 8, none⟩ (.slice a1 ls.length c1)) (w.heap.size + 1) zeroB none 0 := bz1
      obtain ⟨y0, y1, y2, y3, y4, y5, y6, y7, y8⟩ := bz2.cells
      simp only [zeroB] at y0 y1 y2 y3 y4 y5 y6 y7 y8
      have T9 := hide (set9 bz1 rfl (.int .i64 base) (.int .i64 epoch) (.int .u64 (pid : Int)) (.int .i64 pep) (.int .i64 seq) (.bool txn) (.bool ctl) (.bool com) (.slice a1 ls.length c1))
      have T8 := hide (touch_set wr w.heap.size 8 (.slice a1 ls.length c1))
      clear bx bz bz1 bz2
      go_wp2
      clear y0 y1 y2 y3 y4 y5 y6 y7 y8 z1 z2 k0 k1 k2 k3 k4 k5 k6 k7 k8
      generalize ((((((((((wr.setCell ⟨w.heap.size, 8, none⟩ (.slice a1 ls.length c1)).setCell ⟨w.heap.size + 1, 0, none⟩ (.int .i64 base)).setCell ⟨w.heap.size + 1, 1, none⟩ (.int .i64 epoch)).setCell ⟨w.heap.size + 1, 2, none⟩ (.int .u64 (pid : Int))).setCell ⟨w.heap.size + 1, 3, none⟩ (.int .i64 pep)).setCell ⟨w.heap.size + 1, 4, none⟩ (.int .i64 seq)).setCell ⟨w.heap.size + 1, 5, none⟩ (.bool txn)).setCell ⟨w.heap.size + 1, 6, none⟩ (.bool ctl)).setCell ⟨w.heap.size + 1, 7, none⟩ (.bool com)).setCell ⟨w.heap.size + 1, 8, none⟩ (.slice a1 ls.length c1)) = U at *
      have bu : Box U (w.heap.size + 1) ⟨base, epoch, pid, pep, seq, txn, ctl, com, ls⟩ a1 c1 := (unhide T9).1
      obtain ⟨y0, y1, y2, y3, y4, y5, y6, y7, y8⟩ := bu.cells
      simp only at y0 y1 y2 y3 y4 y5 y6 y7 y8
      refine bodyPost_ret (by simp [results, Try.results11, go_sem, y0, y1, y2, y3, y4, y5, y6, y7, y8]; try rfl) rfl ?_
      refine ⟨a1, c1, rfl, ?_⟩
      have hs := unhide HWS
      have tt : Touch (fun k => k = w.heap.size ∨ k = w.heap.size + 1) wr U := ((unhide T8).mono (fun k hk => .inl hk)).trans ((unhide T9).2.mono (fun k hk => .inr hk))
      have hno : ∀ u : Value, New W u → ∀ k, u.ownBlock = some k → ¬ (k = w.heap.size ∨ k = w.heap.size + 1) := fun u hu k hk e => by have := hu k hk; omega
      refine ⟨⟨vs, ((unhide HSP).keep tt (hno _ (unhide HNW))).imp (fun u l h => ⟨h.1.keep tt (hno u h.2), h.2.mono (by omega)⟩)⟩, (unhide HNW).mono (by omega), ?_⟩
      exact below_touch ((unhide BW).trans ((unhide HBL).mono (unhide BW).size)) tt (by have := (unhide HBL).size; omega) (fun k hk => by omega)
end Go.Proofs.Ytfccddcoindnlaa
