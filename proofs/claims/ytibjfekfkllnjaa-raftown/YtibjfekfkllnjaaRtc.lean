/-
  raft's tell. Conditions: the list is one, of at most 2^42 - 128 entries; the numbers told stay within 64 bits.
-/
import Derived.Test.YtibjfekfkllnjaaRtb
namespace Go.Proofs.Ytibjfekfkllnjaa
open Go.RowKit Go.Maps
set_option linter.unusedVariables false

/-- The blocks of a list that is handed in. -/
def EAB (a : Option Addr) (ps : List En) (b : Nat) : Prop := (0 < ps.length ∧ ∃ x, a = some x ∧ x.block = b) ∨ ∃ p ∈ ps, 0 < p.l.length ∧ ∃ x, p.a = some x ∧ x.block = b
theorem EArr.keep {w w' : World} {a : Option Addr} {ps : List En} {S : Nat → Prop} (h : EArr w a ps) (t : Touch S w w') (hs : ∀ b, EAB a ps b → ¬ S b) : EArr w' a ps := by
  refine ⟨fun i hi => ?_, fun p hp => (h.each p hp).keep t (fun h0 x hx => hs _ (.inr ⟨p, hp, h0, x, hx, rfl⟩))⟩
  obtain ⟨b, off, h1, h2, h3, h4⟩ := h.cell i hi
  have hb : ¬ S b := hs b (.inl ⟨by omega, _, h1, rfl⟩)
  exact ⟨b, off, h1, Nat.lt_of_lt_of_le h2 t.size, (World.cell?_of_block (a := ⟨b, off + i * 2, none⟩) (t.block b h2 hb)).trans h3, (World.cell?_of_block (a := ⟨b, off + i * 2 + 1, none⟩) (t.block b h2 hb)).trans h4⟩
theorem EArr.nil (w : World) (a : Option Addr) : EArr w a [] := ⟨fun i hi => by simp at hi, fun p hp => by cases hp⟩
/-- What is told of entries, behind a number. -/
def cmE (to : Int) (l : List En) : List (Int × List Nat) := l.zipIdx.map (fun x => (to + 1 + (x.2 : Int), x.1.l))
theorem cmE_snoc (to : Int) (l : List En) (p : En) : cmE to (l ++ [p]) = cmE to l ++ [(to + 1 + (l.length : Int), p.l)] := by
  unfold cmE
  rw [List.zipIdx_append, List.map_append]
  simp
theorem cmE_len (to : Int) (l : List En) : (cmE to l).length = l.length := by unfold cmE; simp
theorem set_same {cs : Array Value} {i : Nat} {u : Value} (h : cs[i]? = some u) : cs.setIfInBounds i u = cs := by
  apply Array.ext_getElem?
  intro j
  by_cases hj : i = j
  · subst hj
    rw [Array.getElem?_setIfInBounds_self]
    split
    · exact h.symm
    · rename_i hn; rw [Array.getElem?_eq_none (by omega)]
  · rw [Array.getElem?_setIfInBounds_ne hj]
theorem set_get {cs : Array Value} {i : Nat} {u v : Value} (h : cs[i]? = some u) : (cs.setIfInBounds i v)[i]? = some v := by
  have hi : i < cs.size := by
    by_cases hc : i < cs.size
    · exact hc
    · rw [Array.getElem?_eq_none (by omega)] at h; cases h
  rw [Array.getElem?_setIfInBounds_self, if_pos hi]
theorem set_set {cs : Array Value} {i : Nat} {u v : Value} : (cs.setIfInBounds i u).setIfInBounds i v = cs.setIfInBounds i v := by simp
def TlPost (w : World) (rb : Nat) (cs : Array Value) (to : Int) (qs : List En) (e : Ending) (w' : World) : Prop := ∃ v' ks, e = .returned v' ∧ EL 48 w' v' ks ∧ ks.map En.abs = cmE to qs ∧ (∀ j, ELB v' ks j → w.heap.size ≤ j) ∧ w'.heap[rb]? = some (.cells (cs.setIfInBounds 24 (.int .i64 (to + (qs.length : Int)))) 77) ∧ Touch (· = rb) w w'
/-- What is known within tell. -/
structure TlS (w wr : World) (rb : Nat) (cs : Array Value) (to : Int) (qs : List En) (k : Nat) (v : Value) (ks : List En) : Prop where
  list : EL 48 wr v ks
  abs : ks.map En.abs = cmE to (qs.take k)
  new : ∀ j, ELB v ks j → w.heap.size ≤ j
  box : wr.heap[rb]? = some (.cells (cs.setIfInBounds 24 (.int .i64 (to + (k : Int)))) 77)
  touch : Touch (· = rb) w wr
set_option maxRecDepth 100000 in
set_option maxHeartbeats 2000000 in
theorem tell_of {w : World} {rb : Nat} {cs : Array Value} {a : Option Addr} {cap : Nat} {to co : Int} {qs : List En} (h : w.heap[rb]? = some (.cells cs 77)) (h23 : cs[23]? = some (.int .i64 co)) (h24 : cs[24]? = some (.int .i64 to)) (hw : IntKind.i64.wrap (co - to) = (qs.length : Int)) (h0 : 0 ≤ to) (h1 : to + (qs.length : Int) ≤ 9223372036854775807) (hA : EArr w a qs) (hB : ∀ b, EAB a qs b → b ≠ rb) (hn : qs.length ≤ 4398046510976)
    (BK : ∀ n, Calls Try.prog 44 #[.pointer (some ⟨rb, 0, none⟩), .int .i64 to, .int .i64 (qs.length : Int)] (w.drewN n) fun e w' => e = .returned (.slice a qs.length cap) ∧ ∃ m, w' = (w.drewN n).drewN m) :
    Calls Try.prog 33 #[.pointer (some ⟨rb, 0, none⟩)] w fun e w' => TlPost w rb cs to qs e w' := by
  have hrb := lt_of_heap h
  have z23 : w.cell? ⟨rb, 23, none⟩ = some (.int .i64 co) := by rw [cell_of h]; exact h23
  have z24 : w.cell? ⟨rb, 24, none⟩ = some (.int .i64 to) := by rw [cell_of h]; exact h24
  have S0 : Hid (∀ n, TlS w (w.drewN n) rb cs to qs 0 (.slice none 0 0) []) := fun n => ⟨EL.nil _ _, by simp [cmE], fun j hj => (ELB_nil hj).elim, by rw [Int.natCast_zero, Int.add_zero, set_same h24]; exact h, (Touch.refl _ w).drewN n⟩
  have BH := hide BK
  have HA := hide hA
  have HB := hide hB
  have H0 := hide h0
  have H1 := hide h1
  have H24 := hide h24
  clear BK h hA hB h0 h1 h23 h24
  go_enter Try.func33, Try.ntmps33
  go_wp2_with fail
  go_quiet (first | (go_at_call 44; exact Calls.quiet_of (unhide BH _)))
  have S1 := hide (unhide S0 nq)
  clear S0 BH z23 z24 hw
  generalize w.drewN nq = wn at *
  go_wp2_with fail
  go_loopw [3, 22] (fun s3 s22 wr => ∃ k ks, k ≤ qs.length ∧ s22 = .int .i64 (k : Int) ∧ TlS w wr rb cs to qs k s3 ks) (fun _ pl _ => qs.length - (intOf pl).toNat)
  case atStart => exact ⟨0, [], Nat.zero_le _, rfl, unhide S1⟩
  case round =>
    obtain ⟨k, ks, hk, rfl, st⟩ := hrel
    clear S1
    have hkl2 : ks.length = k := by
      have := congrArg List.length st.abs
      simpa [cmE_len, Nat.min_eq_left hk] using this
    by_cases hkl : k < qs.length
    · have hkl' : (k : Int) < (qs.length : Int) := by omega
      have hz : (0 : Int) ≤ (k : Int) := by omega
      have er := (unhide HA).keep st.touch (fun b hb e => unhide HB b hb e)
      obtain ⟨b, off, rfl, hbl, y0, y1⟩ := er.cell k hkl
      have PI := hide (er.each _ (List.getElem_mem hkl))
      have PB : Hid (∀ x, 0 < (qs[k]).l.length → (qs[k]).a = some x → x.block ≠ rb) := fun x hx hx2 => unhide HB _ (.inr ⟨_, List.getElem_mem hkl, hx, x, hx2, rfl⟩)
      have TK : Hid (cmE to (qs.take (k + 1)) = cmE to (qs.take k) ++ [(to + 1 + (k : Int), qs[k].l)]) := by
        show _ = _
        rw [List.take_succ_eq_append_getElem hkl, cmE_snoc, List.length_take, Nat.min_eq_left hk]
      generalize qs[k] = p at *
      obtain ⟨t, pa, pc, l⟩ := p
      simp only [enS] at y0 y1
      have hrr := lt_of_heap st.box
      have x24 : wr.cell? ⟨rb, 24, none⟩ = some (.int .i64 (to + (k : Int))) := by rw [cell_of st.box]; exact set_get (unhide H24)
      have f24 : wr.frozen? ⟨rb, 24, none⟩ = false := frozen_of st.box 24
      have hw1 : IntKind.i64.wrap (to + (k : Int) + 1) = to + (k : Int) + 1 := by have := unhide H0; have := unhide H1; exact wrap_low (by omega) (by omega)
      have h2 : (wr.setCell ⟨rb, 24, none⟩ (.int .i64 (to + (k : Int) + 1))).heap[rb]? = some (.cells (cs.setIfInBounds 24 (.int .i64 (to + (k : Int) + 1))) 77) := by
        have := heap_set st.box 24 (.int .i64 (to + (k : Int) + 1))
        rw [set_set] at this
        exact this
      have t2 := touch_set wr rb 24 (.int .i64 (to + (k : Int) + 1))
      have s2 : (wr.setCell ⟨rb, 24, none⟩ (.int .i64 (to + (k : Int) + 1))).heap.size = wr.heap.size := by simp [World.setCell]
      have l2 := st.list.keep t2 (fun j hj e => st.list.not st.box (by decide) (by decide) j hj e)
      have pi2 := (unhide PI).keep t2 (fun h0 x hx e => unhide PB x h0 hx e)
      have tt := st.touch.trans t2
      have ST := hide st
      clear st er PI PB t2
      have hAA : Below (wr.setCell ⟨rb, 24, none⟩ (.int .i64 (to + (k : Int) + 1))).heap.size (wr.setCell ⟨rb, 24, none⟩ (.int .i64 (to + (k : Int) + 1))) ((wr.setCell ⟨rb, 24, none⟩ (.int .i64 (to + (k : Int) + 1))).alloc (.cells #[.int .i64 t, .slice pa l.length pc] 64)) := (Below.refl _ _).alloc (Nat.le_refl _) _
      have G : ((wr.setCell ⟨rb, 24, none⟩ (.int .i64 (to + (k : Int) + 1))).alloc (.cells #[.int .i64 t, .slice pa l.length pc] 64)).heap[wr.heap.size]? = some (.cells #[.int .i64 t, .slice pa l.length pc] 64) := by
        have := heap_new (wr.setCell ⟨rb, 24, none⟩ (.int .i64 (to + (k : Int) + 1))) (.cells #[.int .i64 t, .slice pa l.length pc] 64)
        rw [s2] at this
        exact this
      have k1 : ((wr.setCell ⟨rb, 24, none⟩ (.int .i64 (to + (k : Int) + 1))).alloc (.cells #[.int .i64 t, .slice pa l.length pc] 64)).cell? ⟨wr.heap.size, 1, none⟩ = some (.slice pa l.length pc) := cell_of G 1
      have k24 : ((wr.setCell ⟨rb, 24, none⟩ (.int .i64 (to + (k : Int) + 1))).alloc (.cells #[.int .i64 t, .slice pa l.length pc] 64)).cell? ⟨rb, 24, none⟩ = some (.int .i64 (to + (k : Int) + 1)) := by
        rw [cell_of (below_keep hAA h2)]; exact set_get (unhide H24)
      have HS := hide (show ((wr.setCell ⟨rb, 24, none⟩ (.int .i64 (to + (k : Int) + 1))).alloc (.cells #[.int .i64 t, .slice pa l.length pc] 64)).heap.size = wr.heap.size + 1 by simp [s2])
      have H2 := hide (below_keep hAA h2)
      have L2 := hide (l2.later hAA)
      have P2 := hide (pi2.later hAA)
      have T2 : Hid (Touch (· = rb) w ((wr.setCell ⟨rb, 24, none⟩ (.int .i64 (to + (k : Int) + 1))).alloc (.cells #[.int .i64 t, .slice pa l.length pc] 64))) := tt.trans (Touch.of_below hAA)
      obtain ⟨qa, qc, rfl⟩ := (unhide ST).list.row.shape
      have NW := hide (unhide ST).new
      have AB := hide (unhide ST).abs
      clear hAA h2 l2 pi2 tt G s2 ST
      have CL : Hid (∀ X, Below ((wr.setCell ⟨rb, 24, none⟩ (.int .i64 (to + (k : Int) + 1))).alloc (.cells #[.int .i64 t, .slice pa l.length pc] 64)).heap.size ((wr.setCell ⟨rb, 24, none⟩ (.int .i64 (to + (k : Int) + 1))).alloc (.cells #[.int .i64 t, .slice pa l.length pc] 64)) X → Calls Try.prog 32 #[.slice pa l.length pc] X fun e w' => ClPost X l e w') := fun X hX => clone_any ((unhide P2).later hX).at_ ((unhide P2).none) (unhide P2).len
      have LL : Hid (l.length ≤ 140737488355328) := (unhide P2).len
      clear P2
      have hkn : ks.length ≤ 4398046510976 := by omega
      have HKN := hide hkn
      clear hkn hkl2
      generalize hml : l.length = ml at *
      have HML := hide hml
      clear hml
      generalize hkn : ks.length = kn at *
      have HKS := hide hkn
      clear hkn
      go_wp2_with fail
      generalize (wr.setCell ⟨rb, 24, none⟩ (.int .i64 (to + (k : Int) + 1))).alloc (.cells #[.int .i64 t, .slice pa ml pc] 64) = W at *
      have hrW : rb < W.heap.size := lt_of_heap (unhide H2)
      have YA : Hid (∀ X, Below W.heap.size W X → X.cell? ⟨rb, 24, none⟩ = some (.int .i64 (to + (k : Int) + 1))) := fun X hb => (hb.cell (p := ⟨rb, 24, none⟩) hrW).trans k24
      clear x24 f24 y0 y1
      go_region_law (first
        | (go_simp; go_at_call 32; refine (unhide CL _ (by go_grown)).mono ?_; rintro e w2 ⟨a', c', rfl, pr, pn, pb⟩; have y2 : w2.cell? ⟨rb, 24, none⟩ = some (.int .i64 (to + (k : Int) + 1)) := unhide YA w2 (by first | (go_grown; done) | exact pb | exact (below_drewN3 (Below.refl _ _) _).trans (pb.mono (Nat.le_refl _))); have B2 : Hid (Below W.heap.size W w2) := (by first | exact pb | exact (below_drewN3 (Below.refl _ _) _).trans (pb.mono (Nat.le_refl _))))
        | (refine step_two commit_info Try.underlying29 rfl (.tmp 33) (.tmp 42) rfl (.slice qa kn qc) kn (ks.flatMap enC) (by rfl) (by have := (unhide L2).row.later ((unhide B2).trans (((Below.refl _ _).alloc (Nat.le_refl _) (.cells #[.int .i64 (to + (k : Int) + 1), .slice a' l.length c'] 48)).mono (unhide B2).size)); rw [unhide HKS] at this; exact this) _ _ _ (by rfl) (heap_new _ _) rfl rfl (by intro u hu; simp at hu; rcases hu with rfl | rfl <;> rfl) (unhide HKN) ?_; intro v3 w3 o3 t3 m3))
      all_goals
        obtain ⟨l3, n3⟩ := EL.more (p := ⟨to + (k : Int) + 1, a', c', l⟩) (w0 := W) (unhide L2) (by decide) ((unhide B2).trans (((Below.refl _ _).alloc (Nat.le_refl _) (.cells #[.int .i64 (to + (k : Int) + 1), .slice a' l.length c'] 48)).mono (unhide B2).size)) (by rw [unhide HKS]; exact o3) t3 m3 ⟨pr.later ((Below.refl _ _).alloc (Nat.le_refl _) _), by rw [unhide HML]; exact unhide LL⟩ pn
        have FF : Hid (TlS w w3 rb cs to qs (k + 1) v3 (ks ++ [⟨to + (k : Int) + 1, a', c', l⟩])) := by
          have t13 : Touch (fun j => (Value.slice qa kn qc).ownBlock = some j) W w3 := (Touch.of_below ((unhide B2).trans (((Below.refl _ _).alloc (Nat.le_refl _) (.cells #[.int .i64 (to + (k : Int) + 1), .slice a' l.length c'] 48)).mono (unhide B2).size))).trans t3
          refine ⟨l3, ?_, fun j hj => ?_, ?_, touch_new (unhide T2) t13 (fun j hj => .inr (unhide NW j (.inl hj)))⟩
          · rw [unhide TK, ← unhide AB, List.map_append, List.map_singleton]
            simp only [En.abs]
            rw [show to + (k : Int) + 1 = to + 1 + (k : Int) by omega]
          · rcases n3 j hj with e | e
            · exact unhide NW j e
            · exact Nat.le_trans (unhide T2).size e
          · rw [show to + ((k + 1 : Nat) : Int) = to + (k : Int) + 1 by omega]
            exact t13.keep (unhide H2) (fun e => by have := unhide NW rb (.inl e); omega)
        obtain ⟨a3, c3, rfl⟩ := o3.shape
        clear o3 t3 m3 l3 n3 pr pn pb B2 L2 H2 T2 NW AB TK YA CL
        go_wp2
        go_roundw
        case rel => exact ⟨k + 1, _, by omega, by go_num, unhide FF⟩
        case measure => simp [intOf]; omega
    · obtain rfl : k = qs.length := by omega
      obtain ⟨qa, qc, rfl⟩ := st.list.row.shape
      have F : Hid (TlPost w rb cs to qs (.returned (.slice qa ks.length qc)) wr) := ⟨_, ks, rfl, st.list, by rw [st.abs, List.take_length], st.new, st.box, st.touch⟩
      clear st
      go_wp2
      go_returns
      exact unhide F
end Go.Proofs.Ytibjfekfkllnjaa
