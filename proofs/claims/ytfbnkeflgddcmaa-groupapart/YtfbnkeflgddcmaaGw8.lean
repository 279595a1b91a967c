/-
  Apply of a batch of one record within a transaction, and of its end. Conditions: the state as it lies.
-/
import Derived.Test.YtfbnkeflgddcmaaGw7
namespace Go.Proofs.Ytfbnkeflgddcmaa
open Go.RowKit Go.Maps
set_option linter.unusedVariables false

theorem OneR.weak {B C : Nat} {w : World} {v : Value} {r : Rx} (h : OneR B w v r) (hc : C ≤ B) : OneR C w v r := by
  obtain ⟨g, c, a, k, e, h1, h2, h3⟩ := h
  exact ⟨g, c, a, k, e, h1, h2, Nat.le_trans hc h3⟩
theorem wait_any {B : Nat} {w : World} {sb : Nat} {mv1 mv2 : Value} {m1 : List (Int × Tm)} {r : Rx} {v : Value} {pid : Int} (h : GS B w sb mv1 mv2 m1 []) (hv : OneR B w v r) (hr : r.l = []) (hp : pid = 1 ∨ pid = 2) (hB : B ≤ w.heap.size) :
    Calls Try.prog 16 #[.pointer (some ⟨sb, 0, none⟩), .int .u64 pid, v] w fun e w' => WtP B w sb mv1 m1 pid r e w' := by
  have hg := h.wt
  rcases hg with ⟨rfl, _⟩ | ⟨b, rfl, _⟩
  · exact wait_none h hv hr hp hB
  · exact wait_some h hv hr hp hB
def ApP (B : Nat) (w : World) (sb : Nat) (mv1 : Value) (m1 : List (Int × Tm)) (pid : Int) (r : Rx) (e : Ending) (w' : World) : Prop := e = .returned (.tuple #[]) ∧ ∃ b p, GS B w' sb mv1 (.map (some b)) m1 [(pid, p)] ∧ OneR B w' (slV p) r ∧ Touch (fun k => B ≤ k) w w'
set_option maxRecDepth 100000 in
set_option maxHeartbeats 8000000 in
theorem apply_txn {B : Nat} {w : World} {sb : Nat} {mv1 mv2 : Value} {m1 : List (Int × Tm)} {r : Rx} {v : Value} {pid : Int} {C : Nat} (h : GS B w sb mv1 mv2 m1 []) (ho : OneT C w v (encR r)) (hf : RFit r) (hC : isR r = true) (ht : (encR r).length ≤ 4096) (hr : r.l = []) (hp : pid = 1 ∨ pid = 2) (hB : B ≤ w.heap.size) :
    Calls Try.prog 7 #[.pointer (some ⟨sb, 0, none⟩), .agg #[.int .i64 0, .int .i64 0, .int .u64 pid, .int .i64 0, .int .i64 0, .bool true, .bool false, .bool false, v]] w fun e w' => ApP B w sb mv1 m1 pid r e w' := by
  have b1 := (Below.refl w.heap.size w).alloc (Nat.le_refl _) (.cells #[.int .i64 0, .int .i64 0, .int .u64 pid, .int .i64 0, .int .i64 0, .bool true, .bool false, .bool false, v] 34)
  have HX := hide (heap_new w (.cells #[.int .i64 0, .int .i64 0, .int .u64 pid, .int .i64 0, .int .i64 0, .bool true, .bool false, .bool false, v] 34))
  have H1 := hide (h.later b1)
  have O1 := hide (ho.later b1)
  have B1 := hide b1
  have KR : Hid (∀ W, OneT C W v (encR r) → Calls Try.prog 17 #[.agg #[.int .i64 0, .int .i64 0, .int .u64 pid, .int .i64 0, .int .i64 0, .bool true, .bool false, .bool false, v]] W fun e w' => RcP W r e w') := hide (fun W h => records_one h hf hC ht)
  have HR := hide hr
  have HP := hide hp
  have HB := hide hB
  clear h ho hf hC ht hr hp hB b1
  go_enter Try.func7, Try.ntmps7
  go_upto_region 1 with fail
  change Code.wp _ _ _ _ (w.alloc (.cells #[.int .i64 0, .int .i64 0, .int .u64 pid, .int .i64 0, .int .i64 0, .bool true, .bool false, .bool false, v] 34))
  generalize w.alloc (.cells #[.int .i64 0, .int .i64 0, .int .u64 pid, .int .i64 0, .int .i64 0, .bool true, .bool false, .bool false, v] 34) = w1 at *
  generalize hxb : w.heap.size = xb at *
  have HXB := hide hxb
  clear hxb
  have y5 := cell_of (unhide HX) 5
  have y6 := cell_of (unhide HX) 6
  simp at y5 y6
  go_upto_region 6 with fail
  have hd : Below w1.heap.size w1 w1.drew := (Below.refl _ _).drew
  have H2 := hide ((unhide H1).later hd)
  have O2 := hide ((unhide O1).later hd)
  have HX2 := hide (below_keep hd (unhide HX))
  have B2 : Hid (Below xb w w1.drew) := hide ((unhide B1).trans (Below.mono hd (Nat.le_of_lt (lt_of_heap (unhide HX)))))
  clear y5 y6 H1 O1 HX B1 hd
  refine wp_region_held_drew (S := fun w' => w'.heap[xb]? = some (.cells #[.int .i64 0, .int .i64 0, .int .u64 pid, .int .i64 0, .int .i64 0, .bool true, .bool false, .bool false, v] 34)) (by kernel_rfl) (unhide HX2) (fun hHeld => ?_)
  generalize w1.drew = w2 at *
  refine take17 (i := 0) (d := 22) (v := .pointer (some ⟨sb, 0, none⟩)) rfl rfl (by kernel_rfl) (by kernel_rfl) (by kernel_rfl) (fun _ _ _ h => h) (Or.inl ⟨by rfl, by intro w' hSw; (try dsimp only at hSw); go_simp⟩) (by assumption) ?_; (try simp only [List.setIfInBounds_toArray, List.set_cons_zero, List.set_cons_succ])
  refine take17 (i := 1) (d := 23) (v := .pointer (some ⟨xb, 2, none⟩)) rfl rfl (by kernel_rfl) (by kernel_rfl) (by kernel_rfl) (fun _ _ _ h => h) (Or.inl ⟨by rfl, by intro w' hSw; (try dsimp only at hSw); go_simp⟩) (by assumption) ?_; (try simp only [List.setIfInBounds_toArray, List.set_cons_zero, List.set_cons_succ])
  refine take17 (i := 2) (d := 24) (v := .int .u64 pid) rfl rfl (by kernel_rfl) (by kernel_rfl) (by kernel_rfl) (fun _ _ _ h => h) (Or.inl ⟨by rfl, by intro w' hSw; (try dsimp only at hSw); have y2 := cell_of hSw 2; simp at y2; go_simp⟩) (by assumption) ?_; (try simp only [List.setIfInBounds_toArray, List.set_cons_zero, List.set_cons_succ])
  refine take17 (i := 3) (d := 25) (v := .agg #[.int .i64 0, .int .i64 0, .int .u64 pid, .int .i64 0, .int .i64 0, .bool true, .bool false, .bool false, v]) rfl rfl (by kernel_rfl) (by kernel_rfl) (by kernel_rfl) (fun _ _ _ h => h) (Or.inl ⟨by rfl, by intro w' hSw; (try dsimp only at hSw); have y0 := cell_of hSw 0; have y1 := cell_of hSw 1; have y2 := cell_of hSw 2; have y3 := cell_of hSw 3; have y4 := cell_of hSw 4; have y5 := cell_of hSw 5; have y6 := cell_of hSw 6; have y7 := cell_of hSw 7; have y8 := cell_of hSw 8; simp at y0 y1 y2 y3 y4 y5 y6 y7 y8; go_simp⟩) (by assumption) ?_; (try simp only [List.setIfInBounds_toArray, List.set_cons_zero, List.set_cons_succ])
  refine wpAnyH_ready (rs := [4]) (by kernel_rfl) (by simp) ?_
  refine AllReadyH.cons rfl (fun K hK => ?_) AllReadyH.nil
  go_simp
  refine (unhide KR w2 (unhide O2)).mono ?_
  rintro e w3 ⟨v3, rfl, o3, b3⟩
  have HXS : Hid (xb < w2.heap.size) := hide (lt_of_heap (unhide HX2))
  have HB2 : Hid (B ≤ w2.heap.size) := hide (by have := unhide HXB; have := unhide HB; have := unhide HXS; omega)
  have H3 := hide ((unhide H2).later b3)
  have O3 := hide (o3.weak (unhide HB2))
  have HX3 := hide (below_keep b3 (unhide HX2))
  have B3 : Hid (Below xb w w3) := hide ((unhide B2).trans (Below.mono b3 (Nat.le_of_lt (unhide HXS))))
  have HB3 : Hid (B ≤ w3.heap.size) := hide (Nat.le_trans (unhide HB2) b3.size)
  clear o3 b3 KR H2 O2 HX2 B2 HB2
  refine hK.out _ _ (unhide HX3) (fun hHeld => ?_)
  clear hK K
  (try simp only [Act.put, List.setIfInBounds_toArray])
  have KW := hide (wait_any (unhide H3) (unhide O3) (unhide HR) (unhide HP) (unhide HB3))
  refine wpAnyH_ready (rs := [5]) (by kernel_rfl) (by simp) ?_
  refine AllReadyH.cons rfl (fun K hK => ?_) AllReadyH.nil
  go_simp
  refine (unhide KW).mono ?_
  rintro e w4 ⟨rfl, b, p, h4, o4, t4⟩
  have HX4 : w4.heap[xb]? = some (.cells #[.int .i64 0, .int .i64 0, .int .u64 pid, .int .i64 0, .int .i64 0, .bool true, .bool false, .bool false, v] 34) := t4.keep (unhide HX3) (fun hs => by
    rcases hs.2 with e | ⟨es, ck, e⟩ | e
    · have := (unhide H3).obj
      rw [← e, unhide HX3] at this
      exact absurd (Obj.cells.inj (Option.some.inj this)).2.1 (by decide)
    · rw [unhide HX3] at e
      cases e
    · have := lt_of_heap (unhide HX3)
      omega)
  have FF : Hid (ApP B w sb mv1 m1 pid r (.returned (.tuple #[])) w4) := hide ⟨rfl, b, p, h4, o4, (Touch.of_below (by rw [unhide HXB]; exact unhide B3)).trans (t4.mono (fun q hq => hq.1))⟩
  clear h4 o4 t4 KW H3 O3 HX3 B3 HB3
  refine hK.out _ _ HX4 (fun hHeld => ?_)
  clear hK K HX4
  (try simp only [Act.put, List.setIfInBounds_toArray])
  refine wpAnyH_done (by kernel_rfl) ?_ _
  clear hHeld
  go_wp2
  go_returns
  exact unhide FF
set_option maxRecDepth 100000 in
set_option maxHeartbeats 4000000 in
theorem apply_end {B : Nat} {w : World} {sb mb : Nat} {mv1 : Value} {m1 : List (Int × Tm)} {gen off pid : Int} {p : Sl} {kk : Nat} (yes : Bool) (h : GS B w sb mv1 (.map (some mb)) m1 [(pid, p)]) (hv : OneR B w (slV p) ⟨2, 1, gen, [], (kk : Int), off⟩) (hk : kk < 4) (hp : pid = 1 ∨ pid = 2) (hB : B ≤ w.heap.size) :
    Calls Try.prog 7 #[.pointer (some ⟨sb, 0, none⟩), .agg #[.int .i64 0, .int .i64 0, .int .u64 pid, .int .i64 0, .int .i64 0, .bool true, .bool true, .bool yes, .slice none 0 0]] w fun e w' => EdP B w sb m1 kk off yes e w' := by
  have b1 := (Below.refl w.heap.size w).alloc (Nat.le_refl _) (.cells #[.int .i64 0, .int .i64 0, .int .u64 pid, .int .i64 0, .int .i64 0, .bool true, .bool true, .bool yes, .slice none 0 0] 34)
  have HX := hide (heap_new w (.cells #[.int .i64 0, .int .i64 0, .int .u64 pid, .int .i64 0, .int .i64 0, .bool true, .bool true, .bool yes, .slice none 0 0] 34))
  have B1 := hide b1
  have KE := hide (gend_any yes (h.later b1) (hv.keep rfl (Touch.of_below (S := fun _ => False) b1) (fun _ _ h => h)) hk hp (Nat.le_trans hB b1.size))
  have y2 : (w.alloc (.cells #[.int .i64 0, .int .i64 0, .int .u64 pid, .int .i64 0, .int .i64 0, .bool true, .bool true, .bool yes, .slice none 0 0] 34)).cell? ⟨w.heap.size, 2, none⟩ = some (.int .u64 pid) := cell_of (unhide HX) 2
  have y6 : (w.alloc (.cells #[.int .i64 0, .int .i64 0, .int .u64 pid, .int .i64 0, .int .i64 0, .bool true, .bool true, .bool yes, .slice none 0 0] 34)).cell? ⟨w.heap.size, 6, none⟩ = some (.bool true) := cell_of (unhide HX) 6
  have y7 : (w.alloc (.cells #[.int .i64 0, .int .i64 0, .int .u64 pid, .int .i64 0, .int .i64 0, .bool true, .bool true, .bool yes, .slice none 0 0] 34)).cell? ⟨w.heap.size, 7, none⟩ = some (.bool yes) := cell_of (unhide HX) 7
  clear h hv hk hp hB b1 HX
  go_enter Try.func7, Try.ntmps7
  go_upto_region 1 with fail
  change Code.wp _ _ _ _ (w.alloc (.cells #[.int .i64 0, .int .i64 0, .int .u64 pid, .int .i64 0, .int .i64 0, .bool true, .bool true, .bool yes, .slice none 0 0] 34))
  generalize w.alloc (.cells #[.int .i64 0, .int .i64 0, .int .u64 pid, .int .i64 0, .int .i64 0, .bool true, .bool true, .bool yes, .slice none 0 0] 34) = w1 at *
  go_wp2_with fail
  refine (unhide KE).mono ?_
  rintro e w2 ⟨rfl, a1, a2, m1', h2, e2, t2⟩
  have FF : Hid (EdP B w sb m1 kk off yes (.returned (.tuple #[])) w2) := hide ⟨rfl, a1, a2, m1', h2, e2, (Touch.of_below (unhide B1)).trans t2⟩
  clear h2 e2 t2 KE B1 y2 y6 y7
  go_wp2
  go_returns
  exact unhide FF
end Go.Proofs.Ytfbnkeflgddcmaa
