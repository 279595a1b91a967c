/-
  penstockref17.Bare of any message whose kind there is: the message with just what its kind has. Conditions: none.
-/
import Derived.Test.YtblmondkdcpkaaaZ54

namespace Go.Proofs.Ytblmondkdcpkaaa
open Go.RowKit
set_option linter.unusedVariables false

theorem store_part {ops : Array Oper} {rest : List Oper} {op : Oper} {a : Act} {w : World} {Q : Exit → Act → World → Prop} (T TM : TypeId) (hgd : op.guard = none) (x y : Operand) (ho : op.op = .store T x y)
    (g o : Nat) (D : List Value) (hx : a.eval x = .pointer (some ⟨g, o, none⟩)) (hy : a.eval y = .agg D.toArray) {cs : Array Value} (L' : List Value)
    (hg : w.heap[g]? = some (.cells cs TM)) (hfit : o + D.length ≤ cs.size) (hi : (Try.prog.info? T).map (·.size) = some D.length) (h1 : D.toArray.all (·.oneCell') = true) (hL : lay cs o D = L'.toArray)
    (h : ∀ W, W.heap[g]? = some (.cells L'.toArray TM) → Touch (· = g) w W → wpList Try.prog ops Q rest (a.put op.dst undef) W) : wpList Try.prog ops Q (op :: rest) a w := by
  refine wpList_store_mid hgd T x y ho g o _ hx hy (there_of hg (by simpa using hfit)) (by rw [hi]; simp) h1 ?_
  obtain ⟨q1, q2⟩ := heap_setCells D o w _ hg
  rw [hL] at q1
  exact h _ q1 q2
theorem res_bare {Y : World} {g : Nat} {m : Mg} {tmps : Array Value} (h : Y.heap[g]? = some (.cells (mgL m).toArray 41)) (ht : tmps[2]?.getD undef = .pointer (some ⟨g, 0, none⟩)) :
    (results Try.f15 tmps).run Try.prog Y = .ok (.agg (mgL m).toArray) Y := by
  have hlv := run_loadVar_mid (P := Try.prog) Y g 0 41 (mgL m) _ (range_of h (fun j v hv => by rw [Nat.zero_add]; exact hv)) Try.underlying41 rfl (info_mg m)
  simp [results, Try.results15, ht, asAddr, hlv]
def BrP (w : World) (x : Mg) (e : Ending) (w' : World) : Prop := e = .returned (.agg (mgL x).toArray) ∧ Below w.heap.size w w'
theorem lay_bareRaft (m : Mg) : lay (mgL (hdM m.kd m.fr m.tt m.co m.er)).toArray 5 [.int .i64 m.r1, .int .i64 m.r2, .int .i64 m.r3, .int .i64 m.r4, .int .i64 m.r5, .int .i64 m.r6, .int .i64 m.r7, .bool m.rj, .slice m.ea m.en.length m.ec, .slice m.sa m.sn.length m.sc] = (mgL (bareRaft m)).toArray := by kernel_rfl
theorem info_p1 : (Try.prog.info? 26).map (·.size) = some 10 := by kernel_rfl
theorem lay_bareFetch (m : Mg) : lay (mgL (hdM m.kd m.fr m.tt m.co m.er)).toArray 15 [.int .i64 m.f1, .int .i64 m.f2, .int .i64 m.f3, .int .i64 m.f4, .int .i64 m.f5] = (mgL (bareFetch m)).toArray := by kernel_rfl
theorem info_p2 : (Try.prog.info? 28).map (·.size) = some 5 := by kernel_rfl
theorem lay_bareFetched (m : Mg) : lay (mgL (hdM m.kd m.fr m.tt m.co m.er)).toArray 20 [.int .i64 m.g1, .int .i64 m.g2, .int .i64 m.g3, .int .i64 m.g4, .bool m.gd, .int .i64 m.g5, .int .i64 m.g6, .int .i64 m.g7, .int .i64 m.g8, .slice m.ga m.gb.length m.gc] = (mgL (bareFetched m)).toArray := by kernel_rfl
theorem info_p3 : (Try.prog.info? 31).map (·.size) = some 10 := by kernel_rfl
theorem lay_bareCmd (m : Mg) : lay (mgL (hdM m.kd m.fr m.tt m.co m.er)).toArray 30 [.int .i64 m.c.kd, .int .i64 m.c.nd, .int .i64 m.c.pt, .int .i64 m.c.ep, .int .i64 m.c.ve, .slice m.c.a m.c.l.length m.c.k] = (mgL (bareCmd m)).toArray := by kernel_rfl
theorem info_p4 : (Try.prog.info? 34).map (·.size) = some 6 := by kernel_rfl
theorem lay_z1 (m : Mg) : lay (mgL m).toArray 5 [.int .i64 0, .int .i64 0, .int .i64 0, .int .i64 0, .int .i64 0, .int .i64 0, .int .i64 0, .bool false, .slice none 0 0, .slice none 0 0] = (mgL { m with r1 := 0, r2 := 0, r3 := 0, r4 := 0, r5 := 0, r6 := 0, r7 := 0, rj := false, en := [], ea := none, ec := 0, sn := [], sa := none, sc := 0 }).toArray := by kernel_rfl
theorem lay_z2 (m : Mg) : lay (mgL { m with r1 := 0, r2 := 0, r3 := 0, r4 := 0, r5 := 0, r6 := 0, r7 := 0, rj := false, en := [], ea := none, ec := 0, sn := [], sa := none, sc := 0 }).toArray 15 [.int .i64 0, .int .i64 0, .int .i64 0, .int .i64 0, .int .i64 0] = (mgL { m with r1 := 0, r2 := 0, r3 := 0, r4 := 0, r5 := 0, r6 := 0, r7 := 0, rj := false, en := [], ea := none, ec := 0, sn := [], sa := none, sc := 0, f1 := 0, f2 := 0, f3 := 0, f4 := 0, f5 := 0 }).toArray := by kernel_rfl
theorem lay_z3 (m : Mg) : lay (mgL { m with r1 := 0, r2 := 0, r3 := 0, r4 := 0, r5 := 0, r6 := 0, r7 := 0, rj := false, en := [], ea := none, ec := 0, sn := [], sa := none, sc := 0, f1 := 0, f2 := 0, f3 := 0, f4 := 0, f5 := 0 }).toArray 20 [.int .i64 0, .int .i64 0, .int .i64 0, .int .i64 0, .bool false, .int .i64 0, .int .i64 0, .int .i64 0, .int .i64 0, .slice none 0 0] = (mgL { m with r1 := 0, r2 := 0, r3 := 0, r4 := 0, r5 := 0, r6 := 0, r7 := 0, rj := false, en := [], ea := none, ec := 0, sn := [], sa := none, sc := 0, f1 := 0, f2 := 0, f3 := 0, f4 := 0, f5 := 0, g1 := 0, g2 := 0, g3 := 0, g4 := 0, gd := false, g5 := 0, g6 := 0, g7 := 0, g8 := 0, gb := [], ga := none, gc := 0 }).toArray := by kernel_rfl
theorem lay_z4 (m : Mg) : lay (mgL { m with r1 := 0, r2 := 0, r3 := 0, r4 := 0, r5 := 0, r6 := 0, r7 := 0, rj := false, en := [], ea := none, ec := 0, sn := [], sa := none, sc := 0, f1 := 0, f2 := 0, f3 := 0, f4 := 0, f5 := 0, g1 := 0, g2 := 0, g3 := 0, g4 := 0, gd := false, g5 := 0, g6 := 0, g7 := 0, g8 := 0, gb := [], ga := none, gc := 0 }).toArray 30 [.int .i64 0, .int .i64 0, .int .i64 0, .int .i64 0, .int .i64 0, .slice none 0 0] = (mgL (bareOthers m)).toArray := by kernel_rfl
set_option maxRecDepth 100000 in
set_option maxHeartbeats 8000000 in
theorem bareRaft_ref {w : World} {m : Mg} (hk : m.kd = 1) : Calls Try.prog 15 #[.agg (mgL m).toArray] w fun e w' => BrP w (bareRaft m) e w' := by
  have k1 : (m.kd == 1) = true := beq_iff_eq.2 hk
  clear hk
  have hb2 := ((Below.refl w.heap.size w).alloc (Nat.le_refl _) (.cells (mgL m).toArray 41)).alloc (by simp) (.cells (mgL mg0).toArray 41)
  have H0 := hide (heap_old (.cells (mgL mg0).toArray 41) (heap_new w (.cells (mgL m).toArray 41)))
  have H1 := hide (heap_new (w.alloc (.cells (mgL m).toArray 41)) (.cells (mgL mg0).toArray 41))
  have hz1 : (w.alloc (.cells (mgL m).toArray 41)).heap.size = w.heap.size + 1 := by simp
  rw [hz1] at H1
  have hs2 : ((w.alloc (.cells (mgL m).toArray 41)).alloc (.cells (mgL mg0).toArray 41)).heap.size = w.heap.size + 2 := by simp
  have hs3 : w.heap.size + 2 ≤ ((w.alloc (.cells (mgL m).toArray 41)).alloc (.cells (mgL mg0).toArray 41)).heap.size := by omega
  clear hs2
  have HB2 := hide hb2
  clear hb2 hz1
  obtain ⟨LH, hLH⟩ : ∃ LH : List Value, LH = mgL (hdM m.kd m.fr m.tt m.co m.er) := ⟨_, rfl⟩
  have HIH : Hid ((Try.prog.info? 41).map (·.size) = some LH.length) := hide (by rw [hLH]; exact info_mg _)
  have HWH : Hid (LH.toArray.all (·.oneCell') = true) := hide (by rw [hLH]; exact mg_one _)
  have HLH : Hid (LH.length = 59) := hide (by rw [hLH]; rfl)
  have HEQ := hide hLH
  clear hLH
  go_enter Try.func15, Try.ntmps15
  go_upto_region 1 with fail
  change Code.wp _ _ _ _ ((w.alloc (.cells (mgL m).toArray 41)).alloc (.cells (mgL mg0).toArray 41))
  generalize (w.alloc (.cells (mgL m).toArray 41)).alloc (.cells (mgL mg0).toArray 41) = W2 at *
  have y0 : W2.cell? ⟨w.heap.size, 0, none⟩ = some (.int .i64 m.kd) := cell_of (unhide H0) 0
  have y1 : W2.cell? ⟨w.heap.size, 1, none⟩ = some (.int .i64 m.fr) := cell_of (unhide H0) 1
  have y2 : W2.cell? ⟨w.heap.size, 2, none⟩ = some (.int .i64 m.tt) := cell_of (unhide H0) 2
  have y3 : W2.cell? ⟨w.heap.size, 3, none⟩ = some (.int .i64 m.co) := cell_of (unhide H0) 3
  have y4 : W2.cell? ⟨w.heap.size, 4, none⟩ = some (.int .i64 m.er) := cell_of (unhide H0) 4
  have AL := hide ((Below.refl W2.heap.size W2).alloc (Nat.le_refl _) (.cells (mgL mg0).toArray 41))
  go_upto_region 2 with (with_reducible (show wpList _ _ _ (Oper.mk _ (Op.store _ _ _) _ _ _ _ :: _) _ _); refine store_box 41 rfl (.tmp 3) (.tmp 14) rfl W2.heap.size LH rfl (by rw [unhide HEQ]; kernel_rfl) (heap_new W2 _) (by rw [unhide HLH]; kernel_rfl) (unhide HIH) (unhide HWH) ?_; rintro W3 q1 q2; have Q3 := hide q1; have T3 := hide q2; clear q1 q2)
  have H03 := hide ((unhide T3).keep (below_keep (unhide AL) (unhide H0)) (by omega))
  have H13 := hide ((unhide T3).keep (below_keep (unhide AL) (unhide H1)) (by omega))
  have B3 := hide (below_touch ((unhide HB2).trans ((unhide AL).mono (by omega))) (unhide T3) (by have := (unhide AL).size; omega) (fun k hk => by omega))
  clear T3 H0 H1 HB2 AL y0 y1 y2 y3 y4
  generalize W2.heap.size = g at *
  have y0 : W3.cell? ⟨w.heap.size, 0, none⟩ = some (.int .i64 m.kd) := cell_of (unhide H03) 0
  have HRP := hide (range_of (o := 5) (ds := [.int .i64 m.r1, .int .i64 m.r2, .int .i64 m.r3, .int .i64 m.r4, .int .i64 m.r5, .int .i64 m.r6, .int .i64 m.r7, .bool m.rj, .slice m.ea m.en.length m.ec, .slice m.sa m.sn.length m.sc]) (unhide H03) (part_at (m := m) (o := 5) (n := 10) (L := [.int .i64 m.r1, .int .i64 m.r2, .int .i64 m.r3, .int .i64 m.r4, .int .i64 m.r5, .int .i64 m.r6, .int .i64 m.r7, .bool m.rj, .slice m.ea m.en.length m.ec, .slice m.sa m.sn.length m.sc]) rfl))
  have HOC : Hid (([.int .i64 m.r1, .int .i64 m.r2, .int .i64 m.r3, .int .i64 m.r4, .int .i64 m.r5, .int .i64 m.r6, .int .i64 m.r7, .bool m.rj, .slice m.ea m.en.length m.ec, .slice m.sa m.sn.length m.sc] : List Value).toArray.all (·.oneCell') = true) := hide (by simp [Value.oneCell'])
  have HLY : Hid (lay LH.toArray 5 [.int .i64 m.r1, .int .i64 m.r2, .int .i64 m.r3, .int .i64 m.r4, .int .i64 m.r5, .int .i64 m.r6, .int .i64 m.r7, .bool m.rj, .slice m.ea m.en.length m.ec, .slice m.sa m.sn.length m.sc] = (mgL (bareRaft m)).toArray) := hide (by rw [unhide HEQ]; exact lay_bareRaft m)
  obtain ⟨DS, hDS⟩ : ∃ DS : List Value, DS = [.int .i64 m.r1, .int .i64 m.r2, .int .i64 m.r3, .int .i64 m.r4, .int .i64 m.r5, .int .i64 m.r6, .int .i64 m.r7, .bool m.rj, .slice m.ea m.en.length m.ec, .slice m.sa m.sn.length m.sc] := ⟨_, rfl⟩
  rw [← hDS] at HRP HOC HLY
  have HDL : Hid (DS.length = 10) := hide (by rw [hDS]; rfl)
  clear hDS
  have HSZ : Hid (LH.toArray.size = 59) := hide (by rw [unhide HEQ]; rfl)
  obtain ⟨LN, hLN⟩ : ∃ LN : List Value, LN = mgL (bareRaft m) := ⟨_, rfl⟩
  rw [← hLN] at HLY
  have HNQ := hide hLN
  clear hLN HIH HWH HLH HEQ
  go_upto_region 16 with (first
    | (with_reducible (show wpList _ _ _ (Oper.mk _ (Op.load _ _) _ _ _ _ :: _) _ _); refine wpList_load_mid rfl 26 (.tmp 28) rfl w.heap.size 5 rfl DS _ (unhide HRP) Try.underlying26 rfl (by rw [info_p1, unhide HDL]) ?_)
    | (with_reducible (show wpList _ _ _ (Oper.mk _ (Op.store _ _ _) _ _ _ _ :: _) _ _); refine store_part 26 41 rfl (.tmp 30) (.tmp 29) rfl g 5 DS rfl rfl LN (unhide Q3) (by rw [unhide HDL, unhide HSZ]; decide) (by rw [info_p1, unhide HDL]) (unhide HOC) (unhide HLY) ?_; rintro W4 q1 q2; have Q4 := hide q1; have H14 := hide (q2.keep (unhide H13) (by omega)); have B4 := hide (below_touch (unhide B3) q2 (unhide B3).size (fun k hk => by omega)); clear q1 q2))
  clear H03 H13 B3 Q3 y0 HRP HOC HLY HDL HSZ
  rw [unhide HNQ] at Q4
  clear HNQ
  have HIX := hide (info_mg (bareRaft m))
  have HRX := hide (range_of (o := 0) (ds := mgL (bareRaft m)) (unhide Q4) (fun j v hv => by rw [Nat.zero_add]; exact hv))
  have HLX : Hid ((mgL (bareRaft m)).length = 59) := hide rfl
  have HWX : Hid ((mgL (bareRaft m)).toArray.all (·.oneCell') = true) := hide (mg_one (bareRaft m))
  have RES : Hid (∀ (Y : World) (tmps : Array Value), Y.heap[w.heap.size + 1]? = some (.cells (mgL (bareRaft m)).toArray 41) → tmps[2]?.getD undef = .pointer (some ⟨w.heap.size + 1, 0, none⟩) → (results Try.f15 tmps).run Try.prog Y = .ok (.agg (mgL (bareRaft m)).toArray) Y) := hide (fun Y tmps h ht => res_bare h ht)
  have FR : Hid (∀ Y : World, Below w.heap.size w Y → BrP w (bareRaft m) (.returned (.agg (mgL (bareRaft m)).toArray)) Y) := hide (fun Y h => ⟨rfl, h⟩)
  generalize mgL (bareRaft m) = LX at *
  go_wp2_with (first
    | (with_reducible (show wpList _ _ _ (Oper.mk _ (Op.load _ _) _ _ _ _ :: _) _ _); refine wpList_load_mid rfl 41 (.tmp 3) rfl g 0 rfl LX _ (unhide HRX) Try.underlying41 rfl (unhide HIX) ?_)
    | (with_reducible (show wpList _ _ _ (Oper.mk _ (Op.store _ _ _) _ _ _ _ :: _) _ _); refine store_list rfl (.tmp 2) (.tmp 46) rfl (w.heap.size + 1) LX rfl rfl (unhide H14) rfl (unhide HLX) (unhide HWX) ?_; rintro W9 q1 q2; have Q9 := hide q1; have B9 := hide (below_touch (unhide B4) q2 (unhide B4).size (fun k hk => by omega)); clear q1 q2))
  refine bodyPost_ret (unhide RES _ _ (unhide Q9) rfl) rfl ?_
  exact unhide FR _ (unhide B9)
set_option maxRecDepth 100000 in
set_option maxHeartbeats 8000000 in
theorem bareFetch_ref {w : World} {m : Mg} (hk : m.kd = 2) : Calls Try.prog 15 #[.agg (mgL m).toArray] w fun e w' => BrP w (bareFetch m) e w' := by
  have k1 : (m.kd == 1) = false := beq_eq_false_iff_ne.2 (by omega)
  have k2 : (m.kd == 2) = true := beq_iff_eq.2 hk
  clear hk
  have hb2 := ((Below.refl w.heap.size w).alloc (Nat.le_refl _) (.cells (mgL m).toArray 41)).alloc (by simp) (.cells (mgL mg0).toArray 41)
  have H0 := hide (heap_old (.cells (mgL mg0).toArray 41) (heap_new w (.cells (mgL m).toArray 41)))
  have H1 := hide (heap_new (w.alloc (.cells (mgL m).toArray 41)) (.cells (mgL mg0).toArray 41))
  have hz1 : (w.alloc (.cells (mgL m).toArray 41)).heap.size = w.heap.size + 1 := by simp
  rw [hz1] at H1
  have hs2 : ((w.alloc (.cells (mgL m).toArray 41)).alloc (.cells (mgL mg0).toArray 41)).heap.size = w.heap.size + 2 := by simp
  have hs3 : w.heap.size + 2 ≤ ((w.alloc (.cells (mgL m).toArray 41)).alloc (.cells (mgL mg0).toArray 41)).heap.size := by omega
  clear hs2
  have HB2 := hide hb2
  clear hb2 hz1
  obtain ⟨LH, hLH⟩ : ∃ LH : List Value, LH = mgL (hdM m.kd m.fr m.tt m.co m.er) := ⟨_, rfl⟩
  have HIH : Hid ((Try.prog.info? 41).map (·.size) = some LH.length) := hide (by rw [hLH]; exact info_mg _)
  have HWH : Hid (LH.toArray.all (·.oneCell') = true) := hide (by rw [hLH]; exact mg_one _)
  have HLH : Hid (LH.length = 59) := hide (by rw [hLH]; rfl)
  have HEQ := hide hLH
  clear hLH
  go_enter Try.func15, Try.ntmps15
  go_upto_region 1 with fail
  change Code.wp _ _ _ _ ((w.alloc (.cells (mgL m).toArray 41)).alloc (.cells (mgL mg0).toArray 41))
  generalize (w.alloc (.cells (mgL m).toArray 41)).alloc (.cells (mgL mg0).toArray 41) = W2 at *
  have y0 : W2.cell? ⟨w.heap.size, 0, none⟩ = some (.int .i64 m.kd) := cell_of (unhide H0) 0
  have y1 : W2.cell? ⟨w.heap.size, 1, none⟩ = some (.int .i64 m.fr) := cell_of (unhide H0) 1
  have y2 : W2.cell? ⟨w.heap.size, 2, none⟩ = some (.int .i64 m.tt) := cell_of (unhide H0) 2
  have y3 : W2.cell? ⟨w.heap.size, 3, none⟩ = some (.int .i64 m.co) := cell_of (unhide H0) 3
  have y4 : W2.cell? ⟨w.heap.size, 4, none⟩ = some (.int .i64 m.er) := cell_of (unhide H0) 4
  have AL := hide ((Below.refl W2.heap.size W2).alloc (Nat.le_refl _) (.cells (mgL mg0).toArray 41))
  go_upto_region 2 with (with_reducible (show wpList _ _ _ (Oper.mk _ (Op.store _ _ _) _ _ _ _ :: _) _ _); refine store_box 41 rfl (.tmp 3) (.tmp 14) rfl W2.heap.size LH rfl (by rw [unhide HEQ]; kernel_rfl) (heap_new W2 _) (by rw [unhide HLH]; kernel_rfl) (unhide HIH) (unhide HWH) ?_; rintro W3 q1 q2; have Q3 := hide q1; have T3 := hide q2; clear q1 q2)
  have H03 := hide ((unhide T3).keep (below_keep (unhide AL) (unhide H0)) (by omega))
  have H13 := hide ((unhide T3).keep (below_keep (unhide AL) (unhide H1)) (by omega))
  have B3 := hide (below_touch ((unhide HB2).trans ((unhide AL).mono (by omega))) (unhide T3) (by have := (unhide AL).size; omega) (fun k hk => by omega))
  clear T3 H0 H1 HB2 AL y0 y1 y2 y3 y4
  generalize W2.heap.size = g at *
  have y0 : W3.cell? ⟨w.heap.size, 0, none⟩ = some (.int .i64 m.kd) := cell_of (unhide H03) 0
  have HRP := hide (range_of (o := 15) (ds := [.int .i64 m.f1, .int .i64 m.f2, .int .i64 m.f3, .int .i64 m.f4, .int .i64 m.f5]) (unhide H03) (part_at (m := m) (o := 15) (n := 5) (L := [.int .i64 m.f1, .int .i64 m.f2, .int .i64 m.f3, .int .i64 m.f4, .int .i64 m.f5]) rfl))
  have HOC : Hid (([.int .i64 m.f1, .int .i64 m.f2, .int .i64 m.f3, .int .i64 m.f4, .int .i64 m.f5] : List Value).toArray.all (·.oneCell') = true) := hide (by simp [Value.oneCell'])
  have HLY : Hid (lay LH.toArray 15 [.int .i64 m.f1, .int .i64 m.f2, .int .i64 m.f3, .int .i64 m.f4, .int .i64 m.f5] = (mgL (bareFetch m)).toArray) := hide (by rw [unhide HEQ]; exact lay_bareFetch m)
  obtain ⟨DS, hDS⟩ : ∃ DS : List Value, DS = [.int .i64 m.f1, .int .i64 m.f2, .int .i64 m.f3, .int .i64 m.f4, .int .i64 m.f5] := ⟨_, rfl⟩
  rw [← hDS] at HRP HOC HLY
  have HDL : Hid (DS.length = 5) := hide (by rw [hDS]; rfl)
  clear hDS
  have HSZ : Hid (LH.toArray.size = 59) := hide (by rw [unhide HEQ]; rfl)
  obtain ⟨LN, hLN⟩ : ∃ LN : List Value, LN = mgL (bareFetch m) := ⟨_, rfl⟩
  rw [← hLN] at HLY
  have HNQ := hide hLN
  clear hLN HIH HWH HLH HEQ
  go_upto_region 16 with (first
    | (with_reducible (show wpList _ _ _ (Oper.mk _ (Op.load _ _) _ _ _ _ :: _) _ _); refine wpList_load_mid rfl 28 (.tmp 33) rfl w.heap.size 15 rfl DS _ (unhide HRP) Try.underlying28 rfl (by rw [info_p2, unhide HDL]) ?_)
    | (with_reducible (show wpList _ _ _ (Oper.mk _ (Op.store _ _ _) _ _ _ _ :: _) _ _); refine store_part 28 41 rfl (.tmp 35) (.tmp 34) rfl g 15 DS rfl rfl LN (unhide Q3) (by rw [unhide HDL, unhide HSZ]; decide) (by rw [info_p2, unhide HDL]) (unhide HOC) (unhide HLY) ?_; rintro W4 q1 q2; have Q4 := hide q1; have H14 := hide (q2.keep (unhide H13) (by omega)); have B4 := hide (below_touch (unhide B3) q2 (unhide B3).size (fun k hk => by omega)); clear q1 q2))
  clear H03 H13 B3 Q3 y0 HRP HOC HLY HDL HSZ
  rw [unhide HNQ] at Q4
  clear HNQ
  have HIX := hide (info_mg (bareFetch m))
  have HRX := hide (range_of (o := 0) (ds := mgL (bareFetch m)) (unhide Q4) (fun j v hv => by rw [Nat.zero_add]; exact hv))
  have HLX : Hid ((mgL (bareFetch m)).length = 59) := hide rfl
  have HWX : Hid ((mgL (bareFetch m)).toArray.all (·.oneCell') = true) := hide (mg_one (bareFetch m))
  have RES : Hid (∀ (Y : World) (tmps : Array Value), Y.heap[w.heap.size + 1]? = some (.cells (mgL (bareFetch m)).toArray 41) → tmps[2]?.getD undef = .pointer (some ⟨w.heap.size + 1, 0, none⟩) → (results Try.f15 tmps).run Try.prog Y = .ok (.agg (mgL (bareFetch m)).toArray) Y) := hide (fun Y tmps h ht => res_bare h ht)
  have FR : Hid (∀ Y : World, Below w.heap.size w Y → BrP w (bareFetch m) (.returned (.agg (mgL (bareFetch m)).toArray)) Y) := hide (fun Y h => ⟨rfl, h⟩)
  generalize mgL (bareFetch m) = LX at *
  go_wp2_with (first
    | (with_reducible (show wpList _ _ _ (Oper.mk _ (Op.load _ _) _ _ _ _ :: _) _ _); refine wpList_load_mid rfl 41 (.tmp 3) rfl g 0 rfl LX _ (unhide HRX) Try.underlying41 rfl (unhide HIX) ?_)
    | (with_reducible (show wpList _ _ _ (Oper.mk _ (Op.store _ _ _) _ _ _ _ :: _) _ _); refine store_list rfl (.tmp 2) (.tmp 46) rfl (w.heap.size + 1) LX rfl rfl (unhide H14) rfl (unhide HLX) (unhide HWX) ?_; rintro W9 q1 q2; have Q9 := hide q1; have B9 := hide (below_touch (unhide B4) q2 (unhide B4).size (fun k hk => by omega)); clear q1 q2))
  refine bodyPost_ret (unhide RES _ _ (unhide Q9) rfl) rfl ?_
  exact unhide FR _ (unhide B9)
set_option maxRecDepth 100000 in
set_option maxHeartbeats 8000000 in
theorem bareFetched_ref {w : World} {m : Mg} (hk : m.kd = 3) : Calls Try.prog 15 #[.agg (mgL m).toArray] w fun e w' => BrP w (bareFetched m) e w' := by
  have k1 : (m.kd == 1) = false := beq_eq_false_iff_ne.2 (by omega)
  have k2 : (m.kd == 2) = false := beq_eq_false_iff_ne.2 (by omega)
  have k3 : (m.kd == 3) = true := beq_iff_eq.2 hk
  clear hk
  have hb2 := ((Below.refl w.heap.size w).alloc (Nat.le_refl _) (.cells (mgL m).toArray 41)).alloc (by simp) (.cells (mgL mg0).toArray 41)
  have H0 := hide (heap_old (.cells (mgL mg0).toArray 41) (heap_new w (.cells (mgL m).toArray 41)))
  have H1 := hide (heap_new (w.alloc (.cells (mgL m).toArray 41)) (.cells (mgL mg0).toArray 41))
  have hz1 : (w.alloc (.cells (mgL m).toArray 41)).heap.size = w.heap.size + 1 := by simp
  rw [hz1] at H1
  have hs2 : ((w.alloc (.cells (mgL m).toArray 41)).alloc (.cells (mgL mg0).toArray 41)).heap.size = w.heap.size + 2 := by simp
  have hs3 : w.heap.size + 2 ≤ ((w.alloc (.cells (mgL m).toArray 41)).alloc (.cells (mgL mg0).toArray 41)).heap.size := by omega
  clear hs2
  have HB2 := hide hb2
  clear hb2 hz1
  obtain ⟨LH, hLH⟩ : ∃ LH : List Value, LH = mgL (hdM m.kd m.fr m.tt m.co m.er) := ⟨_, rfl⟩
  have HIH : Hid ((Try.prog.info? 41).map (·.size) = some LH.length) := hide (by rw [hLH]; exact info_mg _)
  have HWH : Hid (LH.toArray.all (·.oneCell') = true) := hide (by rw [hLH]; exact mg_one _)
  have HLH : Hid (LH.length = 59) := hide (by rw [hLH]; rfl)
  have HEQ := hide hLH
  clear hLH
  go_enter Try.func15, Try.ntmps15
  go_upto_region 1 with fail
  change Code.wp _ _ _ _ ((w.alloc (.cells (mgL m).toArray 41)).alloc (.cells (mgL mg0).toArray 41))
  generalize (w.alloc (.cells (mgL m).toArray 41)).alloc (.cells (mgL mg0).toArray 41) = W2 at *
  have y0 : W2.cell? ⟨w.heap.size, 0, none⟩ = some (.int .i64 m.kd) := cell_of (unhide H0) 0
  have y1 : W2.cell? ⟨w.heap.size, 1, none⟩ = some (.int .i64 m.fr) := cell_of (unhide H0) 1
  have y2 : W2.cell? ⟨w.heap.size, 2, none⟩ = some (.int .i64 m.tt) := cell_of (unhide H0) 2
  have y3 : W2.cell? ⟨w.heap.size, 3, none⟩ = some (.int .i64 m.co) := cell_of (unhide H0) 3
  have y4 : W2.cell? ⟨w.heap.size, 4, none⟩ = some (.int .i64 m.er) := cell_of (unhide H0) 4
  have AL := hide ((Below.refl W2.heap.size W2).alloc (Nat.le_refl _) (.cells (mgL mg0).toArray 41))
  go_upto_region 2 with (with_reducible (show wpList _ _ _ (Oper.mk _ (Op.store _ _ _) _ _ _ _ :: _) _ _); refine store_box 41 rfl (.tmp 3) (.tmp 14) rfl W2.heap.size LH rfl (by rw [unhide HEQ]; kernel_rfl) (heap_new W2 _) (by rw [unhide HLH]; kernel_rfl) (unhide HIH) (unhide HWH) ?_; rintro W3 q1 q2; have Q3 := hide q1; have T3 := hide q2; clear q1 q2)
  have H03 := hide ((unhide T3).keep (below_keep (unhide AL) (unhide H0)) (by omega))
  have H13 := hide ((unhide T3).keep (below_keep (unhide AL) (unhide H1)) (by omega))
  have B3 := hide (below_touch ((unhide HB2).trans ((unhide AL).mono (by omega))) (unhide T3) (by have := (unhide AL).size; omega) (fun k hk => by omega))
  clear T3 H0 H1 HB2 AL y0 y1 y2 y3 y4
  generalize W2.heap.size = g at *
  have y0 : W3.cell? ⟨w.heap.size, 0, none⟩ = some (.int .i64 m.kd) := cell_of (unhide H03) 0
  have HRP := hide (range_of (o := 20) (ds := [.int .i64 m.g1, .int .i64 m.g2, .int .i64 m.g3, .int .i64 m.g4, .bool m.gd, .int .i64 m.g5, .int .i64 m.g6, .int .i64 m.g7, .int .i64 m.g8, .slice m.ga m.gb.length m.gc]) (unhide H03) (part_at (m := m) (o := 20) (n := 10) (L := [.int .i64 m.g1, .int .i64 m.g2, .int .i64 m.g3, .int .i64 m.g4, .bool m.gd, .int .i64 m.g5, .int .i64 m.g6, .int .i64 m.g7, .int .i64 m.g8, .slice m.ga m.gb.length m.gc]) rfl))
  have HOC : Hid (([.int .i64 m.g1, .int .i64 m.g2, .int .i64 m.g3, .int .i64 m.g4, .bool m.gd, .int .i64 m.g5, .int .i64 m.g6, .int .i64 m.g7, .int .i64 m.g8, .slice m.ga m.gb.length m.gc] : List Value).toArray.all (·.oneCell') = true) := hide (by simp [Value.oneCell'])
  have HLY : Hid (lay LH.toArray 20 [.int .i64 m.g1, .int .i64 m.g2, .int .i64 m.g3, .int .i64 m.g4, .bool m.gd, .int .i64 m.g5, .int .i64 m.g6, .int .i64 m.g7, .int .i64 m.g8, .slice m.ga m.gb.length m.gc] = (mgL (bareFetched m)).toArray) := hide (by rw [unhide HEQ]; exact lay_bareFetched m)
  obtain ⟨DS, hDS⟩ : ∃ DS : List Value, DS = [.int .i64 m.g1, .int .i64 m.g2, .int .i64 m.g3, .int .i64 m.g4, .bool m.gd, .int .i64 m.g5, .int .i64 m.g6, .int .i64 m.g7, .int .i64 m.g8, .slice m.ga m.gb.length m.gc] := ⟨_, rfl⟩
  rw [← hDS] at HRP HOC HLY
  have HDL : Hid (DS.length = 10) := hide (by rw [hDS]; rfl)
  clear hDS
  have HSZ : Hid (LH.toArray.size = 59) := hide (by rw [unhide HEQ]; rfl)
  obtain ⟨LN, hLN⟩ : ∃ LN : List Value, LN = mgL (bareFetched m) := ⟨_, rfl⟩
  rw [← hLN] at HLY
  have HNQ := hide hLN
  clear hLN HIH HWH HLH HEQ
  go_upto_region 16 with (first
    | (with_reducible (show wpList _ _ _ (Oper.mk _ (Op.load _ _) _ _ _ _ :: _) _ _); refine wpList_load_mid rfl 31 (.tmp 38) rfl w.heap.size 20 rfl DS _ (unhide HRP) Try.underlying31 rfl (by rw [info_p3, unhide HDL]) ?_)
    | (with_reducible (show wpList _ _ _ (Oper.mk _ (Op.store _ _ _) _ _ _ _ :: _) _ _); refine store_part 31 41 rfl (.tmp 40) (.tmp 39) rfl g 20 DS rfl rfl LN (unhide Q3) (by rw [unhide HDL, unhide HSZ]; decide) (by rw [info_p3, unhide HDL]) (unhide HOC) (unhide HLY) ?_; rintro W4 q1 q2; have Q4 := hide q1; have H14 := hide (q2.keep (unhide H13) (by omega)); have B4 := hide (below_touch (unhide B3) q2 (unhide B3).size (fun k hk => by omega)); clear q1 q2))
  clear H03 H13 B3 Q3 y0 HRP HOC HLY HDL HSZ
  rw [unhide HNQ] at Q4
  clear HNQ
  have HIX := hide (info_mg (bareFetched m))
  have HRX := hide (range_of (o := 0) (ds := mgL (bareFetched m)) (unhide Q4) (fun j v hv => by rw [Nat.zero_add]; exact hv))
  have HLX : Hid ((mgL (bareFetched m)).length = 59) := hide rfl
  have HWX : Hid ((mgL (bareFetched m)).toArray.all (·.oneCell') = true) := hide (mg_one (bareFetched m))
  have RES : Hid (∀ (Y : World) (tmps : Array Value), Y.heap[w.heap.size + 1]? = some (.cells (mgL (bareFetched m)).toArray 41) → tmps[2]?.getD undef = .pointer (some ⟨w.heap.size + 1, 0, none⟩) → (results Try.f15 tmps).run Try.prog Y = .ok (.agg (mgL (bareFetched m)).toArray) Y) := hide (fun Y tmps h ht => res_bare h ht)
  have FR : Hid (∀ Y : World, Below w.heap.size w Y → BrP w (bareFetched m) (.returned (.agg (mgL (bareFetched m)).toArray)) Y) := hide (fun Y h => ⟨rfl, h⟩)
  generalize mgL (bareFetched m) = LX at *
  go_wp2_with (first
    | (with_reducible (show wpList _ _ _ (Oper.mk _ (Op.load _ _) _ _ _ _ :: _) _ _); refine wpList_load_mid rfl 41 (.tmp 3) rfl g 0 rfl LX _ (unhide HRX) Try.underlying41 rfl (unhide HIX) ?_)
    | (with_reducible (show wpList _ _ _ (Oper.mk _ (Op.store _ _ _) _ _ _ _ :: _) _ _); refine store_list rfl (.tmp 2) (.tmp 46) rfl (w.heap.size + 1) LX rfl rfl (unhide H14) rfl (unhide HLX) (unhide HWX) ?_; rintro W9 q1 q2; have Q9 := hide q1; have B9 := hide (below_touch (unhide B4) q2 (unhide B4).size (fun k hk => by omega)); clear q1 q2))
  refine bodyPost_ret (unhide RES _ _ (unhide Q9) rfl) rfl ?_
  exact unhide FR _ (unhide B9)
set_option maxRecDepth 100000 in
set_option maxHeartbeats 8000000 in
theorem bareCmd_ref {w : World} {m : Mg} (hk : m.kd = 4) : Calls Try.prog 15 #[.agg (mgL m).toArray] w fun e w' => BrP w (bareCmd m) e w' := by
  have k1 : (m.kd == 1) = false := beq_eq_false_iff_ne.2 (by omega)
  have k2 : (m.kd == 2) = false := beq_eq_false_iff_ne.2 (by omega)
  have k3 : (m.kd == 3) = false := beq_eq_false_iff_ne.2 (by omega)
  have k4 : (m.kd == 4) = true := beq_iff_eq.2 hk
  clear hk
  have hb2 := ((Below.refl w.heap.size w).alloc (Nat.le_refl _) (.cells (mgL m).toArray 41)).alloc (by simp) (.cells (mgL mg0).toArray 41)
  have H0 := hide (heap_old (.cells (mgL mg0).toArray 41) (heap_new w (.cells (mgL m).toArray 41)))
  have H1 := hide (heap_new (w.alloc (.cells (mgL m).toArray 41)) (.cells (mgL mg0).toArray 41))
  have hz1 : (w.alloc (.cells (mgL m).toArray 41)).heap.size = w.heap.size + 1 := by simp
  rw [hz1] at H1
  have hs2 : ((w.alloc (.cells (mgL m).toArray 41)).alloc (.cells (mgL mg0).toArray 41)).heap.size = w.heap.size + 2 := by simp
  have hs3 : w.heap.size + 2 ≤ ((w.alloc (.cells (mgL m).toArray 41)).alloc (.cells (mgL mg0).toArray 41)).heap.size := by omega
  clear hs2
  have HB2 := hide hb2
  clear hb2 hz1
  obtain ⟨LH, hLH⟩ : ∃ LH : List Value, LH = mgL (hdM m.kd m.fr m.tt m.co m.er) := ⟨_, rfl⟩
  have HIH : Hid ((Try.prog.info? 41).map (·.size) = some LH.length) := hide (by rw [hLH]; exact info_mg _)
  have HWH : Hid (LH.toArray.all (·.oneCell') = true) := hide (by rw [hLH]; exact mg_one _)
  have HLH : Hid (LH.length = 59) := hide (by rw [hLH]; rfl)
  have HEQ := hide hLH
  clear hLH
  go_enter Try.func15, Try.ntmps15
  go_upto_region 1 with fail
  change Code.wp _ _ _ _ ((w.alloc (.cells (mgL m).toArray 41)).alloc (.cells (mgL mg0).toArray 41))
  generalize (w.alloc (.cells (mgL m).toArray 41)).alloc (.cells (mgL mg0).toArray 41) = W2 at *
  have y0 : W2.cell? ⟨w.heap.size, 0, none⟩ = some (.int .i64 m.kd) := cell_of (unhide H0) 0
  have y1 : W2.cell? ⟨w.heap.size, 1, none⟩ = some (.int .i64 m.fr) := cell_of (unhide H0) 1
  have y2 : W2.cell? ⟨w.heap.size, 2, none⟩ = some (.int .i64 m.tt) := cell_of (unhide H0) 2
  have y3 : W2.cell? ⟨w.heap.size, 3, none⟩ = some (.int .i64 m.co) := cell_of (unhide H0) 3
  have y4 : W2.cell? ⟨w.heap.size, 4, none⟩ = some (.int .i64 m.er) := cell_of (unhide H0) 4
  have AL := hide ((Below.refl W2.heap.size W2).alloc (Nat.le_refl _) (.cells (mgL mg0).toArray 41))
  go_upto_region 2 with (with_reducible (show wpList _ _ _ (Oper.mk _ (Op.store _ _ _) _ _ _ _ :: _) _ _); refine store_box 41 rfl (.tmp 3) (.tmp 14) rfl W2.heap.size LH rfl (by rw [unhide HEQ]; kernel_rfl) (heap_new W2 _) (by rw [unhide HLH]; kernel_rfl) (unhide HIH) (unhide HWH) ?_; rintro W3 q1 q2; have Q3 := hide q1; have T3 := hide q2; clear q1 q2)
  have H03 := hide ((unhide T3).keep (below_keep (unhide AL) (unhide H0)) (by omega))
  have H13 := hide ((unhide T3).keep (below_keep (unhide AL) (unhide H1)) (by omega))
  have B3 := hide (below_touch ((unhide HB2).trans ((unhide AL).mono (by omega))) (unhide T3) (by have := (unhide AL).size; omega) (fun k hk => by omega))
  clear T3 H0 H1 HB2 AL y0 y1 y2 y3 y4
  generalize W2.heap.size = g at *
  have y0 : W3.cell? ⟨w.heap.size, 0, none⟩ = some (.int .i64 m.kd) := cell_of (unhide H03) 0
  have HRP := hide (range_of (o := 30) (ds := [.int .i64 m.c.kd, .int .i64 m.c.nd, .int .i64 m.c.pt, .int .i64 m.c.ep, .int .i64 m.c.ve, .slice m.c.a m.c.l.length m.c.k]) (unhide H03) (part_at (m := m) (o := 30) (n := 6) (L := [.int .i64 m.c.kd, .int .i64 m.c.nd, .int .i64 m.c.pt, .int .i64 m.c.ep, .int .i64 m.c.ve, .slice m.c.a m.c.l.length m.c.k]) rfl))
  have HOC : Hid (([.int .i64 m.c.kd, .int .i64 m.c.nd, .int .i64 m.c.pt, .int .i64 m.c.ep, .int .i64 m.c.ve, .slice m.c.a m.c.l.length m.c.k] : List Value).toArray.all (·.oneCell') = true) := hide (by simp [Value.oneCell'])
  have HLY : Hid (lay LH.toArray 30 [.int .i64 m.c.kd, .int .i64 m.c.nd, .int .i64 m.c.pt, .int .i64 m.c.ep, .int .i64 m.c.ve, .slice m.c.a m.c.l.length m.c.k] = (mgL (bareCmd m)).toArray) := hide (by rw [unhide HEQ]; exact lay_bareCmd m)
  obtain ⟨DS, hDS⟩ : ∃ DS : List Value, DS = [.int .i64 m.c.kd, .int .i64 m.c.nd, .int .i64 m.c.pt, .int .i64 m.c.ep, .int .i64 m.c.ve, .slice m.c.a m.c.l.length m.c.k] := ⟨_, rfl⟩
  rw [← hDS] at HRP HOC HLY
  have HDL : Hid (DS.length = 6) := hide (by rw [hDS]; rfl)
  clear hDS
  have HSZ : Hid (LH.toArray.size = 59) := hide (by rw [unhide HEQ]; rfl)
  obtain ⟨LN, hLN⟩ : ∃ LN : List Value, LN = mgL (bareCmd m) := ⟨_, rfl⟩
  rw [← hLN] at HLY
  have HNQ := hide hLN
  clear hLN HIH HWH HLH HEQ
  go_upto_region 16 with (first
    | (with_reducible (show wpList _ _ _ (Oper.mk _ (Op.load _ _) _ _ _ _ :: _) _ _); refine wpList_load_mid rfl 34 (.tmp 43) rfl w.heap.size 30 rfl DS _ (unhide HRP) Try.underlying34 rfl (by rw [info_p4, unhide HDL]) ?_)
    | (with_reducible (show wpList _ _ _ (Oper.mk _ (Op.store _ _ _) _ _ _ _ :: _) _ _); refine store_part 34 41 rfl (.tmp 45) (.tmp 44) rfl g 30 DS rfl rfl LN (unhide Q3) (by rw [unhide HDL, unhide HSZ]; decide) (by rw [info_p4, unhide HDL]) (unhide HOC) (unhide HLY) ?_; rintro W4 q1 q2; have Q4 := hide q1; have H14 := hide (q2.keep (unhide H13) (by omega)); have B4 := hide (below_touch (unhide B3) q2 (unhide B3).size (fun k hk => by omega)); clear q1 q2))
  clear H03 H13 B3 Q3 y0 HRP HOC HLY HDL HSZ
  rw [unhide HNQ] at Q4
  clear HNQ
  have HIX := hide (info_mg (bareCmd m))
  have HRX := hide (range_of (o := 0) (ds := mgL (bareCmd m)) (unhide Q4) (fun j v hv => by rw [Nat.zero_add]; exact hv))
  have HLX : Hid ((mgL (bareCmd m)).length = 59) := hide rfl
  have HWX : Hid ((mgL (bareCmd m)).toArray.all (·.oneCell') = true) := hide (mg_one (bareCmd m))
  have RES : Hid (∀ (Y : World) (tmps : Array Value), Y.heap[w.heap.size + 1]? = some (.cells (mgL (bareCmd m)).toArray 41) → tmps[2]?.getD undef = .pointer (some ⟨w.heap.size + 1, 0, none⟩) → (results Try.f15 tmps).run Try.prog Y = .ok (.agg (mgL (bareCmd m)).toArray) Y) := hide (fun Y tmps h ht => res_bare h ht)
  have FR : Hid (∀ Y : World, Below w.heap.size w Y → BrP w (bareCmd m) (.returned (.agg (mgL (bareCmd m)).toArray)) Y) := hide (fun Y h => ⟨rfl, h⟩)
  generalize mgL (bareCmd m) = LX at *
  go_wp2_with (first
    | (with_reducible (show wpList _ _ _ (Oper.mk _ (Op.load _ _) _ _ _ _ :: _) _ _); refine wpList_load_mid rfl 41 (.tmp 3) rfl g 0 rfl LX _ (unhide HRX) Try.underlying41 rfl (unhide HIX) ?_)
    | (with_reducible (show wpList _ _ _ (Oper.mk _ (Op.store _ _ _) _ _ _ _ :: _) _ _); refine store_list rfl (.tmp 2) (.tmp 46) rfl (w.heap.size + 1) LX rfl rfl (unhide H14) rfl (unhide HLX) (unhide HWX) ?_; rintro W9 q1 q2; have Q9 := hide q1; have B9 := hide (below_touch (unhide B4) q2 (unhide B4).size (fun k hk => by omega)); clear q1 q2))
  refine bodyPost_ret (unhide RES _ _ (unhide Q9) rfl) rfl ?_
  exact unhide FR _ (unhide B9)
set_option maxRecDepth 100000 in
set_option maxHeartbeats 8000000 in
theorem bareOthers_ref {w : World} {m : Mg} (hk : ¬ m.kd = 1 ∧ ¬ m.kd = 2 ∧ ¬ m.kd = 3 ∧ ¬ m.kd = 4) : Calls Try.prog 15 #[.agg (mgL m).toArray] w fun e w' => BrP w (bareOthers m) e w' := by
  have k1 : (m.kd == 1) = false := beq_eq_false_iff_ne.2 (by omega)
  have k2 : (m.kd == 2) = false := beq_eq_false_iff_ne.2 (by omega)
  have k3 : (m.kd == 3) = false := beq_eq_false_iff_ne.2 (by omega)
  have k4 : (m.kd == 4) = false := beq_eq_false_iff_ne.2 (by omega)
  clear hk
  have hb2 := ((Below.refl w.heap.size w).alloc (Nat.le_refl _) (.cells (mgL m).toArray 41)).alloc (by simp) (.cells (mgL mg0).toArray 41)
  have H0 := hide (heap_old (.cells (mgL mg0).toArray 41) (heap_new w (.cells (mgL m).toArray 41)))
  have H1 := hide (heap_new (w.alloc (.cells (mgL m).toArray 41)) (.cells (mgL mg0).toArray 41))
  have hz1 : (w.alloc (.cells (mgL m).toArray 41)).heap.size = w.heap.size + 1 := by simp
  rw [hz1] at H1
  have hs2 : ((w.alloc (.cells (mgL m).toArray 41)).alloc (.cells (mgL mg0).toArray 41)).heap.size = w.heap.size + 2 := by simp
  have hs3 : w.heap.size + 2 ≤ ((w.alloc (.cells (mgL m).toArray 41)).alloc (.cells (mgL mg0).toArray 41)).heap.size := by omega
  clear hs2
  have HB2 := hide hb2
  clear hb2 hz1
  obtain ⟨LH, hLH⟩ : ∃ LH : List Value, LH = mgL (hdM m.kd m.fr m.tt m.co m.er) := ⟨_, rfl⟩
  have HIH : Hid ((Try.prog.info? 41).map (·.size) = some LH.length) := hide (by rw [hLH]; exact info_mg _)
  have HWH : Hid (LH.toArray.all (·.oneCell') = true) := hide (by rw [hLH]; exact mg_one _)
  have HLH : Hid (LH.length = 59) := hide (by rw [hLH]; rfl)
  have HEQ := hide hLH
  clear hLH
  go_enter Try.func15, Try.ntmps15
  go_upto_region 1 with fail
  change Code.wp _ _ _ _ ((w.alloc (.cells (mgL m).toArray 41)).alloc (.cells (mgL mg0).toArray 41))
  generalize (w.alloc (.cells (mgL m).toArray 41)).alloc (.cells (mgL mg0).toArray 41) = W2 at *
  have y0 : W2.cell? ⟨w.heap.size, 0, none⟩ = some (.int .i64 m.kd) := cell_of (unhide H0) 0
  have y1 : W2.cell? ⟨w.heap.size, 1, none⟩ = some (.int .i64 m.fr) := cell_of (unhide H0) 1
  have y2 : W2.cell? ⟨w.heap.size, 2, none⟩ = some (.int .i64 m.tt) := cell_of (unhide H0) 2
  have y3 : W2.cell? ⟨w.heap.size, 3, none⟩ = some (.int .i64 m.co) := cell_of (unhide H0) 3
  have y4 : W2.cell? ⟨w.heap.size, 4, none⟩ = some (.int .i64 m.er) := cell_of (unhide H0) 4
  have AL := hide ((Below.refl W2.heap.size W2).alloc (Nat.le_refl _) (.cells (mgL mg0).toArray 41))
  go_upto_region 2 with (with_reducible (show wpList _ _ _ (Oper.mk _ (Op.store _ _ _) _ _ _ _ :: _) _ _); refine store_box 41 rfl (.tmp 3) (.tmp 14) rfl W2.heap.size LH rfl (by rw [unhide HEQ]; kernel_rfl) (heap_new W2 _) (by rw [unhide HLH]; kernel_rfl) (unhide HIH) (unhide HWH) ?_; rintro W3 q1 q2; have Q3 := hide q1; have T3 := hide q2; clear q1 q2)
  have H03 := hide ((unhide T3).keep (below_keep (unhide AL) (unhide H0)) (by omega))
  have H13 := hide ((unhide T3).keep (below_keep (unhide AL) (unhide H1)) (by omega))
  have B3 := hide (below_touch ((unhide HB2).trans ((unhide AL).mono (by omega))) (unhide T3) (by have := (unhide AL).size; omega) (fun k hk => by omega))
  clear T3 H0 H1 HB2 AL y0 y1 y2 y3 y4
  generalize W2.heap.size = g at *
  have y0 : W3.cell? ⟨w.heap.size, 0, none⟩ = some (.int .i64 m.kd) := cell_of (unhide H03) 0
  clear Q3 HIH HWH HLH HEQ
  obtain ⟨LN1, hLN⟩ : ∃ LN : List Value, LN = mgL { m with r1 := 0, r2 := 0, r3 := 0, r4 := 0, r5 := 0, r6 := 0, r7 := 0, rj := false, en := [], ea := none, ec := 0, sn := [], sa := none, sc := 0 } := ⟨_, rfl⟩
  obtain ⟨LP, hLP⟩ : ∃ LP : List Value, LP = mgL m := ⟨_, rfl⟩
  obtain ⟨ZD, hZD⟩ : ∃ ZD : List Value, ZD = [.int .i64 0, .int .i64 0, .int .i64 0, .int .i64 0, .int .i64 0, .int .i64 0, .int .i64 0, .bool false, .slice none 0 0, .slice none 0 0] := ⟨_, rfl⟩
  have HLY : Hid (lay LP.toArray 5 ZD = LN1.toArray) := hide (by rw [hLN, hLP, hZD]; exact lay_z1 m)
  have HZL : Hid (ZD.length = 10) := hide (by rw [hZD]; rfl)
  have HZO : Hid (ZD.toArray.all (·.oneCell') = true) := hide (by rw [hZD]; simp [Value.oneCell'])
  have HZQ := hide hZD
  have HSZ : Hid (LP.toArray.size = 59) := hide (by rw [hLP]; rfl)
  rw [← hLP] at H03
  have HNQ := hide hLN
  clear hLN hLP hZD
  go_upto_region 4 with (with_reducible (show wpList _ _ _ (Oper.mk _ (Op.store _ _ _) _ _ _ _ :: _) _ _); refine store_part 26 41 rfl (.tmp 18) (.tmp 17) rfl w.heap.size 5 ZD rfl (by rw [unhide HZQ]; kernel_rfl) LN1 (unhide H03) (by rw [unhide HZL, unhide HSZ]; decide) (by rw [info_p1, unhide HZL]) (unhide HZO) (unhide HLY) ?_; rintro X1 q1 q2; have P1 := hide q1; have R1 := hide (q2.keep (unhide H13) (by omega)); have C1 := hide (below_touch (unhide B3) q2 (unhide B3).size (fun k hk => by omega)); clear q1 q2)
  clear HLY HSZ HZL HZO HZQ H03 H13 B3
  rw [unhide HNQ] at P1
  clear HNQ
  obtain ⟨LN2, hLN⟩ : ∃ LN : List Value, LN = mgL { m with r1 := 0, r2 := 0, r3 := 0, r4 := 0, r5 := 0, r6 := 0, r7 := 0, rj := false, en := [], ea := none, ec := 0, sn := [], sa := none, sc := 0, f1 := 0, f2 := 0, f3 := 0, f4 := 0, f5 := 0 } := ⟨_, rfl⟩
  obtain ⟨LP, hLP⟩ : ∃ LP : List Value, LP = mgL { m with r1 := 0, r2 := 0, r3 := 0, r4 := 0, r5 := 0, r6 := 0, r7 := 0, rj := false, en := [], ea := none, ec := 0, sn := [], sa := none, sc := 0 } := ⟨_, rfl⟩
  obtain ⟨ZD, hZD⟩ : ∃ ZD : List Value, ZD = [.int .i64 0, .int .i64 0, .int .i64 0, .int .i64 0, .int .i64 0] := ⟨_, rfl⟩
  have HLY : Hid (lay LP.toArray 15 ZD = LN2.toArray) := hide (by rw [hLN, hLP, hZD]; exact lay_z2 m)
  have HZL : Hid (ZD.length = 5) := hide (by rw [hZD]; rfl)
  have HZO : Hid (ZD.toArray.all (·.oneCell') = true) := hide (by rw [hZD]; simp [Value.oneCell'])
  have HZQ := hide hZD
  have HSZ : Hid (LP.toArray.size = 59) := hide (by rw [hLP]; rfl)
  rw [← hLP] at P1
  have HNQ := hide hLN
  clear hLN hLP hZD
  clear y0
  go_upto_region 5 with (with_reducible (show wpList _ _ _ (Oper.mk _ (Op.store _ _ _) _ _ _ _ :: _) _ _); refine store_part 28 41 rfl (.tmp 20) (.tmp 19) rfl w.heap.size 15 ZD rfl (by rw [unhide HZQ]; kernel_rfl) LN2 (unhide P1) (by rw [unhide HZL, unhide HSZ]; decide) (by rw [info_p2, unhide HZL]) (unhide HZO) (unhide HLY) ?_; rintro X2 q1 q2; have P2 := hide q1; have R2 := hide (q2.keep (unhide R1) (by omega)); have C2 := hide (below_touch (unhide C1) q2 (unhide C1).size (fun k hk => by omega)); clear q1 q2)
  clear HLY HSZ HZL HZO HZQ P1 R1 C1
  rw [unhide HNQ] at P2
  clear HNQ
  obtain ⟨LN3, hLN⟩ : ∃ LN : List Value, LN = mgL { m with r1 := 0, r2 := 0, r3 := 0, r4 := 0, r5 := 0, r6 := 0, r7 := 0, rj := false, en := [], ea := none, ec := 0, sn := [], sa := none, sc := 0, f1 := 0, f2 := 0, f3 := 0, f4 := 0, f5 := 0, g1 := 0, g2 := 0, g3 := 0, g4 := 0, gd := false, g5 := 0, g6 := 0, g7 := 0, g8 := 0, gb := [], ga := none, gc := 0 } := ⟨_, rfl⟩
  obtain ⟨LP, hLP⟩ : ∃ LP : List Value, LP = mgL { m with r1 := 0, r2 := 0, r3 := 0, r4 := 0, r5 := 0, r6 := 0, r7 := 0, rj := false, en := [], ea := none, ec := 0, sn := [], sa := none, sc := 0, f1 := 0, f2 := 0, f3 := 0, f4 := 0, f5 := 0 } := ⟨_, rfl⟩
  obtain ⟨ZD, hZD⟩ : ∃ ZD : List Value, ZD = [.int .i64 0, .int .i64 0, .int .i64 0, .int .i64 0, .bool false, .int .i64 0, .int .i64 0, .int .i64 0, .int .i64 0, .slice none 0 0] := ⟨_, rfl⟩
  have HLY : Hid (lay LP.toArray 20 ZD = LN3.toArray) := hide (by rw [hLN, hLP, hZD]; exact lay_z3 m)
  have HZL : Hid (ZD.length = 10) := hide (by rw [hZD]; rfl)
  have HZO : Hid (ZD.toArray.all (·.oneCell') = true) := hide (by rw [hZD]; simp [Value.oneCell'])
  have HZQ := hide hZD
  have HSZ : Hid (LP.toArray.size = 59) := hide (by rw [hLP]; rfl)
  rw [← hLP] at P2
  have HNQ := hide hLN
  clear hLN hLP hZD
  go_upto_region 6 with (with_reducible (show wpList _ _ _ (Oper.mk _ (Op.store _ _ _) _ _ _ _ :: _) _ _); refine store_part 31 41 rfl (.tmp 22) (.tmp 21) rfl w.heap.size 20 ZD rfl (by rw [unhide HZQ]; kernel_rfl) LN3 (unhide P2) (by rw [unhide HZL, unhide HSZ]; decide) (by rw [info_p3, unhide HZL]) (unhide HZO) (unhide HLY) ?_; rintro X3 q1 q2; have P3 := hide q1; have R3 := hide (q2.keep (unhide R2) (by omega)); have C3 := hide (below_touch (unhide C2) q2 (unhide C2).size (fun k hk => by omega)); clear q1 q2)
  clear HLY HSZ HZL HZO HZQ P2 R2 C2
  rw [unhide HNQ] at P3
  clear HNQ
  obtain ⟨LN4, hLN⟩ : ∃ LN : List Value, LN = mgL (bareOthers m) := ⟨_, rfl⟩
  obtain ⟨LP, hLP⟩ : ∃ LP : List Value, LP = mgL { m with r1 := 0, r2 := 0, r3 := 0, r4 := 0, r5 := 0, r6 := 0, r7 := 0, rj := false, en := [], ea := none, ec := 0, sn := [], sa := none, sc := 0, f1 := 0, f2 := 0, f3 := 0, f4 := 0, f5 := 0, g1 := 0, g2 := 0, g3 := 0, g4 := 0, gd := false, g5 := 0, g6 := 0, g7 := 0, g8 := 0, gb := [], ga := none, gc := 0 } := ⟨_, rfl⟩
  obtain ⟨ZD, hZD⟩ : ∃ ZD : List Value, ZD = [.int .i64 0, .int .i64 0, .int .i64 0, .int .i64 0, .int .i64 0, .slice none 0 0] := ⟨_, rfl⟩
  have HLY : Hid (lay LP.toArray 30 ZD = LN4.toArray) := hide (by rw [hLN, hLP, hZD]; exact lay_z4 m)
  have HZL : Hid (ZD.length = 6) := hide (by rw [hZD]; rfl)
  have HZO : Hid (ZD.toArray.all (·.oneCell') = true) := hide (by rw [hZD]; simp [Value.oneCell'])
  have HZQ := hide hZD
  have HSZ : Hid (LP.toArray.size = 59) := hide (by rw [hLP]; rfl)
  rw [← hLP] at P3
  have HNQ := hide hLN
  clear hLN hLP hZD
  go_upto_region 7 with (with_reducible (show wpList _ _ _ (Oper.mk _ (Op.store _ _ _) _ _ _ _ :: _) _ _); refine store_part 34 41 rfl (.tmp 24) (.tmp 23) rfl w.heap.size 30 ZD rfl (by rw [unhide HZQ]; kernel_rfl) LN4 (unhide P3) (by rw [unhide HZL, unhide HSZ]; decide) (by rw [info_p4, unhide HZL]) (unhide HZO) (unhide HLY) ?_; rintro X4 q1 q2; have P4 := hide q1; have R4 := hide (q2.keep (unhide R3) (by omega)); have C4 := hide (below_touch (unhide C3) q2 (unhide C3).size (fun k hk => by omega)); clear q1 q2)
  clear HLY HSZ HZL HZO HZQ P3 R3 C3
  rw [unhide HNQ] at P4
  clear HNQ
  have HIX := hide (info_mg (bareOthers m))
  have HRX := hide (range_of (o := 0) (ds := mgL (bareOthers m)) (unhide P4) (fun j v hv => by rw [Nat.zero_add]; exact hv))
  have HLX : Hid ((mgL (bareOthers m)).length = 59) := hide rfl
  have HWX : Hid ((mgL (bareOthers m)).toArray.all (·.oneCell') = true) := hide (mg_one (bareOthers m))
  have RES : Hid (∀ (Y : World) (tmps : Array Value), Y.heap[w.heap.size + 1]? = some (.cells (mgL (bareOthers m)).toArray 41) → tmps[2]?.getD undef = .pointer (some ⟨w.heap.size + 1, 0, none⟩) → (results Try.f15 tmps).run Try.prog Y = .ok (.agg (mgL (bareOthers m)).toArray) Y) := hide (fun Y tmps h ht => res_bare h ht)
  have FR : Hid (∀ Y : World, Below w.heap.size w Y → BrP w (bareOthers m) (.returned (.agg (mgL (bareOthers m)).toArray)) Y) := hide (fun Y h => ⟨rfl, h⟩)
  generalize mgL (bareOthers m) = LX at *
  go_wp2_with (first
    | (with_reducible (show wpList _ _ _ (Oper.mk _ (Op.load _ _) _ _ _ _ :: _) _ _); refine wpList_load_mid rfl 41 (.tmp 1) rfl w.heap.size 0 rfl LX _ (unhide HRX) Try.underlying41 rfl (unhide HIX) ?_)
    | (with_reducible (show wpList _ _ _ (Oper.mk _ (Op.store _ _ _) _ _ _ _ :: _) _ _); refine store_list rfl (.tmp 2) (.tmp 25) rfl (w.heap.size + 1) LX rfl rfl (unhide R4) rfl (unhide HLX) (unhide HWX) ?_; rintro W9 q1 q2; have Q9 := hide q1; have B9 := hide (below_touch (unhide C4) q2 (unhide C4).size (fun k hk => by omega)); clear q1 q2))
  refine bodyPost_ret (unhide RES _ _ (unhide Q9) rfl) rfl ?_
  exact unhide FR _ (unhide B9)
/-- Bare of any message. -/
theorem bare_ref {w : World} {m : Mg} : Calls Try.prog 15 #[.agg (mgL m).toArray] w fun e w' => BrP w (bareM m) e w' := by
  by_cases h1 : m.kd = 1
  · rw [bareM_1 h1]; exact bareRaft_ref h1
  by_cases h2 : m.kd = 2
  · rw [bareM_2 h2]; exact bareFetch_ref h2
  by_cases h3 : m.kd = 3
  · rw [bareM_3 h3]; exact bareFetched_ref h3
  by_cases h4 : m.kd = 4
  · rw [bareM_4 h4]; exact bareCmd_ref h4
  · rw [bareM_5 ⟨h1, h2, h3, h4⟩]; exact bareOthers_ref ⟨h1, h2, h3, h4⟩
end Go.Proofs.Ytblmondkdcpkaaa
