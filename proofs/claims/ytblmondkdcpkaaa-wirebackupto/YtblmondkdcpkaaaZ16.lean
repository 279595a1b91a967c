/-
  wire's reader: head. Conditions: the reader as it lies.
-/
import Derived.Test.YtblmondkdcpkaaaZ15

namespace Go.Proofs.Ytblmondkdcpkaaa
open Go.RowKit
set_option linter.unusedVariables false
set_option maxRecDepth 100000 in
set_option maxHeartbeats 8000000 in
theorem whead_any {w : World} {b : Nat} {a : Option Addr} {cap : Nat} {t : List Nat} {x1 x2 x3 x4 x5 : Int} {s0 s1 s2 s3 s4 s5 : Rst} (h : RdAt 97 w b a cap t s0) (e1 : rI t s0 = (x1, s1)) (e2 : rI t s1 = (x2, s2)) (e3 : rI t s2 = (x3, s3)) (e4 : rI t s3 = (x4, s4)) (e5 : rI t s4 = (x5, s5)) :
    Calls Try.prog 48 #[.agg #[.pointer (some ⟨b, 0, none⟩)]] w fun e w' => HdP w b a cap t s5 x1 x2 x3 x4 x5 e w' := by
  have hb0 := (Below.refl w.heap.size w).alloc (Nat.le_refl _) (.cells #[.pointer (some ⟨b, 0, none⟩)] 84)
  have hbl := h.lt
  have hb1 : Below w.heap.size w ((w.alloc (.cells #[.pointer (some ⟨b, 0, none⟩)] 84)).alloc (.cells (mgL mg0).toArray 41)) := hb0.alloc hb0.size _
  have hX := heap_old (.cells (mgL mg0).toArray 41) (heap_new w (.cells #[.pointer (some ⟨b, 0, none⟩)] 84))
  have h1 := h.later hb1
  have HLW : Hid (∀ x, a = some x → 0 < t.length → x.block < w.heap.size) := hide (fun x hx h0 => by
    obtain ⟨b', o', e', hb', _⟩ := h.text 0 h0
    rw [hx] at e'
    cases e'
    exact hb')
  have hZ := heap_new (w.alloc (.cells #[.pointer (some ⟨b, 0, none⟩)] 84)) (.cells (mgL mg0).toArray 41)
  have hz0 : (w.alloc (.cells #[.pointer (some ⟨b, 0, none⟩)] 84)).heap.size = w.heap.size + 1 := by simp
  rw [hz0] at hZ
  have hs1 : w.heap.size + 2 ≤ ((w.alloc (.cells #[.pointer (some ⟨b, 0, none⟩)] 84)).alloc (.cells (mgL mg0).toArray 41)).heap.size := by simp
  have E1 := hide e1
  have E2 := hide e2
  have E3 := hide e3
  have E4 := hide e4
  have E5 := hide e5
  clear h hb0 e1 e2 e3 e4 e5 hz0
  go_enter Try.func48, Try.ntmps48
  go_upto_region 1 with fail
  change Code.wp _ _ _ _ ((w.alloc (.cells #[.pointer (some ⟨b, 0, none⟩)] 84)).alloc (.cells (mgL mg0).toArray 41))
  generalize (w.alloc (.cells #[.pointer (some ⟨b, 0, none⟩)] 84)).alloc (.cells (mgL mg0).toArray 41) = W1 at *
  have c0 := cell_of hX 0
  simp at c0
  have bD := (Below.refl W1.heap.size W1).drew
  have C := hide (h1.later bD)
  have Y := hide (below_keep bD hX)
  have Z := hide (below_keep bD hZ)
  have T : Hid (Touch (fun q => q = b ∨ w.heap.size ≤ q) w W1.drew) := hide ((Touch.of_below hb1).trans (Touch.of_below bD))
  have hs : w.heap.size + 2 ≤ W1.drew.heap.size := Nat.le_trans hs1 bD.size
  clear h1 hX hZ hb1 bD
  refine wp_region_held_drew (S := fun w' => w'.cell? ⟨w.heap.size, 0, none⟩ = some (.pointer (some ⟨b, 0, none⟩))) (by kernel_rfl) (by simp [c0]) (fun hHeld => ?_)
  generalize W1.drew = U0 at *
  refine wpAnyH_take (i := 0) (v := .pointer (some ⟨w.heap.size, 0, none⟩)) rfl (by kernel_rfl) (by kernel_rfl) (by kernel_rfl) (fun _ _ _ h => h) (Or.inl ⟨by rfl, by intro w' hSw; (try dsimp only at hSw); go_simp⟩) (by assumption) ?_
  refine wpAnyH_take (i := 1) (v := .pointer (some ⟨b, 0, none⟩)) rfl (by kernel_rfl) (by kernel_rfl) (by kernel_rfl) (fun _ _ _ h => h) (Or.inl ⟨by rfl, by intro w' hSw; (try dsimp only at hSw); go_simp⟩) (by assumption) ?_
  refine wpAnyH_take (i := 3) (v := .pointer (some ⟨w.heap.size, 0, none⟩)) rfl (by kernel_rfl) (by kernel_rfl) (by kernel_rfl) (fun _ _ _ h => h) (Or.inl ⟨by rfl, by intro w' hSw; (try dsimp only at hSw); go_simp⟩) (by assumption) ?_
  refine wpAnyH_take (i := 4) (v := .pointer (some ⟨b, 0, none⟩)) rfl (by kernel_rfl) (by kernel_rfl) (by kernel_rfl) (fun _ _ _ h => h) (Or.inl ⟨by rfl, by intro w' hSw; (try dsimp only at hSw); go_simp⟩) (by assumption) ?_
  refine wpAnyH_take (i := 6) (v := .pointer (some ⟨w.heap.size, 0, none⟩)) rfl (by kernel_rfl) (by kernel_rfl) (by kernel_rfl) (fun _ _ _ h => h) (Or.inl ⟨by rfl, by intro w' hSw; (try dsimp only at hSw); go_simp⟩) (by assumption) ?_
  refine wpAnyH_take (i := 7) (v := .pointer (some ⟨b, 0, none⟩)) rfl (by kernel_rfl) (by kernel_rfl) (by kernel_rfl) (fun _ _ _ h => h) (Or.inl ⟨by rfl, by intro w' hSw; (try dsimp only at hSw); go_simp⟩) (by assumption) ?_
  refine wpAnyH_take (i := 9) (v := .pointer (some ⟨w.heap.size, 0, none⟩)) rfl (by kernel_rfl) (by kernel_rfl) (by kernel_rfl) (fun _ _ _ h => h) (Or.inl ⟨by rfl, by intro w' hSw; (try dsimp only at hSw); go_simp⟩) (by assumption) ?_
  refine wpAnyH_take (i := 10) (v := .pointer (some ⟨b, 0, none⟩)) rfl (by kernel_rfl) (by kernel_rfl) (by kernel_rfl) (fun _ _ _ h => h) (Or.inl ⟨by rfl, by intro w' hSw; (try dsimp only at hSw); go_simp⟩) (by assumption) ?_
  refine wpAnyH_take (i := 12) (v := .pointer (some ⟨w.heap.size, 0, none⟩)) rfl (by kernel_rfl) (by kernel_rfl) (by kernel_rfl) (fun _ _ _ h => h) (Or.inl ⟨by rfl, by intro w' hSw; (try dsimp only at hSw); go_simp⟩) (by assumption) ?_
  refine wpAnyH_take (i := 13) (v := .pointer (some ⟨b, 0, none⟩)) rfl (by kernel_rfl) (by kernel_rfl) (by kernel_rfl) (fun _ _ _ h => h) (Or.inl ⟨by rfl, by intro w' hSw; (try dsimp only at hSw); go_simp⟩) (by assumption) ?_
  refine wpAnyH_ready (rs := [2, 16]) (by kernel_rfl) (by simp) ?_
  refine AllReadyH.cons rfl (fun K hK => ?_) ?_
  · go_simp
    refine (rint_later (unhide C) (unhide E1) (Below.refl _ _)).mono ?_
    rintro e u1 ⟨rfl, r, t⟩
    have C_1 := hide r
    have Y_1 := hide (t.keep (unhide Y) (by omega))
    have Z_1 := hide (t.keep (unhide Z) (by omega))
    have T_1 := hide ((unhide T).trans (t.mono (fun q hq => .inl hq)))
    have hs_1 : w.heap.size + 2 ≤ u1.heap.size := Nat.le_trans hs t.size
    refine hK.out _ _ ?_ (fun hHeld => ?_)
    · (try dsimp only); exact cell_of (unhide Y_1) 0
    clear hK K r t
    refine wpAnyH_ready (rs := [5, 16]) (by kernel_rfl) (by simp) ?_
    refine AllReadyH.cons rfl (fun K hK => ?_) ?_
    · go_simp
      refine (rint_later (unhide C_1) (unhide E2) (Below.refl _ _)).mono ?_
      rintro e u2 ⟨rfl, r, t⟩
      have C_2 := hide r
      have Y_2 := hide (t.keep (unhide Y_1) (by omega))
      have Z_2 := hide (t.keep (unhide Z_1) (by omega))
      have T_2 := hide ((unhide T_1).trans (t.mono (fun q hq => .inl hq)))
      have hs_2 : w.heap.size + 2 ≤ u2.heap.size := Nat.le_trans hs_1 t.size
      refine hK.out _ _ ?_ (fun hHeld => ?_)
      · (try dsimp only); exact cell_of (unhide Y_2) 0
      clear hK K r t
      refine wpAnyH_ready (rs := [8, 16]) (by kernel_rfl) (by simp) ?_
      refine AllReadyH.cons rfl (fun K hK => ?_) ?_
      · go_simp
        refine (rint_later (unhide C_2) (unhide E3) (Below.refl _ _)).mono ?_
        rintro e u3 ⟨rfl, r, t⟩
        have C_3 := hide r
        have Y_3 := hide (t.keep (unhide Y_2) (by omega))
        have Z_3 := hide (t.keep (unhide Z_2) (by omega))
        have T_3 := hide ((unhide T_2).trans (t.mono (fun q hq => .inl hq)))
        have hs_3 : w.heap.size + 2 ≤ u3.heap.size := Nat.le_trans hs_2 t.size
        refine hK.out _ _ ?_ (fun hHeld => ?_)
        · (try dsimp only); exact cell_of (unhide Y_3) 0
        clear hK K r t
        refine wpAnyH_ready (rs := [11, 16]) (by kernel_rfl) (by simp) ?_
        refine AllReadyH.cons rfl (fun K hK => ?_) ?_
        · go_simp
          refine (rint_later (unhide C_3) (unhide E4) (Below.refl _ _)).mono ?_
          rintro e u4 ⟨rfl, r, t⟩
          have C_4 := hide r
          have Y_4 := hide (t.keep (unhide Y_3) (by omega))
          have Z_4 := hide (t.keep (unhide Z_3) (by omega))
          have T_4 := hide ((unhide T_3).trans (t.mono (fun q hq => .inl hq)))
          have hs_4 : w.heap.size + 2 ≤ u4.heap.size := Nat.le_trans hs_3 t.size
          refine hK.out _ _ ?_ (fun hHeld => ?_)
          · (try dsimp only); exact cell_of (unhide Y_4) 0
          clear hK K r t
          refine wpAnyH_ready (rs := [14, 16]) (by kernel_rfl) (by simp) ?_
          refine AllReadyH.cons rfl (fun K hK => ?_) ?_
          · go_simp
            refine (rint_later (unhide C_4) (unhide E5) (Below.refl _ _)).mono ?_
            rintro e u5 ⟨rfl, r, t⟩
            have C_5 := hide r
            have Y_5 := hide (t.keep (unhide Y_4) (by omega))
            have Z_5 := hide (t.keep (unhide Z_4) (by omega))
            have T_5 := hide ((unhide T_4).trans (t.mono (fun q hq => .inl hq)))
            have hs_5 : w.heap.size + 2 ≤ u5.heap.size := Nat.le_trans hs_4 t.size
            refine hK.out _ _ ?_ (fun hHeld => ?_)
            · (try dsimp only); exact cell_of (unhide Y_5) 0
            clear hK K r t
            refine wpAnyH_take (i := 15) (v := .agg #[.int .i64 x1, .int .i64 x2, .int .i64 x3, .int .i64 x4, .int .i64 x5, .int .i64 0, .int .i64 0, .int .i64 0, .int .i64 0, .int .i64 0, .int .i64 0, .int .i64 0, .bool false, .slice none 0 0, .slice none 0 0, .int .i64 0, .int .i64 0, .int .i64 0, .int .i64 0, .int .i64 0, .int .i64 0, .int .i64 0, .int .i64 0, .int .i64 0, .bool false, .int .i64 0, .int .i64 0, .int .i64 0, .int .i64 0, .slice none 0 0, .int .i64 0, .int .i64 0, .int .i64 0, .int .i64 0, .int .i64 0, .slice none 0 0, .int .i64 0, .int .i64 0, .int .u64 0, .int .i64 0, .int .i64 0, .bool false, .bool false, .bool false, .slice none 0 0, .int .i64 0, .int .i64 0, .int .i64 0, .int .i64 0, .int .u64 0, .int .i64 0, .bool false, .int .i64 0, .int .i64 0, .int .i64 0, .slice none 0 0, .slice none 0 0, .slice none 0 0, .int .i64 0]) rfl (by kernel_rfl) (by kernel_rfl) (by kernel_rfl) (fun _ _ _ h => h) (Or.inl ⟨by rfl, by intro w' hSw; (try dsimp only at hSw); go_simp⟩) (by assumption) ?_
            refine wpAnyH_ready (rs := [16]) (by kernel_rfl) (by simp) ?_
            refine AllReadyH.cons rfl (fun K hK => ?_) ?_
            · go_simp
              have A_6 := hide (heap_new u5 (.cells (mgL mg0).toArray 41))
              have Y_6 := hide (heap_old (.cells (mgL mg0).toArray 41) (unhide Y_5))
              have Z_6 := hide (heap_old (.cells (mgL mg0).toArray 41) (unhide Z_5))
              have C_6 := hide ((unhide C_5).later ((Below.refl u5.heap.size u5).alloc (Nat.le_refl _) (.cells (mgL mg0).toArray 41)))
              have T_6 : Hid (Touch (fun q => q = b ∨ w.heap.size ≤ q) w (u5.alloc (.cells (mgL mg0).toArray 41))) := hide ((unhide T_5).trans (Touch.of_below ((Below.refl u5.heap.size u5).alloc (Nat.le_refl _) (.cells (mgL mg0).toArray 41))))
              have hs_6 : w.heap.size + 2 ≤ (u5.alloc (.cells (mgL mg0).toArray 41)).heap.size := by simp; omega
              refine hK.out _ _ ?_ (fun hHeld => ?_)
              · (try dsimp only); exact cell_of (unhide Y_6) 0
              clear hK K
              change wpAnyH _ _ _ _ _ _ _ _ (u5.alloc (.cells (mgL mg0).toArray 41))
              generalize u5.alloc (.cells (mgL mg0).toArray 41) = u6 at *
              have hz_6 : w.heap.size + 2 ≤ u5.heap.size := hs_5
              generalize u5.heap.size = z6 at *
              have hh_6 : u6.cell? ⟨w.heap.size, 0, none⟩ = some (.pointer (some ⟨b, 0, none⟩)) := cell_of (unhide Y_6) 0
              refine wpAnyH_ready (rs := [17]) (by kernel_rfl) (by simp) ?_
              refine AllReadyH.cons rfl (fun K hK => ?_) ?_
              · refine wp_store_mid 41 (.tmp 3) (.tmp 19) rfl z6 0 (mgL (hdM x1 x2 x3 x4 x5)).toArray rfl rfl (there_of (unhide A_6) (by rw [mg_size, mg_size]; decide)) (info_mga _) (mg_one _) ?_
                obtain ⟨q1, q2⟩ := heap_setCells (mgL (hdM x1 x2 x3 x4 x5)) 0 u6 _ (unhide A_6)
                rw [lay_all (vs := mgL (hdM x1 x2 x3 x4 x5)) (by rw [mg_size]; rfl)] at q1
                have YY := hide (q2.keep (unhide Y_6) (by omega))
                have ZZ := hide (q2.keep (unhide Z_6) (by omega))
                have AA := hide q1
                have CC := hide ((unhide C_6).keep q2 (by omega) (fun h0 x hx e => by have := unhide HLW x hx h0; omega))
                have TT := hide ((unhide T_6).trans (q2.mono (fun q hq => .inr (by omega))))
                have hsz : w.heap.size + 2 ≤ (u6.setCells z6 0 (mgL (hdM x1 x2 x3 x4 x5))).heap.size := Nat.le_trans hs_6 q2.size
                refine hK.out _ _ ?_ (fun hHeld => ?_)
                · (try dsimp only); exact cell_of (unhide YY) 0
                clear hK K q1 q2
                change wpAnyH _ _ _ _ _ _ _ _ (u6.setCells z6 0 (mgL (hdM x1 x2 x3 x4 x5)))
                generalize u6.setCells z6 0 (mgL (hdM x1 x2 x3 x4 x5)) = V at *
                generalize hal : z6 = al at *
                refine wpAnyH_done (by kernel_rfl) ?_ _
                have y0 : V.cell? ⟨al, 0, none⟩ = some (.int .i64 x1) := cell_of (unhide AA) 0
                by_cases hk : kndE x1 = 0
                · have KK := hide (needKind_ok V hk)
                  have HKK := hide hk
                  have HRG := hide (range_of (o := 0) (ds := mgL (hdM x1 x2 x3 x4 x5)) (unhide AA) (fun j v hv => by rw [Nat.zero_add]; exact hv))
                  clear hk
                  go_wp2_with fail
                  refine (unhide KK).mono ?_
                  rintro e V2 ⟨rfl, rfl⟩
                  have HT6 := hide (there_of (o := 0) (n := (mgL (hdM x1 x2 x3 x4 x5)).toArray.size) (unhide ZZ) (by rw [mg_size, mg_size]; decide))
                  have HI1 := hide (info_mg (hdM x1 x2 x3 x4 x5))
                  have HI2 := hide (info_mga (hdM x1 x2 x3 x4 x5))
                  have HO2 := hide (mg_one (hdM x1 x2 x3 x4 x5))
                  have HLN : Hid ((mgL mg0).toArray.size = (mgL (hdM x1 x2 x3 x4 x5)).length) := hide rfl
                  generalize hLL : mgL (hdM x1 x2 x3 x4 x5) = LL at *
                  have HLL := hide hLL
                  clear hLL
                  go_wp2_with (first
                    | (with_reducible (show wpList _ _ _ (Oper.mk _ (Op.load _ _) _ _ _ _ :: _) _ _); refine wpList_load_mid rfl 41 (.tmp 3) rfl al 0 rfl LL _ (unhide HRG) Try.underlying41 rfl (unhide HI1) ?_)
                    | (with_reducible (show wpList _ _ _ (Oper.mk _ (Op.store _ _ _) _ _ _ _ :: _) _ _); refine wpList_store_mid rfl 41 (.tmp 2) (.tmp 23) rfl (w.heap.size + 1) 0 LL.toArray rfl rfl (unhide HT6) (unhide HI2) (unhide HO2) ?_))
                  obtain ⟨q1, q2⟩ := heap_setCells LL 0 V2 _ (unhide ZZ)
                  rw [lay_all (unhide HLN)] at q1
                  have FF : Hid (HdP w b a cap t s5 x1 x2 x3 x4 x5 (.returned (.agg LL.toArray)) (V2.setCells (w.heap.size + 1) 0 LL)) := hide ⟨(unhide TT).trans (q2.mono (fun q hq => .inr (by omega))), fun _ => ⟨by rw [unhide HLL], (unhide CC).keep q2 (by omega) (fun h0 x hx e => by have := unhide HLW x hx h0; omega)⟩, fun h => absurd (unhide HKK) h⟩
                  have RES : ∀ tmps : Array Value, tmps[2]?.getD undef = .pointer (some ⟨w.heap.size + 1, 0, none⟩) → (results Try.f48 tmps).run Try.prog (V2.setCells (w.heap.size + 1) 0 LL) = .ok (.agg LL.toArray) (V2.setCells (w.heap.size + 1) 0 LL) := fun tmps ht => by
                    have e := unhide HLL
                    rw [← e] at q1 ⊢
                    exact res_head q1 ht
                  refine bodyPost_ret (RES _ rfl) rfl ?_
                  exact unhide FF
                · have KK := hide (needKind_no V hk)
                  have HKK := hide hk
                  clear hk
                  go_wp2_with fail
                  refine (unhide KK).mono ?_
                  rintro e V2 ⟨rfl, rfl⟩
                  go_wp2
                  exact ⟨rfl, unhide TT, fun h => absurd h (unhide HKK), fun _ => rfl⟩
              exact AllReadyH.nil
            exact AllReadyH.nil
          refine AllReadyH.cons rfl (fun K hK => ?_) ?_
          · go_simp
            have A_7 := hide (heap_new u4 (.cells (mgL mg0).toArray 41))
            have Y_7 := hide (heap_old (.cells (mgL mg0).toArray 41) (unhide Y_4))
            have Z_7 := hide (heap_old (.cells (mgL mg0).toArray 41) (unhide Z_4))
            have C_7 := hide ((unhide C_4).later ((Below.refl u4.heap.size u4).alloc (Nat.le_refl _) (.cells (mgL mg0).toArray 41)))
            have T_7 : Hid (Touch (fun q => q = b ∨ w.heap.size ≤ q) w (u4.alloc (.cells (mgL mg0).toArray 41))) := hide ((unhide T_4).trans (Touch.of_below ((Below.refl u4.heap.size u4).alloc (Nat.le_refl _) (.cells (mgL mg0).toArray 41))))
            have hs_7 : w.heap.size + 2 ≤ (u4.alloc (.cells (mgL mg0).toArray 41)).heap.size := by simp; omega
            refine hK.out _ _ ?_ (fun hHeld => ?_)
            · (try dsimp only); exact cell_of (unhide Y_7) 0
            clear hK K
            change wpAnyH _ _ _ _ _ _ _ _ (u4.alloc (.cells (mgL mg0).toArray 41))
            generalize u4.alloc (.cells (mgL mg0).toArray 41) = u7 at *
            have hz_7 : w.heap.size + 2 ≤ u4.heap.size := hs_4
            generalize u4.heap.size = z7 at *
            have hh_7 : u7.cell? ⟨w.heap.size, 0, none⟩ = some (.pointer (some ⟨b, 0, none⟩)) := cell_of (unhide Y_7) 0
            refine wpAnyH_ready (rs := [14]) (by kernel_rfl) (by simp) ?_
            refine AllReadyH.cons rfl (fun K hK => ?_) ?_
            · go_simp
              refine (rint_later (unhide C_7) (unhide E5) (Below.refl _ _)).mono ?_
              rintro e u8 ⟨rfl, r, t⟩
              have C_8 := hide r
              have Y_8 := hide (t.keep (unhide Y_7) (by omega))
              have Z_8 := hide (t.keep (unhide Z_7) (by omega))
              have T_8 := hide ((unhide T_7).trans (t.mono (fun q hq => .inl hq)))
              have hs_8 : w.heap.size + 2 ≤ u8.heap.size := Nat.le_trans hs_7 t.size
              have A_8 := hide (t.keep (unhide A_7) (by omega))
              refine hK.out _ _ ?_ (fun hHeld => ?_)
              · (try dsimp only); exact cell_of (unhide Y_8) 0
              clear hK K r t
              refine wpAnyH_take (i := 15) (v := .agg #[.int .i64 x1, .int .i64 x2, .int .i64 x3, .int .i64 x4, .int .i64 x5, .int .i64 0, .int .i64 0, .int .i64 0, .int .i64 0, .int .i64 0, .int .i64 0, .int .i64 0, .bool false, .slice none 0 0, .slice none 0 0, .int .i64 0, .int .i64 0, .int .i64 0, .int .i64 0, .int .i64 0, .int .i64 0, .int .i64 0, .int .i64 0, .int .i64 0, .bool false, .int .i64 0, .int .i64 0, .int .i64 0, .int .i64 0, .slice none 0 0, .int .i64 0, .int .i64 0, .int .i64 0, .int .i64 0, .int .i64 0, .slice none 0 0, .int .i64 0, .int .i64 0, .int .u64 0, .int .i64 0, .int .i64 0, .bool false, .bool false, .bool false, .slice none 0 0, .int .i64 0, .int .i64 0, .int .i64 0, .int .i64 0, .int .u64 0, .int .i64 0, .bool false, .int .i64 0, .int .i64 0, .int .i64 0, .slice none 0 0, .slice none 0 0, .slice none 0 0, .int .i64 0]) rfl (by kernel_rfl) (by kernel_rfl) (by kernel_rfl) (fun _ _ _ h => h) (Or.inl ⟨by rfl, by intro w' hSw; (try dsimp only at hSw); go_simp⟩) (by assumption) ?_
              refine wpAnyH_ready (rs := [17]) (by kernel_rfl) (by simp) ?_
              refine AllReadyH.cons rfl (fun K hK => ?_) ?_
              · refine wp_store_mid 41 (.tmp 3) (.tmp 19) rfl z7 0 (mgL (hdM x1 x2 x3 x4 x5)).toArray rfl rfl (there_of (unhide A_8) (by rw [mg_size, mg_size]; decide)) (info_mga _) (mg_one _) ?_
                obtain ⟨q1, q2⟩ := heap_setCells (mgL (hdM x1 x2 x3 x4 x5)) 0 u8 _ (unhide A_8)
                rw [lay_all (vs := mgL (hdM x1 x2 x3 x4 x5)) (by rw [mg_size]; rfl)] at q1
                have YY := hide (q2.keep (unhide Y_8) (by omega))
                have ZZ := hide (q2.keep (unhide Z_8) (by omega))
                have AA := hide q1
                have CC := hide ((unhide C_8).keep q2 (by omega) (fun h0 x hx e => by have := unhide HLW x hx h0; omega))
                have TT := hide ((unhide T_8).trans (q2.mono (fun q hq => .inr (by omega))))
                have hsz : w.heap.size + 2 ≤ (u8.setCells z7 0 (mgL (hdM x1 x2 x3 x4 x5))).heap.size := Nat.le_trans hs_8 q2.size
                refine hK.out _ _ ?_ (fun hHeld => ?_)
                · (try dsimp only); exact cell_of (unhide YY) 0
                clear hK K q1 q2
                change wpAnyH _ _ _ _ _ _ _ _ (u8.setCells z7 0 (mgL (hdM x1 x2 x3 x4 x5)))
                generalize u8.setCells z7 0 (mgL (hdM x1 x2 x3 x4 x5)) = V at *
                generalize hal : z7 = al at *
                refine wpAnyH_done (by kernel_rfl) ?_ _
                have y0 : V.cell? ⟨al, 0, none⟩ = some (.int .i64 x1) := cell_of (unhide AA) 0
                by_cases hk : kndE x1 = 0
                · have KK := hide (needKind_ok V hk)
                  have HKK := hide hk
                  have HRG := hide (range_of (o := 0) (ds := mgL (hdM x1 x2 x3 x4 x5)) (unhide AA) (fun j v hv => by rw [Nat.zero_add]; exact hv))
                  clear hk
                  go_wp2_with fail
                  refine (unhide KK).mono ?_
                  rintro e V2 ⟨rfl, rfl⟩
                  have HT6 := hide (there_of (o := 0) (n := (mgL (hdM x1 x2 x3 x4 x5)).toArray.size) (unhide ZZ) (by rw [mg_size, mg_size]; decide))
                  have HI1 := hide (info_mg (hdM x1 x2 x3 x4 x5))
                  have HI2 := hide (info_mga (hdM x1 x2 x3 x4 x5))
                  have HO2 := hide (mg_one (hdM x1 x2 x3 x4 x5))
                  have HLN : Hid ((mgL mg0).toArray.size = (mgL (hdM x1 x2 x3 x4 x5)).length) := hide rfl
                  generalize hLL : mgL (hdM x1 x2 x3 x4 x5) = LL at *
                  have HLL := hide hLL
                  clear hLL
                  go_wp2_with (first
                    | (with_reducible (show wpList _ _ _ (Oper.mk _ (Op.load _ _) _ _ _ _ :: _) _ _); refine wpList_load_mid rfl 41 (.tmp 3) rfl al 0 rfl LL _ (unhide HRG) Try.underlying41 rfl (unhide HI1) ?_)
                    | (with_reducible (show wpList _ _ _ (Oper.mk _ (Op.store _ _ _) _ _ _ _ :: _) _ _); refine wpList_store_mid rfl 41 (.tmp 2) (.tmp 23) rfl (w.heap.size + 1) 0 LL.toArray rfl rfl (unhide HT6) (unhide HI2) (unhide HO2) ?_))
                  obtain ⟨q1, q2⟩ := heap_setCells LL 0 V2 _ (unhide ZZ)
                  rw [lay_all (unhide HLN)] at q1
                  have FF : Hid (HdP w b a cap t s5 x1 x2 x3 x4 x5 (.returned (.agg LL.toArray)) (V2.setCells (w.heap.size + 1) 0 LL)) := hide ⟨(unhide TT).trans (q2.mono (fun q hq => .inr (by omega))), fun _ => ⟨by rw [unhide HLL], (unhide CC).keep q2 (by omega) (fun h0 x hx e => by have := unhide HLW x hx h0; omega)⟩, fun h => absurd (unhide HKK) h⟩
                  have RES : ∀ tmps : Array Value, tmps[2]?.getD undef = .pointer (some ⟨w.heap.size + 1, 0, none⟩) → (results Try.f48 tmps).run Try.prog (V2.setCells (w.heap.size + 1) 0 LL) = .ok (.agg LL.toArray) (V2.setCells (w.heap.size + 1) 0 LL) := fun tmps ht => by
                    have e := unhide HLL
                    rw [← e] at q1 ⊢
                    exact res_head q1 ht
                  refine bodyPost_ret (RES _ rfl) rfl ?_
                  exact unhide FF
                · have KK := hide (needKind_no V hk)
                  have HKK := hide hk
                  clear hk
                  go_wp2_with fail
                  refine (unhide KK).mono ?_
                  rintro e V2 ⟨rfl, rfl⟩
                  go_wp2
                  exact ⟨rfl, unhide TT, fun h => absurd h (unhide HKK), fun _ => rfl⟩
              exact AllReadyH.nil
            exact AllReadyH.nil
          exact AllReadyH.nil
        refine AllReadyH.cons rfl (fun K hK => ?_) ?_
        · go_simp
          have A_9 := hide (heap_new u3 (.cells (mgL mg0).toArray 41))
          have Y_9 := hide (heap_old (.cells (mgL mg0).toArray 41) (unhide Y_3))
          have Z_9 := hide (heap_old (.cells (mgL mg0).toArray 41) (unhide Z_3))
          have C_9 := hide ((unhide C_3).later ((Below.refl u3.heap.size u3).alloc (Nat.le_refl _) (.cells (mgL mg0).toArray 41)))
          have T_9 : Hid (Touch (fun q => q = b ∨ w.heap.size ≤ q) w (u3.alloc (.cells (mgL mg0).toArray 41))) := hide ((unhide T_3).trans (Touch.of_below ((Below.refl u3.heap.size u3).alloc (Nat.le_refl _) (.cells (mgL mg0).toArray 41))))
          have hs_9 : w.heap.size + 2 ≤ (u3.alloc (.cells (mgL mg0).toArray 41)).heap.size := by simp; omega
          refine hK.out _ _ ?_ (fun hHeld => ?_)
          · (try dsimp only); exact cell_of (unhide Y_9) 0
          clear hK K
          change wpAnyH _ _ _ _ _ _ _ _ (u3.alloc (.cells (mgL mg0).toArray 41))
          generalize u3.alloc (.cells (mgL mg0).toArray 41) = u9 at *
          have hz_9 : w.heap.size + 2 ≤ u3.heap.size := hs_3
          generalize u3.heap.size = z9 at *
          have hh_9 : u9.cell? ⟨w.heap.size, 0, none⟩ = some (.pointer (some ⟨b, 0, none⟩)) := cell_of (unhide Y_9) 0
          refine wpAnyH_ready (rs := [11]) (by kernel_rfl) (by simp) ?_
          refine AllReadyH.cons rfl (fun K hK => ?_) ?_
          · go_simp
            refine (rint_later (unhide C_9) (unhide E4) (Below.refl _ _)).mono ?_
            rintro e u10 ⟨rfl, r, t⟩
            have C_10 := hide r
            have Y_10 := hide (t.keep (unhide Y_9) (by omega))
            have Z_10 := hide (t.keep (unhide Z_9) (by omega))
            have T_10 := hide ((unhide T_9).trans (t.mono (fun q hq => .inl hq)))
            have hs_10 : w.heap.size + 2 ≤ u10.heap.size := Nat.le_trans hs_9 t.size
            have A_10 := hide (t.keep (unhide A_9) (by omega))
            refine hK.out _ _ ?_ (fun hHeld => ?_)
            · (try dsimp only); exact cell_of (unhide Y_10) 0
            clear hK K r t
            refine wpAnyH_ready (rs := [14]) (by kernel_rfl) (by simp) ?_
            refine AllReadyH.cons rfl (fun K hK => ?_) ?_
            · go_simp
              refine (rint_later (unhide C_10) (unhide E5) (Below.refl _ _)).mono ?_
              rintro e u11 ⟨rfl, r, t⟩
              have C_11 := hide r
              have Y_11 := hide (t.keep (unhide Y_10) (by omega))
              have Z_11 := hide (t.keep (unhide Z_10) (by omega))
              have T_11 := hide ((unhide T_10).trans (t.mono (fun q hq => .inl hq)))
              have hs_11 : w.heap.size + 2 ≤ u11.heap.size := Nat.le_trans hs_10 t.size
              have A_11 := hide (t.keep (unhide A_10) (by omega))
              refine hK.out _ _ ?_ (fun hHeld => ?_)
              · (try dsimp only); exact cell_of (unhide Y_11) 0
              clear hK K r t
              refine wpAnyH_take (i := 15) (v := .agg #[.int .i64 x1, .int .i64 x2, .int .i64 x3, .int .i64 x4, .int .i64 x5, .int .i64 0, .int .i64 0, .int .i64 0, .int .i64 0, .int .i64 0, .int .i64 0, .int .i64 0, .bool false, .slice none 0 0, .slice none 0 0, .int .i64 0, .int .i64 0, .int .i64 0, .int .i64 0, .int .i64 0, .int .i64 0, .int .i64 0, .int .i64 0, .int .i64 0, .bool false, .int .i64 0, .int .i64 0, .int .i64 0, .int .i64 0, .slice none 0 0, .int .i64 0, .int .i64 0, .int .i64 0, .int .i64 0, .int .i64 0, .slice none 0 0, .int .i64 0, .int .i64 0, .int .u64 0, .int .i64 0, .int .i64 0, .bool false, .bool false, .bool false, .slice none 0 0, .int .i64 0, .int .i64 0, .int .i64 0, .int .i64 0, .int .u64 0, .int .i64 0, .bool false, .int .i64 0, .int .i64 0, .int .i64 0, .slice none 0 0, .slice none 0 0, .slice none 0 0, .int .i64 0]) rfl (by kernel_rfl) (by kernel_rfl) (by kernel_rfl) (fun _ _ _ h => h) (Or.inl ⟨by rfl, by intro w' hSw; (try dsimp only at hSw); go_simp⟩) (by assumption) ?_
              refine wpAnyH_ready (rs := [17]) (by kernel_rfl) (by simp) ?_
              refine AllReadyH.cons rfl (fun K hK => ?_) ?_
              · refine wp_store_mid 41 (.tmp 3) (.tmp 19) rfl z9 0 (mgL (hdM x1 x2 x3 x4 x5)).toArray rfl rfl (there_of (unhide A_11) (by rw [mg_size, mg_size]; decide)) (info_mga _) (mg_one _) ?_
                obtain ⟨q1, q2⟩ := heap_setCells (mgL (hdM x1 x2 x3 x4 x5)) 0 u11 _ (unhide A_11)
                rw [lay_all (vs := mgL (hdM x1 x2 x3 x4 x5)) (by rw [mg_size]; rfl)] at q1
                have YY := hide (q2.keep (unhide Y_11) (by omega))
                have ZZ := hide (q2.keep (unhide Z_11) (by omega))
                have AA := hide q1
                have CC := hide ((unhide C_11).keep q2 (by omega) (fun h0 x hx e => by have := unhide HLW x hx h0; omega))
                have TT := hide ((unhide T_11).trans (q2.mono (fun q hq => .inr (by omega))))
                have hsz : w.heap.size + 2 ≤ (u11.setCells z9 0 (mgL (hdM x1 x2 x3 x4 x5))).heap.size := Nat.le_trans hs_11 q2.size
                refine hK.out _ _ ?_ (fun hHeld => ?_)
                · (try dsimp only); exact cell_of (unhide YY) 0
                clear hK K q1 q2
                change wpAnyH _ _ _ _ _ _ _ _ (u11.setCells z9 0 (mgL (hdM x1 x2 x3 x4 x5)))
                generalize u11.setCells z9 0 (mgL (hdM x1 x2 x3 x4 x5)) = V at *
                generalize hal : z9 = al at *
                refine wpAnyH_done (by kernel_rfl) ?_ _
                have y0 : V.cell? ⟨al, 0, none⟩ = some (.int .i64 x1) := cell_of (unhide AA) 0
                by_cases hk : kndE x1 = 0
                · have KK := hide (needKind_ok V hk)
                  have HKK := hide hk
                  have HRG := hide (range_of (o := 0) (ds := mgL (hdM x1 x2 x3 x4 x5)) (unhide AA) (fun j v hv => by rw [Nat.zero_add]; exact hv))
                  clear hk
                  go_wp2_with fail
                  refine (unhide KK).mono ?_
                  rintro e V2 ⟨rfl, rfl⟩
                  have HT6 := hide (there_of (o := 0) (n := (mgL (hdM x1 x2 x3 x4 x5)).toArray.size) (unhide ZZ) (by rw [mg_size, mg_size]; decide))
                  have HI1 := hide (info_mg (hdM x1 x2 x3 x4 x5))
                  have HI2 := hide (info_mga (hdM x1 x2 x3 x4 x5))
                  have HO2 := hide (mg_one (hdM x1 x2 x3 x4 x5))
                  have HLN : Hid ((mgL mg0).toArray.size = (mgL (hdM x1 x2 x3 x4 x5)).length) := hide rfl
                  generalize hLL : mgL (hdM x1 x2 x3 x4 x5) = LL at *
                  have HLL := hide hLL
                  clear hLL
                  go_wp2_with (first
                    | (with_reducible (show wpList _ _ _ (Oper.mk _ (Op.load _ _) _ _ _ _ :: _) _ _); refine wpList_load_mid rfl 41 (.tmp 3) rfl al 0 rfl LL _ (unhide HRG) Try.underlying41 rfl (unhide HI1) ?_)
                    | (with_reducible (show wpList _ _ _ (Oper.mk _ (Op.store _ _ _) _ _ _ _ :: _) _ _); refine wpList_store_mid rfl 41 (.tmp 2) (.tmp 23) rfl (w.heap.size + 1) 0 LL.toArray rfl rfl (unhide HT6) (unhide HI2) (unhide HO2) ?_))
                  obtain ⟨q1, q2⟩ := heap_setCells LL 0 V2 _ (unhide ZZ)
                  rw [lay_all (unhide HLN)] at q1
                  have FF : Hid (HdP w b a cap t s5 x1 x2 x3 x4 x5 (.returned (.agg LL.toArray)) (V2.setCells (w.heap.size + 1) 0 LL)) := hide ⟨(unhide TT).trans (q2.mono (fun q hq => .inr (by omega))), fun _ => ⟨by rw [unhide HLL], (unhide CC).keep q2 (by omega) (fun h0 x hx e => by have := unhide HLW x hx h0; omega)⟩, fun h => absurd (unhide HKK) h⟩
                  have RES : ∀ tmps : Array Value, tmps[2]?.getD undef = .pointer (some ⟨w.heap.size + 1, 0, none⟩) → (results Try.f48 tmps).run Try.prog (V2.setCells (w.heap.size + 1) 0 LL) = .ok (.agg LL.toArray) (V2.setCells (w.heap.size + 1) 0 LL) := fun tmps ht => by
                    have e := unhide HLL
                    rw [← e] at q1 ⊢
                    exact res_head q1 ht
                  refine bodyPost_ret (RES _ rfl) rfl ?_
                  exact unhide FF
                · have KK := hide (needKind_no V hk)
                  have HKK := hide hk
                  clear hk
                  go_wp2_with fail
                  refine (unhide KK).mono ?_
                  rintro e V2 ⟨rfl, rfl⟩
                  go_wp2
                  exact ⟨rfl, unhide TT, fun h => absurd h (unhide HKK), fun _ => rfl⟩
              exact AllReadyH.nil
            exact AllReadyH.nil
          exact AllReadyH.nil
        exact AllReadyH.nil
      refine AllReadyH.cons rfl (fun K hK => ?_) ?_
      · go_simp
        have A_12 := hide (heap_new u2 (.cells (mgL mg0).toArray 41))
        have Y_12 := hide (heap_old (.cells (mgL mg0).toArray 41) (unhide Y_2))
        have Z_12 := hide (heap_old (.cells (mgL mg0).toArray 41) (unhide Z_2))
        have C_12 := hide ((unhide C_2).later ((Below.refl u2.heap.size u2).alloc (Nat.le_refl _) (.cells (mgL mg0).toArray 41)))
        have T_12 : Hid (Touch (fun q => q = b ∨ w.heap.size ≤ q) w (u2.alloc (.cells (mgL mg0).toArray 41))) := hide ((unhide T_2).trans (Touch.of_below ((Below.refl u2.heap.size u2).alloc (Nat.le_refl _) (.cells (mgL mg0).toArray 41))))
        have hs_12 : w.heap.size + 2 ≤ (u2.alloc (.cells (mgL mg0).toArray 41)).heap.size := by simp; omega
        refine hK.out _ _ ?_ (fun hHeld => ?_)
        · (try dsimp only); exact cell_of (unhide Y_12) 0
        clear hK K
        change wpAnyH _ _ _ _ _ _ _ _ (u2.alloc (.cells (mgL mg0).toArray 41))
        generalize u2.alloc (.cells (mgL mg0).toArray 41) = u12 at *
        have hz_12 : w.heap.size + 2 ≤ u2.heap.size := hs_2
        generalize u2.heap.size = z12 at *
        have hh_12 : u12.cell? ⟨w.heap.size, 0, none⟩ = some (.pointer (some ⟨b, 0, none⟩)) := cell_of (unhide Y_12) 0
        refine wpAnyH_ready (rs := [8]) (by kernel_rfl) (by simp) ?_
        refine AllReadyH.cons rfl (fun K hK => ?_) ?_
        · go_simp
          refine (rint_later (unhide C_12) (unhide E3) (Below.refl _ _)).mono ?_
          rintro e u13 ⟨rfl, r, t⟩
          have C_13 := hide r
          have Y_13 := hide (t.keep (unhide Y_12) (by omega))
          have Z_13 := hide (t.keep (unhide Z_12) (by omega))
          have T_13 := hide ((unhide T_12).trans (t.mono (fun q hq => .inl hq)))
          have hs_13 : w.heap.size + 2 ≤ u13.heap.size := Nat.le_trans hs_12 t.size
          have A_13 := hide (t.keep (unhide A_12) (by omega))
          refine hK.out _ _ ?_ (fun hHeld => ?_)
          · (try dsimp only); exact cell_of (unhide Y_13) 0
          clear hK K r t
          refine wpAnyH_ready (rs := [11]) (by kernel_rfl) (by simp) ?_
          refine AllReadyH.cons rfl (fun K hK => ?_) ?_
          · go_simp
            refine (rint_later (unhide C_13) (unhide E4) (Below.refl _ _)).mono ?_
            rintro e u14 ⟨rfl, r, t⟩
            have C_14 := hide r
            have Y_14 := hide (t.keep (unhide Y_13) (by omega))
            have Z_14 := hide (t.keep (unhide Z_13) (by omega))
            have T_14 := hide ((unhide T_13).trans (t.mono (fun q hq => .inl hq)))
            have hs_14 : w.heap.size + 2 ≤ u14.heap.size := Nat.le_trans hs_13 t.size
            have A_14 := hide (t.keep (unhide A_13) (by omega))
            refine hK.out _ _ ?_ (fun hHeld => ?_)
            · (try dsimp only); exact cell_of (unhide Y_14) 0
            clear hK K r t
            refine wpAnyH_ready (rs := [14]) (by kernel_rfl) (by simp) ?_
            refine AllReadyH.cons rfl (fun K hK => ?_) ?_
            · go_simp
              refine (rint_later (unhide C_14) (unhide E5) (Below.refl _ _)).mono ?_
              rintro e u15 ⟨rfl, r, t⟩
              have C_15 := hide r
              have Y_15 := hide (t.keep (unhide Y_14) (by omega))
              have Z_15 := hide (t.keep (unhide Z_14) (by omega))
              have T_15 := hide ((unhide T_14).trans (t.mono (fun q hq => .inl hq)))
              have hs_15 : w.heap.size + 2 ≤ u15.heap.size := Nat.le_trans hs_14 t.size
              have A_15 := hide (t.keep (unhide A_14) (by omega))
              refine hK.out _ _ ?_ (fun hHeld => ?_)
              · (try dsimp only); exact cell_of (unhide Y_15) 0
              clear hK K r t
              refine wpAnyH_take (i := 15) (v := .agg #[.int .i64 x1, .int .i64 x2, .int .i64 x3, .int .i64 x4, .int .i64 x5, .int .i64 0, .int .i64 0, .int .i64 0, .int .i64 0, .int .i64 0, .int .i64 0, .int .i64 0, .bool false, .slice none 0 0, .slice none 0 0, .int .i64 0, .int .i64 0, .int .i64 0, .int .i64 0, .int .i64 0, .int .i64 0, .int .i64 0, .int .i64 0, .int .i64 0, .bool false, .int .i64 0, .int .i64 0, .int .i64 0, .int .i64 0, .slice none 0 0, .int .i64 0, .int .i64 0, .int .i64 0, .int .i64 0, .int .i64 0, .slice none 0 0, .int .i64 0, .int .i64 0, .int .u64 0, .int .i64 0, .int .i64 0, .bool false, .bool false, .bool false, .slice none 0 0, .int .i64 0, .int .i64 0, .int .i64 0, .int .i64 0, .int .u64 0, .int .i64 0, .bool false, .int .i64 0, .int .i64 0, .int .i64 0, .slice none 0 0, .slice none 0 0, .slice none 0 0, .int .i64 0]) rfl (by kernel_rfl) (by kernel_rfl) (by kernel_rfl) (fun _ _ _ h => h) (Or.inl ⟨by rfl, by intro w' hSw; (try dsimp only at hSw); go_simp⟩) (by assumption) ?_
              refine wpAnyH_ready (rs := [17]) (by kernel_rfl) (by simp) ?_
              refine AllReadyH.cons rfl (fun K hK => ?_) ?_
              · refine wp_store_mid 41 (.tmp 3) (.tmp 19) rfl z12 0 (mgL (hdM x1 x2 x3 x4 x5)).toArray rfl rfl (there_of (unhide A_15) (by rw [mg_size, mg_size]; decide)) (info_mga _) (mg_one _) ?_
                obtain ⟨q1, q2⟩ := heap_setCells (mgL (hdM x1 x2 x3 x4 x5)) 0 u15 _ (unhide A_15)
                rw [lay_all (vs := mgL (hdM x1 x2 x3 x4 x5)) (by rw [mg_size]; rfl)] at q1
                have YY := hide (q2.keep (unhide Y_15) (by omega))
                have ZZ := hide (q2.keep (unhide Z_15) (by omega))
                have AA := hide q1
                have CC := hide ((unhide C_15).keep q2 (by omega) (fun h0 x hx e => by have := unhide HLW x hx h0; omega))
                have TT := hide ((unhide T_15).trans (q2.mono (fun q hq => .inr (by omega))))
                have hsz : w.heap.size + 2 ≤ (u15.setCells z12 0 (mgL (hdM x1 x2 x3 x4 x5))).heap.size := Nat.le_trans hs_15 q2.size
                refine hK.out _ _ ?_ (fun hHeld => ?_)
                · (try dsimp only); exact cell_of (unhide YY) 0
                clear hK K q1 q2
                change wpAnyH _ _ _ _ _ _ _ _ (u15.setCells z12 0 (mgL (hdM x1 x2 x3 x4 x5)))
                generalize u15.setCells z12 0 (mgL (hdM x1 x2 x3 x4 x5)) = V at *
                generalize hal : z12 = al at *
                refine wpAnyH_done (by kernel_rfl) ?_ _
                have y0 : V.cell? ⟨al, 0, none⟩ = some (.int .i64 x1) := cell_of (unhide AA) 0
                by_cases hk : kndE x1 = 0
                · have KK := hide (needKind_ok V hk)
                  have HKK := hide hk
                  have HRG := hide (range_of (o := 0) (ds := mgL (hdM x1 x2 x3 x4 x5)) (unhide AA) (fun j v hv => by rw [Nat.zero_add]; exact hv))
                  clear hk
                  go_wp2_with fail
                  refine (unhide KK).mono ?_
                  rintro e V2 ⟨rfl, rfl⟩
                  have HT6 := hide (there_of (o := 0) (n := (mgL (hdM x1 x2 x3 x4 x5)).toArray.size) (unhide ZZ) (by rw [mg_size, mg_size]; decide))
                  have HI1 := hide (info_mg (hdM x1 x2 x3 x4 x5))
                  have HI2 := hide (info_mga (hdM x1 x2 x3 x4 x5))
                  have HO2 := hide (mg_one (hdM x1 x2 x3 x4 x5))
                  have HLN : Hid ((mgL mg0).toArray.size = (mgL (hdM x1 x2 x3 x4 x5)).length) := hide rfl
                  generalize hLL : mgL (hdM x1 x2 x3 x4 x5) = LL at *
                  have HLL := hide hLL
                  clear hLL
                  go_wp2_with (first
                    | (with_reducible (show wpList _ _ _ (Oper.mk _ (Op.load _ _) _ _ _ _ :: _) _ _); refine wpList_load_mid rfl 41 (.tmp 3) rfl al 0 rfl LL _ (unhide HRG) Try.underlying41 rfl (unhide HI1) ?_)
                    | (with_reducible (show wpList _ _ _ (Oper.mk _ (Op.store _ _ _) _ _ _ _ :: _) _ _); refine wpList_store_mid rfl 41 (.tmp 2) (.tmp 23) rfl (w.heap.size + 1) 0 LL.toArray rfl rfl (unhide HT6) (unhide HI2) (unhide HO2) ?_))
                  obtain ⟨q1, q2⟩ := heap_setCells LL 0 V2 _ (unhide ZZ)
                  rw [lay_all (unhide HLN)] at q1
                  have FF : Hid (HdP w b a cap t s5 x1 x2 x3 x4 x5 (.returned (.agg LL.toArray)) (V2.setCells (w.heap.size + 1) 0 LL)) := hide ⟨(unhide TT).trans (q2.mono (fun q hq => .inr (by omega))), fun _ => ⟨by rw [unhide HLL], (unhide CC).keep q2 (by omega) (fun h0 x hx e => by have := unhide HLW x hx h0; omega)⟩, fun h => absurd (unhide HKK) h⟩
                  have RES : ∀ tmps : Array Value, tmps[2]?.getD undef = .pointer (some ⟨w.heap.size + 1, 0, none⟩) → (results Try.f48 tmps).run Try.prog (V2.setCells (w.heap.size + 1) 0 LL) = .ok (.agg LL.toArray) (V2.setCells (w.heap.size + 1) 0 LL) := fun tmps ht => by
                    have e := unhide HLL
                    rw [← e] at q1 ⊢
                    exact res_head q1 ht
                  refine bodyPost_ret (RES _ rfl) rfl ?_
                  exact unhide FF
                · have KK := hide (needKind_no V hk)
                  have HKK := hide hk
                  clear hk
                  go_wp2_with fail
                  refine (unhide KK).mono ?_
                  rintro e V2 ⟨rfl, rfl⟩
                  go_wp2
                  exact ⟨rfl, unhide TT, fun h => absurd h (unhide HKK), fun _ => rfl⟩
              exact AllReadyH.nil
            exact AllReadyH.nil
          exact AllReadyH.nil
        exact AllReadyH.nil
      exact AllReadyH.nil
    refine AllReadyH.cons rfl (fun K hK => ?_) ?_
    · go_simp
      have A_16 := hide (heap_new u1 (.cells (mgL mg0).toArray 41))
      have Y_16 := hide (heap_old (.cells (mgL mg0).toArray 41) (unhide Y_1))
      have Z_16 := hide (heap_old (.cells (mgL mg0).toArray 41) (unhide Z_1))
      have C_16 := hide ((unhide C_1).later ((Below.refl u1.heap.size u1).alloc (Nat.le_refl _) (.cells (mgL mg0).toArray 41)))
      have T_16 : Hid (Touch (fun q => q = b ∨ w.heap.size ≤ q) w (u1.alloc (.cells (mgL mg0).toArray 41))) := hide ((unhide T_1).trans (Touch.of_below ((Below.refl u1.heap.size u1).alloc (Nat.le_refl _) (.cells (mgL mg0).toArray 41))))
      have hs_16 : w.heap.size + 2 ≤ (u1.alloc (.cells (mgL mg0).toArray 41)).heap.size := by simp; omega
      refine hK.out _ _ ?_ (fun hHeld => ?_)
      · (try dsimp only); exact cell_of (unhide Y_16) 0
      clear hK K
      change wpAnyH _ _ _ _ _ _ _ _ (u1.alloc (.cells (mgL mg0).toArray 41))
      generalize u1.alloc (.cells (mgL mg0).toArray 41) = u16 at *
      have hz_16 : w.heap.size + 2 ≤ u1.heap.size := hs_1
      generalize u1.heap.size = z16 at *
      have hh_16 : u16.cell? ⟨w.heap.size, 0, none⟩ = some (.pointer (some ⟨b, 0, none⟩)) := cell_of (unhide Y_16) 0
      refine wpAnyH_ready (rs := [5]) (by kernel_rfl) (by simp) ?_
      refine AllReadyH.cons rfl (fun K hK => ?_) ?_
      · go_simp
        refine (rint_later (unhide C_16) (unhide E2) (Below.refl _ _)).mono ?_
        rintro e u17 ⟨rfl, r, t⟩
        have C_17 := hide r
        have Y_17 := hide (t.keep (unhide Y_16) (by omega))
        have Z_17 := hide (t.keep (unhide Z_16) (by omega))
        have T_17 := hide ((unhide T_16).trans (t.mono (fun q hq => .inl hq)))
        have hs_17 : w.heap.size + 2 ≤ u17.heap.size := Nat.le_trans hs_16 t.size
        have A_17 := hide (t.keep (unhide A_16) (by omega))
        refine hK.out _ _ ?_ (fun hHeld => ?_)
        · (try dsimp only); exact cell_of (unhide Y_17) 0
        clear hK K r t
        refine wpAnyH_ready (rs := [8]) (by kernel_rfl) (by simp) ?_
        refine AllReadyH.cons rfl (fun K hK => ?_) ?_
        · go_simp
          refine (rint_later (unhide C_17) (unhide E3) (Below.refl _ _)).mono ?_
          rintro e u18 ⟨rfl, r, t⟩
          have C_18 := hide r
          have Y_18 := hide (t.keep (unhide Y_17) (by omega))
          have Z_18 := hide (t.keep (unhide Z_17) (by omega))
          have T_18 := hide ((unhide T_17).trans (t.mono (fun q hq => .inl hq)))
          have hs_18 : w.heap.size + 2 ≤ u18.heap.size := Nat.le_trans hs_17 t.size
          have A_18 := hide (t.keep (unhide A_17) (by omega))
          refine hK.out _ _ ?_ (fun hHeld => ?_)
          · (try dsimp only); exact cell_of (unhide Y_18) 0
          clear hK K r t
          refine wpAnyH_ready (rs := [11]) (by kernel_rfl) (by simp) ?_
          refine AllReadyH.cons rfl (fun K hK => ?_) ?_
          · go_simp
            refine (rint_later (unhide C_18) (unhide E4) (Below.refl _ _)).mono ?_
            rintro e u19 ⟨rfl, r, t⟩
            have C_19 := hide r
            have Y_19 := hide (t.keep (unhide Y_18) (by omega))
            have Z_19 := hide (t.keep (unhide Z_18) (by omega))
            have T_19 := hide ((unhide T_18).trans (t.mono (fun q hq => .inl hq)))
            have hs_19 : w.heap.size + 2 ≤ u19.heap.size := Nat.le_trans hs_18 t.size
            have A_19 := hide (t.keep (unhide A_18) (by omega))
            refine hK.out _ _ ?_ (fun hHeld => ?_)
            · (try dsimp only); exact cell_of (unhide Y_19) 0
            clear hK K r t
            refine wpAnyH_ready (rs := [14]) (by kernel_rfl) (by simp) ?_
            refine AllReadyH.cons rfl (fun K hK => ?_) ?_
            · go_simp
              refine (rint_later (unhide C_19) (unhide E5) (Below.refl _ _)).mono ?_
              rintro e u20 ⟨rfl, r, t⟩
              have C_20 := hide r
              have Y_20 := hide (t.keep (unhide Y_19) (by omega))
              have Z_20 := hide (t.keep (unhide Z_19) (by omega))
              have T_20 := hide ((unhide T_19).trans (t.mono (fun q hq => .inl hq)))
              have hs_20 : w.heap.size + 2 ≤ u20.heap.size := Nat.le_trans hs_19 t.size
              have A_20 := hide (t.keep (unhide A_19) (by omega))
              refine hK.out _ _ ?_ (fun hHeld => ?_)
              · (try dsimp only); exact cell_of (unhide Y_20) 0
              clear hK K r t
              refine wpAnyH_take (i := 15) (v := .agg #[.int .i64 x1, .int .i64 x2, .int .i64 x3, .int .i64 x4, .int .i64 x5, .int .i64 0, .int .i64 0, .int .i64 0, .int .i64 0, .int .i64 0, .int .i64 0, .int .i64 0, .bool false, .slice none 0 0, .slice none 0 0, .int .i64 0, .int .i64 0, .int .i64 0, .int .i64 0, .int .i64 0, .int .i64 0, .int .i64 0, .int .i64 0, .int .i64 0, .bool false, .int .i64 0, .int .i64 0, .int .i64 0, .int .i64 0, .slice none 0 0, .int .i64 0, .int .i64 0, .int .i64 0, .int .i64 0, .int .i64 0, .slice none 0 0, .int .i64 0, .int .i64 0, .int .u64 0, .int .i64 0, .int .i64 0, .bool false, .bool false, .bool false, .slice none 0 0, .int .i64 0, .int .i64 0, .int .i64 0, .int .i64 0, .int .u64 0, .int .i64 0, .bool false, .int .i64 0, .int .i64 0, .int .i64 0, .slice none 0 0, .slice none 0 0, .slice none 0 0, .int .i64 0]) rfl (by kernel_rfl) (by kernel_rfl) (by kernel_rfl) (fun _ _ _ h => h) (Or.inl ⟨by rfl, by intro w' hSw; (try dsimp only at hSw); go_simp⟩) (by assumption) ?_
              refine wpAnyH_ready (rs := [17]) (by kernel_rfl) (by simp) ?_
              refine AllReadyH.cons rfl (fun K hK => ?_) ?_
              · refine wp_store_mid 41 (.tmp 3) (.tmp 19) rfl z16 0 (mgL (hdM x1 x2 x3 x4 x5)).toArray rfl rfl (there_of (unhide A_20) (by rw [mg_size, mg_size]; decide)) (info_mga _) (mg_one _) ?_
                obtain ⟨q1, q2⟩ := heap_setCells (mgL (hdM x1 x2 x3 x4 x5)) 0 u20 _ (unhide A_20)
                rw [lay_all (vs := mgL (hdM x1 x2 x3 x4 x5)) (by rw [mg_size]; rfl)] at q1
                have YY := hide (q2.keep (unhide Y_20) (by omega))
                have ZZ := hide (q2.keep (unhide Z_20) (by omega))
                have AA := hide q1
                have CC := hide ((unhide C_20).keep q2 (by omega) (fun h0 x hx e => by have := unhide HLW x hx h0; omega))
                have TT := hide ((unhide T_20).trans (q2.mono (fun q hq => .inr (by omega))))
                have hsz : w.heap.size + 2 ≤ (u20.setCells z16 0 (mgL (hdM x1 x2 x3 x4 x5))).heap.size := Nat.le_trans hs_20 q2.size
                refine hK.out _ _ ?_ (fun hHeld => ?_)
                · (try dsimp only); exact cell_of (unhide YY) 0
                clear hK K q1 q2
                change wpAnyH _ _ _ _ _ _ _ _ (u20.setCells z16 0 (mgL (hdM x1 x2 x3 x4 x5)))
                generalize u20.setCells z16 0 (mgL (hdM x1 x2 x3 x4 x5)) = V at *
                generalize hal : z16 = al at *
                refine wpAnyH_done (by kernel_rfl) ?_ _
                have y0 : V.cell? ⟨al, 0, none⟩ = some (.int .i64 x1) := cell_of (unhide AA) 0
                by_cases hk : kndE x1 = 0
                · have KK := hide (needKind_ok V hk)
                  have HKK := hide hk
                  have HRG := hide (range_of (o := 0) (ds := mgL (hdM x1 x2 x3 x4 x5)) (unhide AA) (fun j v hv => by rw [Nat.zero_add]; exact hv))
                  clear hk
                  go_wp2_with fail
                  refine (unhide KK).mono ?_
                  rintro e V2 ⟨rfl, rfl⟩
                  have HT6 := hide (there_of (o := 0) (n := (mgL (hdM x1 x2 x3 x4 x5)).toArray.size) (unhide ZZ) (by rw [mg_size, mg_size]; decide))
                  have HI1 := hide (info_mg (hdM x1 x2 x3 x4 x5))
                  have HI2 := hide (info_mga (hdM x1 x2 x3 x4 x5))
                  have HO2 := hide (mg_one (hdM x1 x2 x3 x4 x5))
                  have HLN : Hid ((mgL mg0).toArray.size = (mgL (hdM x1 x2 x3 x4 x5)).length) := hide rfl
                  generalize hLL : mgL (hdM x1 x2 x3 x4 x5) = LL at *
                  have HLL := hide hLL
                  clear hLL
                  go_wp2_with (first
                    | (with_reducible (show wpList _ _ _ (Oper.mk _ (Op.load _ _) _ _ _ _ :: _) _ _); refine wpList_load_mid rfl 41 (.tmp 3) rfl al 0 rfl LL _ (unhide HRG) Try.underlying41 rfl (unhide HI1) ?_)
                    | (with_reducible (show wpList _ _ _ (Oper.mk _ (Op.store _ _ _) _ _ _ _ :: _) _ _); refine wpList_store_mid rfl 41 (.tmp 2) (.tmp 23) rfl (w.heap.size + 1) 0 LL.toArray rfl rfl (unhide HT6) (unhide HI2) (unhide HO2) ?_))
                  obtain ⟨q1, q2⟩ := heap_setCells LL 0 V2 _ (unhide ZZ)
                  rw [lay_all (unhide HLN)] at q1
                  have FF : Hid (HdP w b a cap t s5 x1 x2 x3 x4 x5 (.returned (.agg LL.toArray)) (V2.setCells (w.heap.size + 1) 0 LL)) := hide ⟨(unhide TT).trans (q2.mono (fun q hq => .inr (by omega))), fun _ => ⟨by rw [unhide HLL], (unhide CC).keep q2 (by omega) (fun h0 x hx e => by have := unhide HLW x hx h0; omega)⟩, fun h => absurd (unhide HKK) h⟩
                  have RES : ∀ tmps : Array Value, tmps[2]?.getD undef = .pointer (some ⟨w.heap.size + 1, 0, none⟩) → (results Try.f48 tmps).run Try.prog (V2.setCells (w.heap.size + 1) 0 LL) = .ok (.agg LL.toArray) (V2.setCells (w.heap.size + 1) 0 LL) := fun tmps ht => by
                    have e := unhide HLL
                    rw [← e] at q1 ⊢
                    exact res_head q1 ht
                  refine bodyPost_ret (RES _ rfl) rfl ?_
                  exact unhide FF
                · have KK := hide (needKind_no V hk)
                  have HKK := hide hk
                  clear hk
                  go_wp2_with fail
                  refine (unhide KK).mono ?_
                  rintro e V2 ⟨rfl, rfl⟩
                  go_wp2
                  exact ⟨rfl, unhide TT, fun h => absurd h (unhide HKK), fun _ => rfl⟩
              exact AllReadyH.nil
            exact AllReadyH.nil
          exact AllReadyH.nil
        exact AllReadyH.nil
      exact AllReadyH.nil
    exact AllReadyH.nil
  refine AllReadyH.cons rfl (fun K hK => ?_) ?_
  · go_simp
    have A_21 := hide (heap_new U0 (.cells (mgL mg0).toArray 41))
    have Y_21 := hide (heap_old (.cells (mgL mg0).toArray 41) (unhide Y))
    have Z_21 := hide (heap_old (.cells (mgL mg0).toArray 41) (unhide Z))
    have C_21 := hide ((unhide C).later ((Below.refl U0.heap.size U0).alloc (Nat.le_refl _) (.cells (mgL mg0).toArray 41)))
    have T_21 : Hid (Touch (fun q => q = b ∨ w.heap.size ≤ q) w (U0.alloc (.cells (mgL mg0).toArray 41))) := hide ((unhide T).trans (Touch.of_below ((Below.refl U0.heap.size U0).alloc (Nat.le_refl _) (.cells (mgL mg0).toArray 41))))
    have hs_21 : w.heap.size + 2 ≤ (U0.alloc (.cells (mgL mg0).toArray 41)).heap.size := by simp; omega
    refine hK.out _ _ ?_ (fun hHeld => ?_)
    · (try dsimp only); exact cell_of (unhide Y_21) 0
    clear hK K
    change wpAnyH _ _ _ _ _ _ _ _ (U0.alloc (.cells (mgL mg0).toArray 41))
    generalize U0.alloc (.cells (mgL mg0).toArray 41) = u21 at *
    have hz_21 : w.heap.size + 2 ≤ U0.heap.size := hs
    generalize U0.heap.size = z21 at *
    have hh_21 : u21.cell? ⟨w.heap.size, 0, none⟩ = some (.pointer (some ⟨b, 0, none⟩)) := cell_of (unhide Y_21) 0
    refine wpAnyH_ready (rs := [2]) (by kernel_rfl) (by simp) ?_
    refine AllReadyH.cons rfl (fun K hK => ?_) ?_
    · go_simp
      refine (rint_later (unhide C_21) (unhide E1) (Below.refl _ _)).mono ?_
      rintro e u22 ⟨rfl, r, t⟩
      have C_22 := hide r
      have Y_22 := hide (t.keep (unhide Y_21) (by omega))
      have Z_22 := hide (t.keep (unhide Z_21) (by omega))
      have T_22 := hide ((unhide T_21).trans (t.mono (fun q hq => .inl hq)))
      have hs_22 : w.heap.size + 2 ≤ u22.heap.size := Nat.le_trans hs_21 t.size
      have A_22 := hide (t.keep (unhide A_21) (by omega))
      refine hK.out _ _ ?_ (fun hHeld => ?_)
      · (try dsimp only); exact cell_of (unhide Y_22) 0
      clear hK K r t
      refine wpAnyH_ready (rs := [5]) (by kernel_rfl) (by simp) ?_
      refine AllReadyH.cons rfl (fun K hK => ?_) ?_
      · go_simp
        refine (rint_later (unhide C_22) (unhide E2) (Below.refl _ _)).mono ?_
        rintro e u23 ⟨rfl, r, t⟩
        have C_23 := hide r
        have Y_23 := hide (t.keep (unhide Y_22) (by omega))
        have Z_23 := hide (t.keep (unhide Z_22) (by omega))
        have T_23 := hide ((unhide T_22).trans (t.mono (fun q hq => .inl hq)))
        have hs_23 : w.heap.size + 2 ≤ u23.heap.size := Nat.le_trans hs_22 t.size
        have A_23 := hide (t.keep (unhide A_22) (by omega))
        refine hK.out _ _ ?_ (fun hHeld => ?_)
        · (try dsimp only); exact cell_of (unhide Y_23) 0
        clear hK K r t
        refine wpAnyH_ready (rs := [8]) (by kernel_rfl) (by simp) ?_
        refine AllReadyH.cons rfl (fun K hK => ?_) ?_
        · go_simp
          refine (rint_later (unhide C_23) (unhide E3) (Below.refl _ _)).mono ?_
          rintro e u24 ⟨rfl, r, t⟩
          have C_24 := hide r
          have Y_24 := hide (t.keep (unhide Y_23) (by omega))
          have Z_24 := hide (t.keep (unhide Z_23) (by omega))
          have T_24 := hide ((unhide T_23).trans (t.mono (fun q hq => .inl hq)))
          have hs_24 : w.heap.size + 2 ≤ u24.heap.size := Nat.le_trans hs_23 t.size
          have A_24 := hide (t.keep (unhide A_23) (by omega))
          refine hK.out _ _ ?_ (fun hHeld => ?_)
          · (try dsimp only); exact cell_of (unhide Y_24) 0
          clear hK K r t
          refine wpAnyH_ready (rs := [11]) (by kernel_rfl) (by simp) ?_
          refine AllReadyH.cons rfl (fun K hK => ?_) ?_
          · go_simp
            refine (rint_later (unhide C_24) (unhide E4) (Below.refl _ _)).mono ?_
            rintro e u25 ⟨rfl, r, t⟩
            have C_25 := hide r
            have Y_25 := hide (t.keep (unhide Y_24) (by omega))
            have Z_25 := hide (t.keep (unhide Z_24) (by omega))
            have T_25 := hide ((unhide T_24).trans (t.mono (fun q hq => .inl hq)))
            have hs_25 : w.heap.size + 2 ≤ u25.heap.size := Nat.le_trans hs_24 t.size
            have A_25 := hide (t.keep (unhide A_24) (by omega))
            refine hK.out _ _ ?_ (fun hHeld => ?_)
            · (try dsimp only); exact cell_of (unhide Y_25) 0
            clear hK K r t
            refine wpAnyH_ready (rs := [14]) (by kernel_rfl) (by simp) ?_
            refine AllReadyH.cons rfl (fun K hK => ?_) ?_
            · go_simp
              refine (rint_later (unhide C_25) (unhide E5) (Below.refl _ _)).mono ?_
              rintro e u26 ⟨rfl, r, t⟩
              have C_26 := hide r
              have Y_26 := hide (t.keep (unhide Y_25) (by omega))
              have Z_26 := hide (t.keep (unhide Z_25) (by omega))
              have T_26 := hide ((unhide T_25).trans (t.mono (fun q hq => .inl hq)))
              have hs_26 : w.heap.size + 2 ≤ u26.heap.size := Nat.le_trans hs_25 t.size
              have A_26 := hide (t.keep (unhide A_25) (by omega))
              refine hK.out _ _ ?_ (fun hHeld => ?_)
              · (try dsimp only); exact cell_of (unhide Y_26) 0
              clear hK K r t
              refine wpAnyH_take (i := 15) (v := .agg #[.int .i64 x1, .int .i64 x2, .int .i64 x3, .int .i64 x4, .int .i64 x5, .int .i64 0, .int .i64 0, .int .i64 0, .int .i64 0, .int .i64 0, .int .i64 0, .int .i64 0, .bool false, .slice none 0 0, .slice none 0 0, .int .i64 0, .int .i64 0, .int .i64 0, .int .i64 0, .int .i64 0, .int .i64 0, .int .i64 0, .int .i64 0, .int .i64 0, .bool false, .int .i64 0, .int .i64 0, .int .i64 0, .int .i64 0, .slice none 0 0, .int .i64 0, .int .i64 0, .int .i64 0, .int .i64 0, .int .i64 0, .slice none 0 0, .int .i64 0, .int .i64 0, .int .u64 0, .int .i64 0, .int .i64 0, .bool false, .bool false, .bool false, .slice none 0 0, .int .i64 0, .int .i64 0, .int .i64 0, .int .i64 0, .int .u64 0, .int .i64 0, .bool false, .int .i64 0, .int .i64 0, .int .i64 0, .slice none 0 0, .slice none 0 0, .slice none 0 0, .int .i64 0]) rfl (by kernel_rfl) (by kernel_rfl) (by kernel_rfl) (fun _ _ _ h => h) (Or.inl ⟨by rfl, by intro w' hSw; (try dsimp only at hSw); go_simp⟩) (by assumption) ?_
              refine wpAnyH_ready (rs := [17]) (by kernel_rfl) (by simp) ?_
              refine AllReadyH.cons rfl (fun K hK => ?_) ?_
              · refine wp_store_mid 41 (.tmp 3) (.tmp 19) rfl z21 0 (mgL (hdM x1 x2 x3 x4 x5)).toArray rfl rfl (there_of (unhide A_26) (by rw [mg_size, mg_size]; decide)) (info_mga _) (mg_one _) ?_
                obtain ⟨q1, q2⟩ := heap_setCells (mgL (hdM x1 x2 x3 x4 x5)) 0 u26 _ (unhide A_26)
                rw [lay_all (vs := mgL (hdM x1 x2 x3 x4 x5)) (by rw [mg_size]; rfl)] at q1
                have YY := hide (q2.keep (unhide Y_26) (by omega))
                have ZZ := hide (q2.keep (unhide Z_26) (by omega))
                have AA := hide q1
                have CC := hide ((unhide C_26).keep q2 (by omega) (fun h0 x hx e => by have := unhide HLW x hx h0; omega))
                have TT := hide ((unhide T_26).trans (q2.mono (fun q hq => .inr (by omega))))
                have hsz : w.heap.size + 2 ≤ (u26.setCells z21 0 (mgL (hdM x1 x2 x3 x4 x5))).heap.size := Nat.le_trans hs_26 q2.size
                refine hK.out _ _ ?_ (fun hHeld => ?_)
                · (try dsimp only); exact cell_of (unhide YY) 0
                clear hK K q1 q2
                change wpAnyH _ _ _ _ _ _ _ _ (u26.setCells z21 0 (mgL (hdM x1 x2 x3 x4 x5)))
                generalize u26.setCells z21 0 (mgL (hdM x1 x2 x3 x4 x5)) = V at *
                generalize hal : z21 = al at *
                refine wpAnyH_done (by kernel_rfl) ?_ _
                have y0 : V.cell? ⟨al, 0, none⟩ = some (.int .i64 x1) := cell_of (unhide AA) 0
                by_cases hk : kndE x1 = 0
                · have KK := hide (needKind_ok V hk)
                  have HKK := hide hk
                  have HRG := hide (range_of (o := 0) (ds := mgL (hdM x1 x2 x3 x4 x5)) (unhide AA) (fun j v hv => by rw [Nat.zero_add]; exact hv))
                  clear hk
                  go_wp2_with fail
                  refine (unhide KK).mono ?_
                  rintro e V2 ⟨rfl, rfl⟩
                  have HT6 := hide (there_of (o := 0) (n := (mgL (hdM x1 x2 x3 x4 x5)).toArray.size) (unhide ZZ) (by rw [mg_size, mg_size]; decide))
                  have HI1 := hide (info_mg (hdM x1 x2 x3 x4 x5))
                  have HI2 := hide (info_mga (hdM x1 x2 x3 x4 x5))
                  have HO2 := hide (mg_one (hdM x1 x2 x3 x4 x5))
                  have HLN : Hid ((mgL mg0).toArray.size = (mgL (hdM x1 x2 x3 x4 x5)).length) := hide rfl
                  generalize hLL : mgL (hdM x1 x2 x3 x4 x5) = LL at *
                  have HLL := hide hLL
                  clear hLL
                  go_wp2_with (first
                    | (with_reducible (show wpList _ _ _ (Oper.mk _ (Op.load _ _) _ _ _ _ :: _) _ _); refine wpList_load_mid rfl 41 (.tmp 3) rfl al 0 rfl LL _ (unhide HRG) Try.underlying41 rfl (unhide HI1) ?_)
                    | (with_reducible (show wpList _ _ _ (Oper.mk _ (Op.store _ _ _) _ _ _ _ :: _) _ _); refine wpList_store_mid rfl 41 (.tmp 2) (.tmp 23) rfl (w.heap.size + 1) 0 LL.toArray rfl rfl (unhide HT6) (unhide HI2) (unhide HO2) ?_))
                  obtain ⟨q1, q2⟩ := heap_setCells LL 0 V2 _ (unhide ZZ)
                  rw [lay_all (unhide HLN)] at q1
                  have FF : Hid (HdP w b a cap t s5 x1 x2 x3 x4 x5 (.returned (.agg LL.toArray)) (V2.setCells (w.heap.size + 1) 0 LL)) := hide ⟨(unhide TT).trans (q2.mono (fun q hq => .inr (by omega))), fun _ => ⟨by rw [unhide HLL], (unhide CC).keep q2 (by omega) (fun h0 x hx e => by have := unhide HLW x hx h0; omega)⟩, fun h => absurd (unhide HKK) h⟩
                  have RES : ∀ tmps : Array Value, tmps[2]?.getD undef = .pointer (some ⟨w.heap.size + 1, 0, none⟩) → (results Try.f48 tmps).run Try.prog (V2.setCells (w.heap.size + 1) 0 LL) = .ok (.agg LL.toArray) (V2.setCells (w.heap.size + 1) 0 LL) := fun tmps ht => by
                    have e := unhide HLL
                    rw [← e] at q1 ⊢
                    exact res_head q1 ht
                  refine bodyPost_ret (RES _ rfl) rfl ?_
                  exact unhide FF
                · have KK := hide (needKind_no V hk)
                  have HKK := hide hk
                  clear hk
                  go_wp2_with fail
                  refine (unhide KK).mono ?_
                  rintro e V2 ⟨rfl, rfl⟩
                  go_wp2
                  exact ⟨rfl, unhide TT, fun h => absurd h (unhide HKK), fun _ => rfl⟩
              exact AllReadyH.nil
            exact AllReadyH.nil
          exact AllReadyH.nil
        exact AllReadyH.nil
      exact AllReadyH.nil
    exact AllReadyH.nil
  exact AllReadyH.nil
end Go.Proofs.Ytblmondkdcpkaaa
