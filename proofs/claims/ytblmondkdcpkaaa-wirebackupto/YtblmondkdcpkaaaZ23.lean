/-
  wire's reader: raft, fetched. Conditions: the reader as it lies.
-/
import Derived.Test.YtblmondkdcpkaaaZ22

/-
  wire's reader: raft, fetched. Conditions: the reader as it lies.
-/
namespace Go.Proofs.Ytblmondkdcpkaaa
open Go.RowKit
set_option linter.unusedVariables false

section
variable {w : World} {b : Nat} {a : Option Addr} {cap : Nat} {t : List Nat}
/-- What raft tells. -/
def RaV (w : World) (x1 x2 x3 x4 x5 x6 x7 : Int) (x8 : Bool) (x9 : List (Int × List Nat)) (x10 : List Nat) (v : Value) (W : World) : Prop := ∃ (os : List En) (ea : Option Addr) (ec : Nat) (sa : Option Addr) (sc : Nat), v = .agg #[.int .i64 x1, .int .i64 x2, .int .i64 x3, .int .i64 x4, .int .i64 x5, .int .i64 x6, .int .i64 x7, .bool x8, .slice ea os.length ec, .slice sa x10.length sc] ∧ os.map En.vl = x9 ∧ os.length ≤ 512 ∧ (∀ x ∈ [x1, x2, x3, x4, x5, x6, x7], I64 x) ∧ Keeps w.heap.size W.heap.size W (fun W => (RowsAt cellsEn 2 W ea os ∧ ∀ o ∈ os, EnIn W o) ∧ LAt W sa x10 ∧ (sa = none → sc = 0))
theorem res_raft_x {Y : World} {g : Nat} {L : List Value} {tmps : Array Value} (h : Y.heap[g]? = some (.cells L.toArray 26)) (hi : (Try.prog.info? 26).map (·.size) = some L.length) (ht : tmps[2]?.getD undef = .pointer (some ⟨g, 0, none⟩)) :
    (results Try.f49 tmps).run Try.prog Y = .ok (.agg L.toArray) Y := by
  have hlv := run_loadVar_mid (P := Try.prog) Y g 0 26 L _ (range_of (o := 0) h (fun j v hv => by rw [Nat.zero_add]; exact hv)) Try.underlying26 rfl hi
  simp [results, Try.results49, ht, asAddr, hlv]
set_option maxRecDepth 100000 in
set_option maxHeartbeats 8000000 in
theorem raft_x {x1 : Int} {x2 : Int} {x3 : Int} {x4 : Int} {x5 : Int} {x6 : Int} {x7 : Int} {x8 : Bool} {EE : Int} {x9 : List (Int × List Nat)} {x10 : List Nat} {s0 s1 s2 s3 s4 s5 s6 s7 s8 s9 s10 : Rst} (h : RdAt 97 w b a cap t s0) (e1 : rI t s0 = (x1, s1)) (e2 : rI t s1 = (x2, s2)) (e3 : rI t s2 = (x3, s3)) (e4 : rI t s3 = (x4, s4)) (e5 : rI t s4 = (x5, s5)) (e6 : rI t s5 = (x6, s6)) (e7 : rI t s6 = (x7, s7)) (e8 : rF t s7 = (x8, s8)) (e9 : rAll t (rEn t) s8 = (EE, x9, s9)) (e10 : rB t s9 = (x10, s10)) :
    Calls Try.prog 49 #[.agg #[.pointer (some ⟨b, 0, none⟩)]] w fun e w' => RP w b a cap t EE s10 (RaV w x1 x2 x3 x4 x5 x6 x7 x8 x9 x10) e w' := by
  have R := hide (Rg.start h #[.int .i64 0, .int .i64 0, .int .i64 0, .int .i64 0, .int .i64 0, .int .i64 0, .int .i64 0, .bool false, .slice none 0 0, .slice none 0 0] 26).drew
  have E1 := hide e1
  have E2 := hide e2
  have E3 := hide e3
  have E4 := hide e4
  have E5 := hide e5
  have E6 := hide e6
  have E7 := hide e7
  have E8 := hide e8
  have E9 := hide e9
  have E10 := hide e10
  have HTB := hide h.text.bytes
  have hbl := h.lt
  clear h e1 e2 e3 e4 e5 e6 e7 e8 e9 e10
  go_enter Try.func49, Try.ntmps49
  go_upto_region 1 with fail
  generalize (w.alloc (.cells #[.pointer (some ⟨b, 0, none⟩)] 84)).alloc (.cells #[.int .i64 0, .int .i64 0, .int .i64 0, .int .i64 0, .int .i64 0, .int .i64 0, .int .i64 0, .bool false, .slice none 0 0, .slice none 0 0] 26) = W1 at *
  have c0 := (unhide R).box
  replace c0 : W1.cell? ⟨w.heap.size, 0, none⟩ = some (.pointer (some ⟨b, 0, none⟩)) := c0
  refine wp_region_held_drew (S := fun w' => w'.cell? ⟨w.heap.size, 0, none⟩ = some (.pointer (some ⟨b, 0, none⟩))) (by kernel_rfl) (by simp [c0]) (fun hHeld => ?_)
  generalize W1.drew = U0 at *
  clear c0
  refine wpAnyH_take (i := 0) (v := .pointer (some ⟨w.heap.size, 0, none⟩)) rfl (by kernel_rfl) (by kernel_rfl) (by kernel_rfl) (fun _ _ _ h => h) (Or.inl ⟨by rfl, by intro w' hSw; (try dsimp only at hSw); go_simp⟩) (by assumption) ?_
  refine wpAnyH_take (i := 1) (v := .pointer (some ⟨b, 0, none⟩)) rfl (by kernel_rfl) (by kernel_rfl) (by kernel_rfl) (fun _ _ _ h => h) (Or.inl ⟨by rfl, by intro w' hSw; (try dsimp only at hSw); go_simp⟩) (by assumption) ?_
  refine wpAnyH_take (i := 3) (v := .pointer (some ⟨w.heap.size, 0, none⟩)) rfl (by kernel_rfl) (by kernel_rfl) (by kernel_rfl) (fun _ _ _ h => h) (Or.inl ⟨by rfl, by intro w' hSw; (try dsimp only at hSw); go_simp⟩) (by assumption) ?_
  refine wpAnyH_take (i := 4) (v := .pointer (some ⟨b, 0, none⟩)) rfl (by kernel_rfl) (by kernel_rfl) (by kernel_rfl) (fun _ _ _ h => h) (Or.inl ⟨by rfl, by intro w' hSw; (try dsimp only at hSw); go_simp⟩) (by assumption) ?_
  refine wpAnyH_take (i := 6) (v := .pointer (some ⟨w.heap.size, 0, none⟩)) rfl (by kernel_rfl) (by kernel_rfl) (by kernel_rfl) (fun _ _ _ h => h) (Or.inl ⟨by rfl, by intro w' hSw; (try dsimp only at hSw); go_simp⟩) (by assumption) ?_
  refine wpAnyH_take (i := 7) (v := .pointer (some ⟨b, 0, none⟩)) rfl (by kernel_rfl) (by kernel_rfl) (by kernel_rfl) (fun _ _ _ h => h) (Or.inl ⟨by rfl, by intro w' hSw; (try dsimp only at hSw); go_simp⟩) (by assumption) ?_
  refine wpAnyH_take (i := 9) (v := .pointer (some ⟨w.heap.size, 0, none⟩)) rfl (by kernel_rfl) (by kernel_rfl) (by kernel_rfl) (fun _ _ _ h => h) (Or.inl ⟨by rfl, by intro w' hSw; (try dsimp only at hSw); go_simp⟩) (by assumption) ?_
  refine wpAnyH_take (i := 10) (v := .pointer (some ⟨b, 0, none⟩)) rfl (by kernel_rfl) (by kernel_rfl) (by kernel_rfl) (fun _ _ _ h => h) (Or.inl ⟨by rfl, by intro w' hSw; (try dsimp only at hSw); go_simp⟩) (by assumption) ?_
  refine wpAnyH_take (i := 12) (v := .pointer (some ⟨w.heap.size, 0, none⟩)) rfl (by kernel_rfl) (by kernel_rfl) (by kernel_rfl) (fun _ _ _ h => h) (Or.inl ⟨by rfl, by intro w' hSw; (try dsimp only at hSw); go_simp⟩) (by assumption) ?_
  refine wpAnyH_take (i := 13) (v := .pointer (some ⟨b, 0, none⟩)) rfl (by kernel_rfl) (by kernel_rfl) (by kernel_rfl) (fun _ _ _ h => h) (Or.inl ⟨by rfl, by intro w' hSw; (try dsimp only at hSw); go_simp⟩) (by assumption) ?_
  refine wpAnyH_take (i := 15) (v := .pointer (some ⟨w.heap.size, 0, none⟩)) rfl (by kernel_rfl) (by kernel_rfl) (by kernel_rfl) (fun _ _ _ h => h) (Or.inl ⟨by rfl, by intro w' hSw; (try dsimp only at hSw); go_simp⟩) (by assumption) ?_
  refine wpAnyH_take (i := 16) (v := .pointer (some ⟨b, 0, none⟩)) rfl (by kernel_rfl) (by kernel_rfl) (by kernel_rfl) (fun _ _ _ h => h) (Or.inl ⟨by rfl, by intro w' hSw; (try dsimp only at hSw); go_simp⟩) (by assumption) ?_
  refine wpAnyH_take (i := 18) (v := .pointer (some ⟨w.heap.size, 0, none⟩)) rfl (by kernel_rfl) (by kernel_rfl) (by kernel_rfl) (fun _ _ _ h => h) (Or.inl ⟨by rfl, by intro w' hSw; (try dsimp only at hSw); go_simp⟩) (by assumption) ?_
  refine wpAnyH_take (i := 19) (v := .pointer (some ⟨b, 0, none⟩)) rfl (by kernel_rfl) (by kernel_rfl) (by kernel_rfl) (fun _ _ _ h => h) (Or.inl ⟨by rfl, by intro w' hSw; (try dsimp only at hSw); go_simp⟩) (by assumption) ?_
  refine wpAnyH_take (i := 21) (v := .pointer (some ⟨w.heap.size, 0, none⟩)) rfl (by kernel_rfl) (by kernel_rfl) (by kernel_rfl) (fun _ _ _ h => h) (Or.inl ⟨by rfl, by intro w' hSw; (try dsimp only at hSw); go_simp⟩) (by assumption) ?_
  refine wpAnyH_take (i := 22) (v := .pointer (some ⟨b, 0, none⟩)) rfl (by kernel_rfl) (by kernel_rfl) (by kernel_rfl) (fun _ _ _ h => h) (Or.inl ⟨by rfl, by intro w' hSw; (try dsimp only at hSw); go_simp⟩) (by assumption) ?_
  refine wpAnyH_take (i := 24) (v := .agg #[.pointer (some ⟨b, 0, none⟩)]) rfl (by kernel_rfl) (by kernel_rfl) (by kernel_rfl) (fun _ _ _ h => h) (Or.inl ⟨by rfl, by intro w' hSw; (try dsimp only at hSw); go_simp⟩) (by assumption) ?_
  refine wpAnyH_take (i := 25) (v := .agg #[.pointer (some ⟨b, 0, none⟩)]) rfl (by kernel_rfl) (by kernel_rfl) (by kernel_rfl) (fun _ _ _ h => h) (Or.inl ⟨by rfl, by intro w' hSw; (try dsimp only at hSw); go_simp⟩) (by assumption) ?_
  refine wpAnyH_take (i := 26) (v := .func (.func 73) #[.agg #[.pointer (some ⟨b, 0, none⟩)]] #[]) rfl (by kernel_rfl) (by kernel_rfl) (by kernel_rfl) (fun _ _ _ h => h) (Or.inl ⟨by rfl, by intro w' hSw; (try dsimp only at hSw); go_simp⟩) (by assumption) ?_
  refine wpAnyH_take (i := 28) (v := .pointer (some ⟨w.heap.size, 0, none⟩)) rfl (by kernel_rfl) (by kernel_rfl) (by kernel_rfl) (fun _ _ _ h => h) (Or.inl ⟨by rfl, by intro w' hSw; (try dsimp only at hSw); go_simp⟩) (by assumption) ?_
  refine wpAnyH_take (i := 29) (v := .pointer (some ⟨b, 0, none⟩)) rfl (by kernel_rfl) (by kernel_rfl) (by kernel_rfl) (fun _ _ _ h => h) (Or.inl ⟨by rfl, by intro w' hSw; (try dsimp only at hSw); go_simp⟩) (by assumption) ?_
  refine wpAnyH_ready (rs := [2]) (by kernel_rfl) (by simp) ?_
  refine AllReadyH.cons rfl (fun K hK => ?_) AllReadyH.nil
  go_simp
  refine (rint_later (unhide R).rd (unhide E1) (Below.refl _ _)).mono ?_
  rintro e u1 ⟨rfl, r, t⟩
  have R1 := hide ((unhide R).call r (touch_new t))
  refine hK.out _ _ ?_ (fun hHeld => ?_)
  · (try dsimp only); exact (unhide R1).box
  clear hK K r t R
  refine wpAnyH_ready (rs := [5]) (by kernel_rfl) (by simp) ?_
  refine AllReadyH.cons rfl (fun K hK => ?_) AllReadyH.nil
  go_simp
  refine (rint_later (unhide R1).rd (unhide E2) (Below.refl _ _)).mono ?_
  rintro e u2 ⟨rfl, r, t⟩
  have R2 := hide ((unhide R1).call r (touch_new t))
  refine hK.out _ _ ?_ (fun hHeld => ?_)
  · (try dsimp only); exact (unhide R2).box
  clear hK K r t R1
  refine wpAnyH_ready (rs := [8]) (by kernel_rfl) (by simp) ?_
  refine AllReadyH.cons rfl (fun K hK => ?_) AllReadyH.nil
  go_simp
  refine (rint_later (unhide R2).rd (unhide E3) (Below.refl _ _)).mono ?_
  rintro e u3 ⟨rfl, r, t⟩
  have R3 := hide ((unhide R2).call r (touch_new t))
  refine hK.out _ _ ?_ (fun hHeld => ?_)
  · (try dsimp only); exact (unhide R3).box
  clear hK K r t R2
  refine wpAnyH_ready (rs := [11]) (by kernel_rfl) (by simp) ?_
  refine AllReadyH.cons rfl (fun K hK => ?_) AllReadyH.nil
  go_simp
  refine (rint_later (unhide R3).rd (unhide E4) (Below.refl _ _)).mono ?_
  rintro e u4 ⟨rfl, r, t⟩
  have R4 := hide ((unhide R3).call r (touch_new t))
  refine hK.out _ _ ?_ (fun hHeld => ?_)
  · (try dsimp only); exact (unhide R4).box
  clear hK K r t R3
  refine wpAnyH_ready (rs := [14]) (by kernel_rfl) (by simp) ?_
  refine AllReadyH.cons rfl (fun K hK => ?_) AllReadyH.nil
  go_simp
  refine (rint_later (unhide R4).rd (unhide E5) (Below.refl _ _)).mono ?_
  rintro e u5 ⟨rfl, r, t⟩
  have R5 := hide ((unhide R4).call r (touch_new t))
  refine hK.out _ _ ?_ (fun hHeld => ?_)
  · (try dsimp only); exact (unhide R5).box
  clear hK K r t R4
  refine wpAnyH_ready (rs := [17]) (by kernel_rfl) (by simp) ?_
  refine AllReadyH.cons rfl (fun K hK => ?_) AllReadyH.nil
  go_simp
  refine (rint_later (unhide R5).rd (unhide E6) (Below.refl _ _)).mono ?_
  rintro e u6 ⟨rfl, r, t⟩
  have R6 := hide ((unhide R5).call r (touch_new t))
  refine hK.out _ _ ?_ (fun hHeld => ?_)
  · (try dsimp only); exact (unhide R6).box
  clear hK K r t R5
  refine wpAnyH_ready (rs := [20]) (by kernel_rfl) (by simp) ?_
  refine AllReadyH.cons rfl (fun K hK => ?_) AllReadyH.nil
  go_simp
  refine (rint_later (unhide R6).rd (unhide E7) (Below.refl _ _)).mono ?_
  rintro e u7 ⟨rfl, r, t⟩
  have R7 := hide ((unhide R6).call r (touch_new t))
  refine hK.out _ _ ?_ (fun hHeld => ?_)
  · (try dsimp only); exact (unhide R7).box
  clear hK K r t R6
  refine wpAnyH_ready (rs := [23]) (by kernel_rfl) (by simp) ?_
  refine AllReadyH.cons rfl (fun K hK => ?_) AllReadyH.nil
  go_simp
  refine (rflag_later (unhide R7).rd (unhide E8)).mono ?_
  rintro e u8 ⟨rfl, r, t⟩
  have R8 := hide ((unhide R7).call r (touch_new t))
  refine hK.out _ _ ?_ (fun hHeld => ?_)
  · (try dsimp only); exact (unhide R8).box
  clear hK K r t R7
  refine wpAnyH_ready (rs := [27]) (by kernel_rfl) (by simp) ?_
  refine AllReadyH.cons rfl (fun K hK => ?_) AllReadyH.nil
  go_simp
  have KA := takeEn_x (unhide R8).rd
  rw [unhide E9] at KA
  refine KA.mono ?_
  rintro e u9 ⟨t, h9, g9⟩
  by_cases hE : EE ≠ 0
  · obtain rfl := g9 hE
    have TT := hide ((unhide R8).tc.trans (t.mono (fun q hq => by have := (unhide R8).sz; rcases hq with e | e; exact .inl e; exact .inr (by omega))))
    have HE := hide hE
    change _ ∧ _
    exact ⟨rfl, unhide TT, fun h => absurd h (unhide HE), fun _ => rfl⟩
  replace hE : EE = 0 := Decidable.byContradiction hE
  obtain ⟨v9, rfl, r, os, va9, vc9, ev9, m9, l9, k9⟩ := h9 hE
  subst ev9
  have U9 := hide (unhide R8).sz
  have Q9 := hide k9
  have M9 := hide (And.intro m9 l9)
  have HE := hide hE
  clear h9 g9 KA k9 m9 l9 hE
  have R9 := hide ((unhide R8).call r t)
  refine hK.out _ _ ?_ (fun hHeld => ?_)
  · (try dsimp only); exact (unhide R9).box
  clear hK K r t R8
  refine wpAnyH_ready (rs := [30]) (by kernel_rfl) (by simp) ?_
  refine AllReadyH.cons rfl (fun K hK => ?_) AllReadyH.nil
  go_simp
  refine (rbytes_later (unhide R9).rd (unhide E10)).mono ?_
  rintro e u10 ⟨v10, rfl, rw10, nw10, r, t⟩
  obtain ⟨va10, vc10, ev10, _⟩ := rw10.parts
  subst ev10
  have Q10 := hide (Keeps.row rw10 nw10)
  have U10 := hide (unhide R9).sz
  clear rw10 nw10
  have R10 := hide ((unhide R9).call r (touch_new t))
  have Q9n := hide ((unhide Q9).step t (fun k hk => .inl (by have := (unhide U9); have := (unhide R10).bl; omega)))
  clear Q9
  have Q9 := Q9n
  clear Q9n
  refine hK.out _ _ ?_ (fun hHeld => ?_)
  · (try dsimp only); exact (unhide R10).box
  clear hK K r t R9
  refine wpAnyH_take (i := 31) (v := .agg #[.int .i64 x1, .int .i64 x2, .int .i64 x3, .int .i64 x4, .int .i64 x5, .int .i64 x6, .int .i64 x7, .bool x8, .slice va9 os.length vc9, .slice va10 x10.length vc10]) rfl (by kernel_rfl) (by kernel_rfl) (by kernel_rfl) (fun _ _ _ h => h) (Or.inl ⟨by rfl, by intro w' hSw; (try dsimp only at hSw); go_simp⟩) (by assumption) ?_
  refine wpAnyH_ready (rs := [32]) (by kernel_rfl) (by simp) ?_
  refine AllReadyH.cons rfl (fun K hK => ?_) AllReadyH.nil
  refine wp_store_mid 26 (.tmp 2) (.tmp 34) rfl (w.heap.size + 1) 0 #[.int .i64 x1, .int .i64 x2, .int .i64 x3, .int .i64 x4, .int .i64 x5, .int .i64 x6, .int .i64 x7, .bool x8, .slice va9 os.length vc9, .slice va10 x10.length vc10] rfl rfl (there_of (unhide R10).rs (Nat.le_refl _)) (by kernel_rfl) (by simp [Value.oneCell']) ?_
  have RZ := hide ((unhide R10).lay [.int .i64 x1, .int .i64 x2, .int .i64 x3, .int .i64 x4, .int .i64 x5, .int .i64 x6, .int .i64 x7, .bool x8, .slice va9 os.length vc9, .slice va10 x10.length vc10] rfl)
  have QZ9 := hide ((unhide Q9).step (heap_setCells [.int .i64 x1, .int .i64 x2, .int .i64 x3, .int .i64 x4, .int .i64 x5, .int .i64 x6, .int .i64 x7, .bool x8, .slice va9 os.length vc9, .slice va10 x10.length vc10] 0 u10 _ (unhide R10).rs).2 (fun k hk => .inl (by have := unhide U9; omega)))
  have QZ10 := hide ((unhide Q10).step (heap_setCells [.int .i64 x1, .int .i64 x2, .int .i64 x3, .int .i64 x4, .int .i64 x5, .int .i64 x6, .int .i64 x7, .bool x8, .slice va9 os.length vc9, .slice va10 x10.length vc10] 0 u10 _ (unhide R10).rs).2 (fun k hk => .inl (by have := unhide U10; omega)))
  refine hK.out _ _ ?_ (fun hHeld => ?_)
  · (try dsimp only); exact (unhide RZ).box
  clear hK K R10
  change wpAnyH _ _ _ _ _ _ _ _ (u10.setCells (w.heap.size + 1) 0 [.int .i64 x1, .int .i64 x2, .int .i64 x3, .int .i64 x4, .int .i64 x5, .int .i64 x6, .int .i64 x7, .bool x8, .slice va9 os.length vc9, .slice va10 x10.length vc10])
  generalize u10.setCells (w.heap.size + 1) 0 [.int .i64 x1, .int .i64 x2, .int .i64 x3, .int .i64 x4, .int .i64 x5, .int .i64 x6, .int .i64 x7, .bool x8, .slice va9 os.length vc9, .slice va10 x10.length vc10] = V at *
  refine wpAnyH_done (by kernel_rfl) ?_ _
  have I1 : I64 x1 := by have := zag_fits (rU_fits (t := t) (s := s0) (unhide HTB)); have e := unhide E1; unfold rI at e; cases e; exact this
  have I2 : I64 x2 := by have := zag_fits (rU_fits (t := t) (s := s1) (unhide HTB)); have e := unhide E2; unfold rI at e; cases e; exact this
  have I3 : I64 x3 := by have := zag_fits (rU_fits (t := t) (s := s2) (unhide HTB)); have e := unhide E3; unfold rI at e; cases e; exact this
  have I4 : I64 x4 := by have := zag_fits (rU_fits (t := t) (s := s3) (unhide HTB)); have e := unhide E4; unfold rI at e; cases e; exact this
  have I5 : I64 x5 := by have := zag_fits (rU_fits (t := t) (s := s4) (unhide HTB)); have e := unhide E5; unfold rI at e; cases e; exact this
  have I6 : I64 x6 := by have := zag_fits (rU_fits (t := t) (s := s5) (unhide HTB)); have e := unhide E6; unfold rI at e; cases e; exact this
  have I7 : I64 x7 := by have := zag_fits (rU_fits (t := t) (s := s6) (unhide HTB)); have e := unhide E7; unfold rI at e; cases e; exact this
  have FF : Hid (RP w b a cap t EE s10 (RaV w x1 x2 x3 x4 x5 x6 x7 x8 x9 x10) (.returned (.agg #[.int .i64 x1, .int .i64 x2, .int .i64 x3, .int .i64 x4, .int .i64 x5, .int .i64 x6, .int .i64 x7, .bool x8, .slice va9 os.length vc9, .slice va10 x10.length vc10])) V) := hide ⟨(unhide RZ).tc, fun _ => ⟨_, rfl, (unhide RZ).rd, os, va9, vc9, va10, vc10, rfl, (unhide M9).1, (unhide M9).2, (fun x hx => by simp only [List.mem_cons, List.not_mem_nil, or_false] at hx; rcases hx with rfl | rfl | rfl | rfl | rfl | rfl | rfl <;> assumption), ((unhide QZ9).wide (by have := unhide U9; omega) (unhide QZ9).old (Nat.le_refl _)).and (((unhide QZ10).wide (by have := unhide U10; omega) (unhide QZ10).old (Nat.le_refl _)).imp (fun W h => by obtain ⟨aa, cc, e, l, _, _, z, _⟩ := h.parts; cases e; exact ⟨l, z⟩))⟩, fun h => absurd (unhide HE) h⟩
  go_wp2
  refine bodyPost_ret (res_raft_x (unhide RZ).rs (by kernel_rfl) rfl) rfl ?_
  exact unhide FF
end
end Go.Proofs.Ytblmondkdcpkaaa


namespace Go.Proofs.Ytblmondkdcpkaaa
open Go.RowKit
set_option linter.unusedVariables false

section
variable {w : World} {b : Nat} {a : Option Addr} {cap : Nat} {t : List Nat}
/-- What fetched tells. -/
def FeV (w : World) (x1 x2 x3 x4 x5 x6 x7 x8 : Int) (x9 : Bool) (x10 : List Bt) (v : Value) (W : World) : Prop := ∃ (os : List Ba) (ea : Option Addr) (ec : Nat), v = .agg #[.int .i64 x1, .int .i64 x2, .int .i64 x3, .int .i64 x4, .bool x9, .int .i64 x5, .int .i64 x6, .int .i64 x7, .int .i64 x8, .slice ea os.length ec] ∧ os.map Ba.vl = x10 ∧ os.length ≤ 512 ∧ (∀ x ∈ [x1, x2, x3, x4, x5, x6, x7, x8], I64 x) ∧ Keeps w.heap.size W.heap.size W (fun W => RowsAt cellsBa 9 W ea os ∧ ∀ o ∈ os, BaIn W o)
theorem res_fetched_x {Y : World} {g : Nat} {L : List Value} {tmps : Array Value} (h : Y.heap[g]? = some (.cells L.toArray 31)) (hi : (Try.prog.info? 31).map (·.size) = some L.length) (ht : tmps[2]?.getD undef = .pointer (some ⟨g, 0, none⟩)) :
    (results Try.f51 tmps).run Try.prog Y = .ok (.agg L.toArray) Y := by
  have hlv := run_loadVar_mid (P := Try.prog) Y g 0 31 L _ (range_of (o := 0) h (fun j v hv => by rw [Nat.zero_add]; exact hv)) Try.underlying31 rfl hi
  simp [results, Try.results51, ht, asAddr, hlv]
set_option maxRecDepth 100000 in
set_option maxHeartbeats 8000000 in
theorem fetched_x {x1 : Int} {x2 : Int} {x3 : Int} {x4 : Int} {x5 : Int} {x6 : Int} {x7 : Int} {x8 : Int} {x9 : Bool} {EE : Int} {x10 : List Bt} {s0 s1 s2 s3 s4 s5 s6 s7 s8 s9 s10 : Rst} (h : RdAt 97 w b a cap t s0) (e1 : rI t s0 = (x1, s1)) (e2 : rI t s1 = (x2, s2)) (e3 : rI t s2 = (x3, s3)) (e4 : rI t s3 = (x4, s4)) (e5 : rI t s4 = (x5, s5)) (e6 : rI t s5 = (x6, s6)) (e7 : rI t s6 = (x7, s7)) (e8 : rI t s7 = (x8, s8)) (e9 : rF t s8 = (x9, s9)) (e10 : rAll t (rBa t) s9 = (EE, x10, s10)) :
    Calls Try.prog 51 #[.agg #[.pointer (some ⟨b, 0, none⟩)]] w fun e w' => RP w b a cap t EE s10 (FeV w x1 x2 x3 x4 x5 x6 x7 x8 x9 x10) e w' := by
  have R := hide (Rg.start h #[.int .i64 0, .int .i64 0, .int .i64 0, .int .i64 0, .bool false, .int .i64 0, .int .i64 0, .int .i64 0, .int .i64 0, .slice none 0 0] 31).drew
  have E1 := hide e1
  have E2 := hide e2
  have E3 := hide e3
  have E4 := hide e4
  have E5 := hide e5
  have E6 := hide e6
  have E7 := hide e7
  have E8 := hide e8
  have E9 := hide e9
  have E10 := hide e10
  have HTB := hide h.text.bytes
  have hbl := h.lt
  clear h e1 e2 e3 e4 e5 e6 e7 e8 e9 e10
  go_enter Try.func51, Try.ntmps51
  go_upto_region 1 with fail
  generalize (w.alloc (.cells #[.pointer (some ⟨b, 0, none⟩)] 84)).alloc (.cells #[.int .i64 0, .int .i64 0, .int .i64 0, .int .i64 0, .bool false, .int .i64 0, .int .i64 0, .int .i64 0, .int .i64 0, .slice none 0 0] 31) = W1 at *
  have c0 := (unhide R).box
  replace c0 : W1.cell? ⟨w.heap.size, 0, none⟩ = some (.pointer (some ⟨b, 0, none⟩)) := c0
  refine wp_region_held_drew (S := fun w' => w'.cell? ⟨w.heap.size, 0, none⟩ = some (.pointer (some ⟨b, 0, none⟩))) (by kernel_rfl) (by simp [c0]) (fun hHeld => ?_)
  generalize W1.drew = U0 at *
  clear c0
  refine wpAnyH_take (i := 0) (v := .pointer (some ⟨w.heap.size, 0, none⟩)) rfl (by kernel_rfl) (by kernel_rfl) (by kernel_rfl) (fun _ _ _ h => h) (Or.inl ⟨by rfl, by intro w' hSw; (try dsimp only at hSw); go_simp⟩) (by assumption) ?_
  refine wpAnyH_take (i := 1) (v := .pointer (some ⟨b, 0, none⟩)) rfl (by kernel_rfl) (by kernel_rfl) (by kernel_rfl) (fun _ _ _ h => h) (Or.inl ⟨by rfl, by intro w' hSw; (try dsimp only at hSw); go_simp⟩) (by assumption) ?_
  refine wpAnyH_take (i := 3) (v := .pointer (some ⟨w.heap.size, 0, none⟩)) rfl (by kernel_rfl) (by kernel_rfl) (by kernel_rfl) (fun _ _ _ h => h) (Or.inl ⟨by rfl, by intro w' hSw; (try dsimp only at hSw); go_simp⟩) (by assumption) ?_
  refine wpAnyH_take (i := 4) (v := .pointer (some ⟨b, 0, none⟩)) rfl (by kernel_rfl) (by kernel_rfl) (by kernel_rfl) (fun _ _ _ h => h) (Or.inl ⟨by rfl, by intro w' hSw; (try dsimp only at hSw); go_simp⟩) (by assumption) ?_
  refine wpAnyH_take (i := 6) (v := .pointer (some ⟨w.heap.size, 0, none⟩)) rfl (by kernel_rfl) (by kernel_rfl) (by kernel_rfl) (fun _ _ _ h => h) (Or.inl ⟨by rfl, by intro w' hSw; (try dsimp only at hSw); go_simp⟩) (by assumption) ?_
  refine wpAnyH_take (i := 7) (v := .pointer (some ⟨b, 0, none⟩)) rfl (by kernel_rfl) (by kernel_rfl) (by kernel_rfl) (fun _ _ _ h => h) (Or.inl ⟨by rfl, by intro w' hSw; (try dsimp only at hSw); go_simp⟩) (by assumption) ?_
  refine wpAnyH_take (i := 9) (v := .pointer (some ⟨w.heap.size, 0, none⟩)) rfl (by kernel_rfl) (by kernel_rfl) (by kernel_rfl) (fun _ _ _ h => h) (Or.inl ⟨by rfl, by intro w' hSw; (try dsimp only at hSw); go_simp⟩) (by assumption) ?_
  refine wpAnyH_take (i := 10) (v := .pointer (some ⟨b, 0, none⟩)) rfl (by kernel_rfl) (by kernel_rfl) (by kernel_rfl) (fun _ _ _ h => h) (Or.inl ⟨by rfl, by intro w' hSw; (try dsimp only at hSw); go_simp⟩) (by assumption) ?_
  refine wpAnyH_take (i := 12) (v := .pointer (some ⟨w.heap.size, 0, none⟩)) rfl (by kernel_rfl) (by kernel_rfl) (by kernel_rfl) (fun _ _ _ h => h) (Or.inl ⟨by rfl, by intro w' hSw; (try dsimp only at hSw); go_simp⟩) (by assumption) ?_
  refine wpAnyH_take (i := 13) (v := .pointer (some ⟨b, 0, none⟩)) rfl (by kernel_rfl) (by kernel_rfl) (by kernel_rfl) (fun _ _ _ h => h) (Or.inl ⟨by rfl, by intro w' hSw; (try dsimp only at hSw); go_simp⟩) (by assumption) ?_
  refine wpAnyH_take (i := 15) (v := .pointer (some ⟨w.heap.size, 0, none⟩)) rfl (by kernel_rfl) (by kernel_rfl) (by kernel_rfl) (fun _ _ _ h => h) (Or.inl ⟨by rfl, by intro w' hSw; (try dsimp only at hSw); go_simp⟩) (by assumption) ?_
  refine wpAnyH_take (i := 16) (v := .pointer (some ⟨b, 0, none⟩)) rfl (by kernel_rfl) (by kernel_rfl) (by kernel_rfl) (fun _ _ _ h => h) (Or.inl ⟨by rfl, by intro w' hSw; (try dsimp only at hSw); go_simp⟩) (by assumption) ?_
  refine wpAnyH_take (i := 18) (v := .pointer (some ⟨w.heap.size, 0, none⟩)) rfl (by kernel_rfl) (by kernel_rfl) (by kernel_rfl) (fun _ _ _ h => h) (Or.inl ⟨by rfl, by intro w' hSw; (try dsimp only at hSw); go_simp⟩) (by assumption) ?_
  refine wpAnyH_take (i := 19) (v := .pointer (some ⟨b, 0, none⟩)) rfl (by kernel_rfl) (by kernel_rfl) (by kernel_rfl) (fun _ _ _ h => h) (Or.inl ⟨by rfl, by intro w' hSw; (try dsimp only at hSw); go_simp⟩) (by assumption) ?_
  refine wpAnyH_take (i := 21) (v := .pointer (some ⟨w.heap.size, 0, none⟩)) rfl (by kernel_rfl) (by kernel_rfl) (by kernel_rfl) (fun _ _ _ h => h) (Or.inl ⟨by rfl, by intro w' hSw; (try dsimp only at hSw); go_simp⟩) (by assumption) ?_
  refine wpAnyH_take (i := 22) (v := .pointer (some ⟨b, 0, none⟩)) rfl (by kernel_rfl) (by kernel_rfl) (by kernel_rfl) (fun _ _ _ h => h) (Or.inl ⟨by rfl, by intro w' hSw; (try dsimp only at hSw); go_simp⟩) (by assumption) ?_
  refine wpAnyH_take (i := 24) (v := .pointer (some ⟨w.heap.size, 0, none⟩)) rfl (by kernel_rfl) (by kernel_rfl) (by kernel_rfl) (fun _ _ _ h => h) (Or.inl ⟨by rfl, by intro w' hSw; (try dsimp only at hSw); go_simp⟩) (by assumption) ?_
  refine wpAnyH_take (i := 25) (v := .pointer (some ⟨b, 0, none⟩)) rfl (by kernel_rfl) (by kernel_rfl) (by kernel_rfl) (fun _ _ _ h => h) (Or.inl ⟨by rfl, by intro w' hSw; (try dsimp only at hSw); go_simp⟩) (by assumption) ?_
  refine wpAnyH_take (i := 27) (v := .agg #[.pointer (some ⟨b, 0, none⟩)]) rfl (by kernel_rfl) (by kernel_rfl) (by kernel_rfl) (fun _ _ _ h => h) (Or.inl ⟨by rfl, by intro w' hSw; (try dsimp only at hSw); go_simp⟩) (by assumption) ?_
  refine wpAnyH_take (i := 28) (v := .agg #[.pointer (some ⟨b, 0, none⟩)]) rfl (by kernel_rfl) (by kernel_rfl) (by kernel_rfl) (fun _ _ _ h => h) (Or.inl ⟨by rfl, by intro w' hSw; (try dsimp only at hSw); go_simp⟩) (by assumption) ?_
  refine wpAnyH_take (i := 29) (v := .func (.func 76) #[.agg #[.pointer (some ⟨b, 0, none⟩)]] #[]) rfl (by kernel_rfl) (by kernel_rfl) (by kernel_rfl) (fun _ _ _ h => h) (Or.inl ⟨by rfl, by intro w' hSw; (try dsimp only at hSw); go_simp⟩) (by assumption) ?_
  refine wpAnyH_ready (rs := [2]) (by kernel_rfl) (by simp) ?_
  refine AllReadyH.cons rfl (fun K hK => ?_) AllReadyH.nil
  go_simp
  refine (rint_later (unhide R).rd (unhide E1) (Below.refl _ _)).mono ?_
  rintro e u1 ⟨rfl, r, t⟩
  have R1 := hide ((unhide R).call r (touch_new t))
  refine hK.out _ _ ?_ (fun hHeld => ?_)
  · (try dsimp only); exact (unhide R1).box
  clear hK K r t R
  refine wpAnyH_ready (rs := [5]) (by kernel_rfl) (by simp) ?_
  refine AllReadyH.cons rfl (fun K hK => ?_) AllReadyH.nil
  go_simp
  refine (rint_later (unhide R1).rd (unhide E2) (Below.refl _ _)).mono ?_
  rintro e u2 ⟨rfl, r, t⟩
  have R2 := hide ((unhide R1).call r (touch_new t))
  refine hK.out _ _ ?_ (fun hHeld => ?_)
  · (try dsimp only); exact (unhide R2).box
  clear hK K r t R1
  refine wpAnyH_ready (rs := [8]) (by kernel_rfl) (by simp) ?_
  refine AllReadyH.cons rfl (fun K hK => ?_) AllReadyH.nil
  go_simp
  refine (rint_later (unhide R2).rd (unhide E3) (Below.refl _ _)).mono ?_
  rintro e u3 ⟨rfl, r, t⟩
  have R3 := hide ((unhide R2).call r (touch_new t))
  refine hK.out _ _ ?_ (fun hHeld => ?_)
  · (try dsimp only); exact (unhide R3).box
  clear hK K r t R2
  refine wpAnyH_ready (rs := [11]) (by kernel_rfl) (by simp) ?_
  refine AllReadyH.cons rfl (fun K hK => ?_) AllReadyH.nil
  go_simp
  refine (rint_later (unhide R3).rd (unhide E4) (Below.refl _ _)).mono ?_
  rintro e u4 ⟨rfl, r, t⟩
  have R4 := hide ((unhide R3).call r (touch_new t))
  refine hK.out _ _ ?_ (fun hHeld => ?_)
  · (try dsimp only); exact (unhide R4).box
  clear hK K r t R3
  refine wpAnyH_ready (rs := [14]) (by kernel_rfl) (by simp) ?_
  refine AllReadyH.cons rfl (fun K hK => ?_) AllReadyH.nil
  go_simp
  refine (rint_later (unhide R4).rd (unhide E5) (Below.refl _ _)).mono ?_
  rintro e u5 ⟨rfl, r, t⟩
  have R5 := hide ((unhide R4).call r (touch_new t))
  refine hK.out _ _ ?_ (fun hHeld => ?_)
  · (try dsimp only); exact (unhide R5).box
  clear hK K r t R4
  refine wpAnyH_ready (rs := [17]) (by kernel_rfl) (by simp) ?_
  refine AllReadyH.cons rfl (fun K hK => ?_) AllReadyH.nil
  go_simp
  refine (rint_later (unhide R5).rd (unhide E6) (Below.refl _ _)).mono ?_
  rintro e u6 ⟨rfl, r, t⟩
  have R6 := hide ((unhide R5).call r (touch_new t))
  refine hK.out _ _ ?_ (fun hHeld => ?_)
  · (try dsimp only); exact (unhide R6).box
  clear hK K r t R5
  refine wpAnyH_ready (rs := [20]) (by kernel_rfl) (by simp) ?_
  refine AllReadyH.cons rfl (fun K hK => ?_) AllReadyH.nil
  go_simp
  refine (rint_later (unhide R6).rd (unhide E7) (Below.refl _ _)).mono ?_
  rintro e u7 ⟨rfl, r, t⟩
  have R7 := hide ((unhide R6).call r (touch_new t))
  refine hK.out _ _ ?_ (fun hHeld => ?_)
  · (try dsimp only); exact (unhide R7).box
  clear hK K r t R6
  refine wpAnyH_ready (rs := [23]) (by kernel_rfl) (by simp) ?_
  refine AllReadyH.cons rfl (fun K hK => ?_) AllReadyH.nil
  go_simp
  refine (rint_later (unhide R7).rd (unhide E8) (Below.refl _ _)).mono ?_
  rintro e u8 ⟨rfl, r, t⟩
  have R8 := hide ((unhide R7).call r (touch_new t))
  refine hK.out _ _ ?_ (fun hHeld => ?_)
  · (try dsimp only); exact (unhide R8).box
  clear hK K r t R7
  refine wpAnyH_ready (rs := [26]) (by kernel_rfl) (by simp) ?_
  refine AllReadyH.cons rfl (fun K hK => ?_) AllReadyH.nil
  go_simp
  refine (rflag_later (unhide R8).rd (unhide E9)).mono ?_
  rintro e u9 ⟨rfl, r, t⟩
  have R9 := hide ((unhide R8).call r (touch_new t))
  refine hK.out _ _ ?_ (fun hHeld => ?_)
  · (try dsimp only); exact (unhide R9).box
  clear hK K r t R8
  refine wpAnyH_ready (rs := [30]) (by kernel_rfl) (by simp) ?_
  refine AllReadyH.cons rfl (fun K hK => ?_) AllReadyH.nil
  go_simp
  have KA := takeBa_x (unhide R9).rd
  rw [unhide E10] at KA
  refine KA.mono ?_
  rintro e u10 ⟨t, h9, g9⟩
  by_cases hE : EE ≠ 0
  · obtain rfl := g9 hE
    have TT := hide ((unhide R9).tc.trans (t.mono (fun q hq => by have := (unhide R9).sz; rcases hq with e | e; exact .inl e; exact .inr (by omega))))
    have HE := hide hE
    change _ ∧ _
    exact ⟨rfl, unhide TT, fun h => absurd h (unhide HE), fun _ => rfl⟩
  replace hE : EE = 0 := Decidable.byContradiction hE
  obtain ⟨v10, rfl, r, os, va10, vc10, ev10, m10, l10, k10⟩ := h9 hE
  subst ev10
  have U10 := hide (unhide R9).sz
  have Q10 := hide k10
  have M10 := hide (And.intro m10 l10)
  have HE := hide hE
  clear h9 g9 KA k10 m10 l10 hE
  have R10 := hide ((unhide R9).call r t)
  refine hK.out _ _ ?_ (fun hHeld => ?_)
  · (try dsimp only); exact (unhide R10).box
  clear hK K r t R9
  refine wpAnyH_take (i := 31) (v := .agg #[.int .i64 x1, .int .i64 x2, .int .i64 x3, .int .i64 x4, .bool x9, .int .i64 x5, .int .i64 x6, .int .i64 x7, .int .i64 x8, .slice va10 os.length vc10]) rfl (by kernel_rfl) (by kernel_rfl) (by kernel_rfl) (fun _ _ _ h => h) (Or.inl ⟨by rfl, by intro w' hSw; (try dsimp only at hSw); go_simp⟩) (by assumption) ?_
  refine wpAnyH_ready (rs := [32]) (by kernel_rfl) (by simp) ?_
  refine AllReadyH.cons rfl (fun K hK => ?_) AllReadyH.nil
  refine wp_store_mid 31 (.tmp 2) (.tmp 34) rfl (w.heap.size + 1) 0 #[.int .i64 x1, .int .i64 x2, .int .i64 x3, .int .i64 x4, .bool x9, .int .i64 x5, .int .i64 x6, .int .i64 x7, .int .i64 x8, .slice va10 os.length vc10] rfl rfl (there_of (unhide R10).rs (Nat.le_refl _)) (by kernel_rfl) (by simp [Value.oneCell']) ?_
  have RZ := hide ((unhide R10).lay [.int .i64 x1, .int .i64 x2, .int .i64 x3, .int .i64 x4, .bool x9, .int .i64 x5, .int .i64 x6, .int .i64 x7, .int .i64 x8, .slice va10 os.length vc10] rfl)
  have QZ10 := hide ((unhide Q10).step (heap_setCells [.int .i64 x1, .int .i64 x2, .int .i64 x3, .int .i64 x4, .bool x9, .int .i64 x5, .int .i64 x6, .int .i64 x7, .int .i64 x8, .slice va10 os.length vc10] 0 u10 _ (unhide R10).rs).2 (fun k hk => .inl (by have := unhide U10; omega)))
  refine hK.out _ _ ?_ (fun hHeld => ?_)
  · (try dsimp only); exact (unhide RZ).box
  clear hK K R10
  change wpAnyH _ _ _ _ _ _ _ _ (u10.setCells (w.heap.size + 1) 0 [.int .i64 x1, .int .i64 x2, .int .i64 x3, .int .i64 x4, .bool x9, .int .i64 x5, .int .i64 x6, .int .i64 x7, .int .i64 x8, .slice va10 os.length vc10])
  generalize u10.setCells (w.heap.size + 1) 0 [.int .i64 x1, .int .i64 x2, .int .i64 x3, .int .i64 x4, .bool x9, .int .i64 x5, .int .i64 x6, .int .i64 x7, .int .i64 x8, .slice va10 os.length vc10] = V at *
  refine wpAnyH_done (by kernel_rfl) ?_ _
  have I1 : I64 x1 := by have := zag_fits (rU_fits (t := t) (s := s0) (unhide HTB)); have e := unhide E1; unfold rI at e; cases e; exact this
  have I2 : I64 x2 := by have := zag_fits (rU_fits (t := t) (s := s1) (unhide HTB)); have e := unhide E2; unfold rI at e; cases e; exact this
  have I3 : I64 x3 := by have := zag_fits (rU_fits (t := t) (s := s2) (unhide HTB)); have e := unhide E3; unfold rI at e; cases e; exact this
  have I4 : I64 x4 := by have := zag_fits (rU_fits (t := t) (s := s3) (unhide HTB)); have e := unhide E4; unfold rI at e; cases e; exact this
  have I5 : I64 x5 := by have := zag_fits (rU_fits (t := t) (s := s4) (unhide HTB)); have e := unhide E5; unfold rI at e; cases e; exact this
  have I6 : I64 x6 := by have := zag_fits (rU_fits (t := t) (s := s5) (unhide HTB)); have e := unhide E6; unfold rI at e; cases e; exact this
  have I7 : I64 x7 := by have := zag_fits (rU_fits (t := t) (s := s6) (unhide HTB)); have e := unhide E7; unfold rI at e; cases e; exact this
  have I8 : I64 x8 := by have := zag_fits (rU_fits (t := t) (s := s7) (unhide HTB)); have e := unhide E8; unfold rI at e; cases e; exact this
  have FF : Hid (RP w b a cap t EE s10 (FeV w x1 x2 x3 x4 x5 x6 x7 x8 x9 x10) (.returned (.agg #[.int .i64 x1, .int .i64 x2, .int .i64 x3, .int .i64 x4, .bool x9, .int .i64 x5, .int .i64 x6, .int .i64 x7, .int .i64 x8, .slice va10 os.length vc10])) V) := hide ⟨(unhide RZ).tc, fun _ => ⟨_, rfl, (unhide RZ).rd, os, va10, vc10, rfl, (unhide M10).1, (unhide M10).2, (fun x hx => by simp only [List.mem_cons, List.not_mem_nil, or_false] at hx; rcases hx with rfl | rfl | rfl | rfl | rfl | rfl | rfl | rfl <;> assumption), (unhide QZ10).wide (by have := unhide U10; omega) (unhide QZ10).old (Nat.le_refl _)⟩, fun h => absurd (unhide HE) h⟩
  go_wp2
  refine bodyPost_ret (res_fetched_x (unhide RZ).rs (by kernel_rfl) rfl) rfl ?_
  exact unhide FF
end
end Go.Proofs.Ytblmondkdcpkaaa
