/-
  wire's reader: msg of fetched. Conditions: the reader as it lies.
-/
import Derived.Test.YtblmondkdcpkaaaZ19
import Derived.Test.YtblmondkdcpkaaaZ22
import Derived.Test.YtblmondkdcpkaaaZ23
import Derived.Test.YtblmondkdcpkaaaZ20

/-
  wire's reader: msg of raft. Conditions: the reader as it lies.
-/
namespace Go.Proofs.Ytblmondkdcpkaaa
open Go.RowKit
set_option linter.unusedVariables false

section
variable {w : World} {b : Nat} {a : Option Addr} {cap : Nat} {t : List Nat}
set_option maxRecDepth 100000 in
set_option maxHeartbeats 16000000 in
theorem rmsg_raft {k1 k2 k3 k4 k5 : Int} {x1 x2 x3 x4 x5 x6 x7 : Int} {x8 : Bool} {EE : Int} {x9 : List (Int × List Nat)} {x10 : List Nat} {s0 s1 s2 s3 s4 s5 s6 s7 s8 s9 s10 : Rst} {t0 t1 t2 t3 t4 : Rst} (HEAD : HdAll) (h : RdAt 97 w b a cap t t0) (hk : k1 = 1) (d1 : rI t t0 = (k1, t1)) (d2 : rI t t1 = (k2, t2)) (d3 : rI t t2 = (k3, t3)) (d4 : rI t t3 = (k4, t4)) (d5 : rI t t4 = (k5, s0)) (e1 : rI t s0 = (x1, s1)) (e2 : rI t s1 = (x2, s2)) (e3 : rI t s2 = (x3, s3)) (e4 : rI t s3 = (x4, s4)) (e5 : rI t s4 = (x5, s5)) (e6 : rI t s5 = (x6, s6)) (e7 : rI t s6 = (x7, s7)) (e8 : rF t s7 = (x8, s8)) (e9 : rAll t (rEn t) s8 = (EE, x9, s9)) (e10 : rB t s9 = (x10, s10)) :
    Calls Try.prog 35 #[.agg #[.pointer (some ⟨b, 0, none⟩)]] w fun e w' => MsQ w b (oneE EE t s10) (fun m => ∃ (os : List En) (ea : Option Addr) (ec : Nat) (sa : Option Addr) (sc : Nat), m = { hdM k1 k2 k3 k4 k5 with r1 := x1, r2 := x2, r3 := x3, r4 := x4, r5 := x5, r6 := x6, r7 := x7, rj := x8, en := os, ea := ea, ec := ec, sn := x10, sa := sa, sc := sc } ∧ os.map En.vl = x9) e w' := by
  have hb0 := ((Below.refl w.heap.size w).alloc (Nat.le_refl _) (.cells #[.pointer (some ⟨b, 0, none⟩)] 84)).alloc (by simp) (.cells (mgL mg0).toArray 41)
  have hbl := h.lt
  have HTB := hide h.text.bytes
  have HX := hide (heap_old (.cells (mgL mg0).toArray 41) (heap_new w (.cells #[.pointer (some ⟨b, 0, none⟩)] 84)))
  have HZ := hide (heap_new (w.alloc (.cells #[.pointer (some ⟨b, 0, none⟩)] 84)) (.cells (mgL mg0).toArray 41))
  have hsz : (w.alloc (.cells #[.pointer (some ⟨b, 0, none⟩)] 84)).heap.size = w.heap.size + 1 := by simp
  rw [hsz] at HZ
  have hs1 : w.heap.size + 2 ≤ ((w.alloc (.cells #[.pointer (some ⟨b, 0, none⟩)] 84)).alloc (.cells (mgL mg0).toArray 41)).heap.size := by simp
  have HLW : Hid (∀ k, w.heap.size ≤ k → 0 < t.length → ∀ x, a = some x → x.block ≠ k) := hide (fun k hk => rd_low h hk)
  have KH := hide (HEAD (h.later hb0) d1 d2 d3 d4 d5)
  have HK0 : Hid (kndE k1 = 0) := hide (by unfold kndE; rw [if_neg (by omega)])
  have g1 : (k1 == 1) = true := by rw [hk]; rfl
  have T0 : Hid (Touch (fun q => q = b ∨ w.heap.size ≤ q) w ((w.alloc (.cells #[.pointer (some ⟨b, 0, none⟩)] 84)).alloc (.cells (mgL mg0).toArray 41))) := hide (Touch.of_below hb0)
  have hz5 : ∀ s, I64 (rI t s).1 := fun s => zag_fits (rU_fits h.text.bytes)
  have HI5 : Hid (∀ x ∈ [k1, k2, k3, k4, k5], I64 x) := hide (fun x hx => by
    simp only [List.mem_cons, List.not_mem_nil, or_false] at hx
    rcases hx with rfl | rfl | rfl | rfl | rfl
    · have := hz5 t0; rw [d1] at this; exact this
    · have := hz5 t1; rw [d2] at this; exact this
    · have := hz5 t2; rw [d3] at this; exact this
    · have := hz5 t3; rw [d4] at this; exact this
    · have := hz5 t4; rw [d5] at this; exact this)
  have E1 := hide e1
  have E2 := hide e2
  have E3 := hide e3
  have E4 := hide e4
  have E5 := hide e5
  have E6 := hide e6
  have E7 := hide e7
  have E8 := hide e8
  have E9 := hide e9
  have E10 := hide e10
  clear h hb0 hsz hk HEAD d1 d2 d3 d4 d5 hz5 e1 e2 e3 e4 e5 e6 e7 e8 e9 e10
  go_enter Try.func35, Try.ntmps35
  go_upto_region 1 with fail
  change Code.wp _ _ _ _ ((w.alloc (.cells #[.pointer (some ⟨b, 0, none⟩)] 84)).alloc (.cells (mgL mg0).toArray 41))
  generalize (w.alloc (.cells #[.pointer (some ⟨b, 0, none⟩)] 84)).alloc (.cells (mgL mg0).toArray 41) = W1 at *
  have z0 := cell_of (unhide HX) 0
  simp at z0
  go_wp2_with fail
  refine (unhide KH).mono ?_
  rintro e w2 ⟨t2', hh, _⟩
  obtain ⟨rfl, r2⟩ := hh (unhide HK0)
  have X2 := hide (t2'.keep (unhide HX) (by omega))
  have Z2 := hide (t2'.keep (unhide HZ) (by omega))
  have R2 := hide r2
  have hs2 : w.heap.size + 2 ≤ w2.heap.size := Nat.le_trans hs1 t2'.size
  have T2 := hide ((unhide T0).trans (t2'.mono (fun q hq => by rcases hq with e | e; exact .inl e; exact .inr (by omega))))
  clear hh t2' r2 KH T0
  have A2 := hide (heap_new w2 (.cells (mgL mg0).toArray 41))
  have HT2 := hide (there_of (o := 0) (n := (mgL (hdM k1 k2 k3 k4 k5)).toArray.size) (heap_new w2 (.cells #[.int .i64 0, .int .i64 0, .int .i64 0, .int .i64 0, .int .i64 0, .int .i64 0, .int .i64 0, .int .i64 0, .int .i64 0, .int .i64 0, .int .i64 0, .int .i64 0, .bool false, .slice none 0 0, .slice none 0 0, .int .i64 0, .int .i64 0, .int .i64 0, .int .i64 0, .int .i64 0, .int .i64 0, .int .i64 0, .int .i64 0, .int .i64 0, .bool false, .int .i64 0, .int .i64 0, .int .i64 0, .int .i64 0, .slice none 0 0, .int .i64 0, .int .i64 0, .int .i64 0, .int .i64 0, .int .i64 0, .slice none 0 0, .int .i64 0, .int .i64 0, .int .u64 0, .int .i64 0, .int .i64 0, .bool false, .bool false, .bool false, .slice none 0 0, .int .i64 0, .int .i64 0, .int .i64 0, .int .i64 0, .int .u64 0, .int .i64 0, .bool false, .int .i64 0, .int .i64 0, .int .i64 0, .slice none 0 0, .slice none 0 0, .slice none 0 0, .int .i64 0] 41)) (by rw [mg_size]; decide))
  have bA := (Below.refl w2.heap.size w2).alloc (Nat.le_refl _) (.cells (mgL mg0).toArray 41)
  have X3 := hide (below_keep bA (unhide X2))
  have Z3 := hide (below_keep bA (unhide Z2))
  have R3 := hide ((unhide R2).later bA)
  have T3 := hide ((unhide T2).trans (Touch.of_below (S := fun q => q = b ∨ w.heap.size ≤ q) bA))
  clear bA z0
  go_upto_region 2 with (with_reducible (show wpList _ _ _ (Oper.mk _ (Op.store _ _ _) _ _ _ _ :: _) _ _); refine wpList_store_mid rfl 41 (.tmp 3) (.tmp 5) rfl w2.heap.size 0 (mgL (hdM k1 k2 k3 k4 k5)).toArray rfl rfl (unhide HT2) (info_mga _) (mg_one _) ?_)
  obtain ⟨q1, q2⟩ := heap_setCells (mgL (hdM k1 k2 k3 k4 k5)) 0 (w2.alloc (.cells (mgL mg0).toArray 41)) _ (unhide A2)
  rw [lay_all (vs := mgL (hdM k1 k2 k3 k4 k5)) (by rw [mg_size]; rfl)] at q1
  change Code.wp _ _ _ _ ((w2.alloc (.cells (mgL mg0).toArray 41)).setCells w2.heap.size 0 (mgL (hdM k1 k2 k3 k4 k5)))
  have X4 := hide (q2.keep (unhide X3) (by omega))
  have Z4 := hide (q2.keep (unhide Z3) (by omega))
  have R4 := hide ((unhide R3).keep q2 (by omega) (unhide HLW w2.heap.size (by omega)))
  have T4 := hide ((unhide T3).trans (q2.mono (fun q hq => .inr (by omega))))
  have A4 := hide q1
  clear q1 q2 X3 Z3 R3 T3 A2 X2 Z2 R2 T2
  have hmb : w.heap.size + 2 ≤ w2.heap.size := hs2
  generalize (w2.alloc (.cells (mgL mg0).toArray 41)).setCells w2.heap.size 0 (mgL (hdM k1 k2 k3 k4 k5)) = W4 at *
  generalize w2.heap.size = mb at *
  have hmb4 : mb < W4.heap.size := lt_of_heap (unhide A4)
  have y0 : W4.cell? ⟨mb, 0, none⟩ = some (.int .i64 k1) := cell_of (unhide A4) 0
  have z0 := cell_of (unhide X4) 0
  simp at z0
  have HK := hide (raft_x (unhide R4) (unhide E1) (unhide E2) (unhide E3) (unhide E4) (unhide E5) (unhide E6) (unhide E7) (unhide E8) (unhide E9) (unhide E10))
  by_cases hE : EE ≠ 0
  · have HE := hide hE
    clear hE
    go_wp2_with (go_at_call 49; refine (unhide HK).mono ?_; rintro e w5 ⟨tc, _, g⟩; obtain rfl := g (unhide HE); have TT := hide ((unhide T4).trans (tc.mono (fun q hq => by rcases hq with e | e; exact .inl e; exact .inr (by omega)))); clear tc g)
    refine ⟨rfl, ?_⟩
    rw [oneE_no (unhide HE)]
    exact ⟨unhide TT, fun h => absurd h (unhide HE), fun _ => rfl⟩
  replace hE : EE = 0 := Decidable.byContradiction hE
  rw [hE] at HK
  have HE0 := hide hE
  clear hE
  go_upto_region 12 with (first
    | (go_at_call 49; refine (unhide HK).mono ?_; rintro e v5 ⟨tc, g, _⟩; obtain ⟨vv, rfl, r, os, ea, ec, sa, sc, rfl, om, ol, oi, ko⟩ := g rfl; have X5' := hide (tc.keep (unhide X4) (by omega)); have Z5' := hide (tc.keep (unhide Z4) (by omega)); have A5' := hide (tc.keep (unhide A4) (by omega)); have R5' := hide r; have T5' := hide ((unhide T4).trans (tc.mono (fun q hq => by rcases hq with e | e; exact .inl e; exact .inr (by omega)))); have hs5 : W4.heap.size ≤ v5.heap.size := tc.size; obtain ⟨CB, hCB⟩ : ∃ CB : List Value, CB = [.int .i64 x1, .int .i64 x2, .int .i64 x3, .int .i64 x4, .int .i64 x5, .int .i64 x6, .int .i64 x7, .bool x8, .slice ea os.length ec, .slice sa x10.length sc] := ⟨_, rfl⟩; have HCL : Hid (CB.toArray.all (·.oneCell') = true) := hide (by rw [hCB]; simp [Value.oneCell']); have HSZ : Hid ((Try.prog.info? 26).map (·.size) = some CB.toArray.size) := hide (by rw [hCB]; kernel_rfl); have HTH := hide (there_of (o := 5) (n := CB.toArray.size) (unhide A5') (by rw [mg_size, hCB]; show 5 + 10 ≤ 59; decide)); rw [show ([.int .i64 x1, .int .i64 x2, .int .i64 x3, .int .i64 x4, .int .i64 x5, .int .i64 x6, .int .i64 x7, .bool x8, .slice ea os.length ec, .slice sa x10.length sc] : List Value).toArray = CB.toArray from by rw [hCB]]; have HCB := hide hCB; clear g r tc hCB)
    | (with_reducible (show wpList _ _ _ (Oper.mk _ (Op.store _ _ _) _ _ _ _ :: _) _ _); (refine wpList_store_mid rfl 26 (.tmp 14) (.tmp 13) rfl mb 5 CB.toArray rfl rfl (unhide HTH) (unhide HSZ) (unhide HCL) ?_)))
  obtain ⟨MM, hMM⟩ : ∃ MM : Mg, MM = { hdM k1 k2 k3 k4 k5 with r1 := x1, r2 := x2, r3 := x3, r4 := x4, r5 := x5, r6 := x6, r7 := x7, rj := x8, en := os, ea := ea, ec := ec, sn := x10, sa := sa, sc := sc } := ⟨_, rfl⟩
  obtain ⟨qa, qb⟩ := heap_setCells CB 5 v5 _ (unhide A5')
  rw [show lay (mgL (hdM k1 k2 k3 k4 k5)).toArray 5 CB = (mgL MM).toArray by rw [hMM, unhide HCB]; kernel_rfl] at qa
  have A5 := hide qa
  have X5 := hide (qb.keep (unhide X5') (by omega))
  have Z5 := hide (qb.keep (unhide Z5') (by omega))
  have R5 := hide ((unhide R5').keep qb (by omega) (unhide HLW mb (by omega)))
  have T5 := hide ((unhide T5').trans (qb.mono (fun q hq => .inr (by omega))))
  have K5 : Hid (Keeps (mb + 1) v5.heap.size (v5.setCells mb 5 CB) (fun W => MgIn W MM)) := hide (by
    have kk := (ko.step (S := fun q => q = mb) qb (fun k hk => .inl (by omega))).wide (lo' := mb + 1) (hi' := v5.heap.size) (by omega) (Nat.le_refl _) qb.size
    refine kk.imp (fun W hW => ?_)
    rw [hMM]
    have hi := hd_in (W := W) (unhide HI5)
    exact ⟨hi.hd, oi, hW.1.1, hW.1.2, (show os.length ≤ 140737488355328 by omega), hW.2.1, hW.2.2, hi.fe, hi.ge, hi.gb, hi.gin, hi.gm, hi.c, hi.cf, hi.b, hi.bf, hi.ot, hi.pid, hi.ms, hi.msf, hi.mm, hi.bs, hi.bin, hi.bm, hi.ab, hi.ain, hi.am⟩)
  have HMM : Hid ((fun m => ∃ (os : List En) (ea : Option Addr) (ec : Nat) (sa : Option Addr) (sc : Nat), m = { hdM k1 k2 k3 k4 k5 with r1 := x1, r2 := x2, r3 := x3, r4 := x4, r5 := x5, r6 := x6, r7 := x7, rj := x8, en := os, ea := ea, ec := ec, sn := x10, sa := sa, sc := sc } ∧ os.map En.vl = x9) MM) := hide (by subst hMM; exact ⟨os, ea, ec, sa, sc, rfl, om⟩)
  change Code.wp _ _ _ _ (v5.setCells mb 5 CB)
  generalize v5.setCells mb 5 CB = w5 at *
  clear qa qb hMM HK X4 Z4 A4 R4 T4 X5' Z5' A5' R5' T5' HTH HSZ HCL HCB y0 z0
  have z0 := cell_of (unhide X5) 0
  simp at z0
  have KE := end_any w5 (unhide R5)
  have HKE := hide KE
  clear KE
  go_wp2_with fail
  refine (unhide HKE).mono ?_
  rintro e w6 ⟨rfl, nq, rfl⟩
  have b6 := below_drewN' (Below.refl w5.heap.size w5) nq
  have Z6 := hide (below_keep b6 (unhide Z5))
  have A6 := hide (below_keep b6 (unhide A5))
  have T6 := hide ((unhide T5).trans (Touch.of_below (S := fun q => q = b ∨ w.heap.size ≤ q) b6))
  have K6 := hide ((unhide K5).step (S := fun _ => False) (Touch.of_below b6) (fun _ h => h.elim))
  have hs6 : mb < w5.heap.size := lt_of_heap (unhide A5)
  have hs6' : w5.heap.size ≤ (w5.drewN nq).heap.size := b6.size
  clear b6 z0 HKE R5 X5 Z5 A5 T5 K5
  generalize w5.drewN nq = W6 at *
  generalize hEN : rE t s10 = EN at *
  have HEN := hide hEN
  clear hEN
  by_cases hE : EN = 0
  · subst hE
    go_wp2_with fail
    refine (need_any 0 W6).mono ?_
    rintro e w7 ⟨rfl, he, _⟩
    obtain rfl := he rfl
    clear he
    have HRG := hide (range_of (o := 0) (ds := mgL MM) (unhide A6) (fun j v hv => by rw [Nat.zero_add]; exact hv))
    go_upto_region 13 with fail
    have HT6 := hide (there_of (o := 0) (n := (mgL MM).toArray.size) (unhide Z6) (by rw [mg_size, mg_size]; decide))
    have HI1 := hide (info_mg MM)
    have HI2 := hide (info_mga MM)
    have HW2 := hide (mg_one MM)
    have HLN : Hid ((mgL mg0).toArray.size = (mgL MM).length) := hide rfl
    generalize hLL : mgL MM = LL at *
    have HLL := hide hLL
    clear hLL
    go_wp2_with (first
      | (with_reducible (show wpList _ _ _ (Oper.mk _ (Op.load _ _) _ _ _ _ :: _) _ _); refine wpList_load_mid rfl 41 (.tmp 3) rfl mb 0 rfl LL _ (unhide HRG) Try.underlying41 rfl (unhide HI1) ?_)
      | (with_reducible (show wpList _ _ _ (Oper.mk _ (Op.store _ _ _) _ _ _ _ :: _) _ _); refine wpList_store_mid rfl 41 (.tmp 2) (.tmp 34) rfl (w.heap.size + 1) 0 LL.toArray rfl rfl (unhide HT6) (unhide HI2) (unhide HW2) ?_))
    obtain ⟨q1, q2⟩ := heap_setCells LL 0 w7 _ (unhide Z6)
    rw [lay_all (unhide HLN)] at q1
    have FF : Hid (MsQ w b (oneE EE t s10) (fun m => ∃ (os : List En) (ea : Option Addr) (ec : Nat) (sa : Option Addr) (sc : Nat), m = { hdM k1 k2 k3 k4 k5 with r1 := x1, r2 := x2, r3 := x3, r4 := x4, r5 := x5, r6 := x6, r7 := x7, rj := x8, en := os, ea := ea, ec := ec, sn := x10, sa := sa, sc := sc } ∧ os.map En.vl = x9) (.returned (.agg LL.toArray)) (w7.setCells (w.heap.size + 1) 0 LL)) := hide ⟨(unhide T6).trans (q2.mono (fun q hq => .inr (by omega))), fun _ => ⟨MM, by rw [unhide HLL], unhide HMM, ((unhide K6).step q2 (fun k hk => .inl (by omega))).wide (by omega) (Nat.le_trans (unhide K6).old q2.size) (Nat.le_refl _)⟩, fun h => absurd ((oneE_ok (unhide HE0)).trans (congrArg (fun n : Nat => (n : Int)) (unhide HEN))) h⟩
    have RES : ∀ tmps : Array Value, tmps[2]?.getD undef = .pointer (some ⟨w.heap.size + 1, 0, none⟩) → (results Try.f35 tmps).run Try.prog (w7.setCells (w.heap.size + 1) 0 LL) = .ok (.agg LL.toArray) (w7.setCells (w.heap.size + 1) 0 LL) := fun tmps ht => by
      have e := unhide HLL
      rw [← e] at q1 ⊢
      exact res_msg q1 ht
    refine bodyPost_ret (RES _ rfl) rfl ?_
    exact unhide FF
  · have HE : Hid ((EN : Int) ≠ 0) := hide (by omega)
    have HO : Hid (oneE EE t s10 = (EN : Int)) := hide (by rw [oneE_ok (unhide HE0), unhide HEN])
    clear hE
    go_wp2_with fail
    refine (need_any (EN : Int) W6).mono ?_
    rintro e w7 ⟨rfl, _, he⟩
    obtain rfl := he (unhide HE)
    clear he
    go_wp2
    refine ⟨rfl, ?_⟩
    rw [unhide HO]
    exact ⟨unhide T6, fun h => absurd h (unhide HE), fun _ => rfl⟩
end
end Go.Proofs.Ytblmondkdcpkaaa


/-
  wire's reader: msg of fetch. Conditions: the reader as it lies.
-/
namespace Go.Proofs.Ytblmondkdcpkaaa
open Go.RowKit
set_option linter.unusedVariables false

section
variable {w : World} {b : Nat} {a : Option Addr} {cap : Nat} {t : List Nat}
set_option maxRecDepth 100000 in
set_option maxHeartbeats 16000000 in
theorem rmsg_fetch {k1 k2 k3 k4 k5 : Int} {x1 x2 x3 x4 x5 : Int} {s0 s1 s2 s3 s4 s5 : Rst} {t0 t1 t2 t3 t4 : Rst} (HEAD : HdAll) (h : RdAt 97 w b a cap t t0) (hk : k1 = 2) (d1 : rI t t0 = (k1, t1)) (d2 : rI t t1 = (k2, t2)) (d3 : rI t t2 = (k3, t3)) (d4 : rI t t3 = (k4, t4)) (d5 : rI t t4 = (k5, s0)) (e1 : rI t s0 = (x1, s1)) (e2 : rI t s1 = (x2, s2)) (e3 : rI t s2 = (x3, s3)) (e4 : rI t s3 = (x4, s4)) (e5 : rI t s4 = (x5, s5)) :
    Calls Try.prog 35 #[.agg #[.pointer (some ⟨b, 0, none⟩)]] w fun e w' => MsQ w b (oneE 0 t s5) (fun m => m = { hdM k1 k2 k3 k4 k5 with f1 := x1, f2 := x2, f3 := x3, f4 := x4, f5 := x5 }) e w' := by
  have hb0 := ((Below.refl w.heap.size w).alloc (Nat.le_refl _) (.cells #[.pointer (some ⟨b, 0, none⟩)] 84)).alloc (by simp) (.cells (mgL mg0).toArray 41)
  have hbl := h.lt
  have HTB := hide h.text.bytes
  have HX := hide (heap_old (.cells (mgL mg0).toArray 41) (heap_new w (.cells #[.pointer (some ⟨b, 0, none⟩)] 84)))
  have HZ := hide (heap_new (w.alloc (.cells #[.pointer (some ⟨b, 0, none⟩)] 84)) (.cells (mgL mg0).toArray 41))
  have hsz : (w.alloc (.cells #[.pointer (some ⟨b, 0, none⟩)] 84)).heap.size = w.heap.size + 1 := by simp
  rw [hsz] at HZ
  have hs1 : w.heap.size + 2 ≤ ((w.alloc (.cells #[.pointer (some ⟨b, 0, none⟩)] 84)).alloc (.cells (mgL mg0).toArray 41)).heap.size := by simp
  have HLW : Hid (∀ k, w.heap.size ≤ k → 0 < t.length → ∀ x, a = some x → x.block ≠ k) := hide (fun k hk => rd_low h hk)
  have KH := hide (HEAD (h.later hb0) d1 d2 d3 d4 d5)
  have HK0 : Hid (kndE k1 = 0) := hide (by unfold kndE; rw [if_neg (by omega)])
  have g1 : (k1 == 1) = false := beq_eq_false_iff_ne.2 (by omega)
  have g2 : (k1 == 2) = true := by rw [hk]; rfl
  have T0 : Hid (Touch (fun q => q = b ∨ w.heap.size ≤ q) w ((w.alloc (.cells #[.pointer (some ⟨b, 0, none⟩)] 84)).alloc (.cells (mgL mg0).toArray 41))) := hide (Touch.of_below hb0)
  have hz5 : ∀ s, I64 (rI t s).1 := fun s => zag_fits (rU_fits h.text.bytes)
  have HI5 : Hid (∀ x ∈ [k1, k2, k3, k4, k5], I64 x) := hide (fun x hx => by
    simp only [List.mem_cons, List.not_mem_nil, or_false] at hx
    rcases hx with rfl | rfl | rfl | rfl | rfl
    · have := hz5 t0; rw [d1] at this; exact this
    · have := hz5 t1; rw [d2] at this; exact this
    · have := hz5 t2; rw [d3] at this; exact this
    · have := hz5 t3; rw [d4] at this; exact this
    · have := hz5 t4; rw [d5] at this; exact this)
  have E1 := hide e1
  have E2 := hide e2
  have E3 := hide e3
  have E4 := hide e4
  have E5 := hide e5
  clear h hb0 hsz hk HEAD d1 d2 d3 d4 d5 hz5 e1 e2 e3 e4 e5
  go_enter Try.func35, Try.ntmps35
  go_upto_region 1 with fail
  change Code.wp _ _ _ _ ((w.alloc (.cells #[.pointer (some ⟨b, 0, none⟩)] 84)).alloc (.cells (mgL mg0).toArray 41))
  generalize (w.alloc (.cells #[.pointer (some ⟨b, 0, none⟩)] 84)).alloc (.cells (mgL mg0).toArray 41) = W1 at *
  have z0 := cell_of (unhide HX) 0
  simp at z0
  go_wp2_with fail
  refine (unhide KH).mono ?_
  rintro e w2 ⟨t2', hh, _⟩
  obtain ⟨rfl, r2⟩ := hh (unhide HK0)
  have X2 := hide (t2'.keep (unhide HX) (by omega))
  have Z2 := hide (t2'.keep (unhide HZ) (by omega))
  have R2 := hide r2
  have hs2 : w.heap.size + 2 ≤ w2.heap.size := Nat.le_trans hs1 t2'.size
  have T2 := hide ((unhide T0).trans (t2'.mono (fun q hq => by rcases hq with e | e; exact .inl e; exact .inr (by omega))))
  clear hh t2' r2 KH T0
  have A2 := hide (heap_new w2 (.cells (mgL mg0).toArray 41))
  have HT2 := hide (there_of (o := 0) (n := (mgL (hdM k1 k2 k3 k4 k5)).toArray.size) (heap_new w2 (.cells #[.int .i64 0, .int .i64 0, .int .i64 0, .int .i64 0, .int .i64 0, .int .i64 0, .int .i64 0, .int .i64 0, .int .i64 0, .int .i64 0, .int .i64 0, .int .i64 0, .bool false, .slice none 0 0, .slice none 0 0, .int .i64 0, .int .i64 0, .int .i64 0, .int .i64 0, .int .i64 0, .int .i64 0, .int .i64 0, .int .i64 0, .int .i64 0, .bool false, .int .i64 0, .int .i64 0, .int .i64 0, .int .i64 0, .slice none 0 0, .int .i64 0, .int .i64 0, .int .i64 0, .int .i64 0, .int .i64 0, .slice none 0 0, .int .i64 0, .int .i64 0, .int .u64 0, .int .i64 0, .int .i64 0, .bool false, .bool false, .bool false, .slice none 0 0, .int .i64 0, .int .i64 0, .int .i64 0, .int .i64 0, .int .u64 0, .int .i64 0, .bool false, .int .i64 0, .int .i64 0, .int .i64 0, .slice none 0 0, .slice none 0 0, .slice none 0 0, .int .i64 0] 41)) (by rw [mg_size]; decide))
  have bA := (Below.refl w2.heap.size w2).alloc (Nat.le_refl _) (.cells (mgL mg0).toArray 41)
  have X3 := hide (below_keep bA (unhide X2))
  have Z3 := hide (below_keep bA (unhide Z2))
  have R3 := hide ((unhide R2).later bA)
  have T3 := hide ((unhide T2).trans (Touch.of_below (S := fun q => q = b ∨ w.heap.size ≤ q) bA))
  clear bA z0
  go_upto_region 2 with (with_reducible (show wpList _ _ _ (Oper.mk _ (Op.store _ _ _) _ _ _ _ :: _) _ _); refine wpList_store_mid rfl 41 (.tmp 3) (.tmp 5) rfl w2.heap.size 0 (mgL (hdM k1 k2 k3 k4 k5)).toArray rfl rfl (unhide HT2) (info_mga _) (mg_one _) ?_)
  obtain ⟨q1, q2⟩ := heap_setCells (mgL (hdM k1 k2 k3 k4 k5)) 0 (w2.alloc (.cells (mgL mg0).toArray 41)) _ (unhide A2)
  rw [lay_all (vs := mgL (hdM k1 k2 k3 k4 k5)) (by rw [mg_size]; rfl)] at q1
  change Code.wp _ _ _ _ ((w2.alloc (.cells (mgL mg0).toArray 41)).setCells w2.heap.size 0 (mgL (hdM k1 k2 k3 k4 k5)))
  have X4 := hide (q2.keep (unhide X3) (by omega))
  have Z4 := hide (q2.keep (unhide Z3) (by omega))
  have R4 := hide ((unhide R3).keep q2 (by omega) (unhide HLW w2.heap.size (by omega)))
  have T4 := hide ((unhide T3).trans (q2.mono (fun q hq => .inr (by omega))))
  have A4 := hide q1
  clear q1 q2 X3 Z3 R3 T3 A2 X2 Z2 R2 T2
  have hmb : w.heap.size + 2 ≤ w2.heap.size := hs2
  generalize (w2.alloc (.cells (mgL mg0).toArray 41)).setCells w2.heap.size 0 (mgL (hdM k1 k2 k3 k4 k5)) = W4 at *
  generalize w2.heap.size = mb at *
  have hmb4 : mb < W4.heap.size := lt_of_heap (unhide A4)
  have y0 : W4.cell? ⟨mb, 0, none⟩ = some (.int .i64 k1) := cell_of (unhide A4) 0
  have z0 := cell_of (unhide X4) 0
  simp at z0
  have HK := hide (fetch_x (unhide R4) (unhide E1) (unhide E2) (unhide E3) (unhide E4) (unhide E5))
  go_upto_region 12 with (first
    | (go_at_call 50; refine (unhide HK).mono ?_; rintro e v5 ⟨tc, g, _⟩; obtain ⟨vv, rfl, r, rfl, j1, j2, j3, j4, j5⟩ := g rfl; have X5' := hide (tc.keep (unhide X4) (by omega)); have Z5' := hide (tc.keep (unhide Z4) (by omega)); have A5' := hide (tc.keep (unhide A4) (by omega)); have R5' := hide r; have T5' := hide ((unhide T4).trans (tc.mono (fun q hq => by rcases hq with e | e; exact .inl e; exact .inr (by omega)))); have hs5 : W4.heap.size ≤ v5.heap.size := tc.size; obtain ⟨CB, hCB⟩ : ∃ CB : List Value, CB = [.int .i64 x1, .int .i64 x2, .int .i64 x3, .int .i64 x4, .int .i64 x5] := ⟨_, rfl⟩; have HCL : Hid (CB.toArray.all (·.oneCell') = true) := hide (by rw [hCB]; simp [Value.oneCell']); have HSZ : Hid ((Try.prog.info? 28).map (·.size) = some CB.toArray.size) := hide (by rw [hCB]; kernel_rfl); have HTH := hide (there_of (o := 15) (n := CB.toArray.size) (unhide A5') (by rw [mg_size, hCB]; show 15 + 5 ≤ 59; decide)); rw [show ([.int .i64 x1, .int .i64 x2, .int .i64 x3, .int .i64 x4, .int .i64 x5] : List Value).toArray = CB.toArray from by rw [hCB]]; have HCB := hide hCB; clear g r tc hCB)
    | (with_reducible (show wpList _ _ _ (Oper.mk _ (Op.store _ _ _) _ _ _ _ :: _) _ _); (refine wpList_store_mid rfl 28 (.tmp 19) (.tmp 18) rfl mb 15 CB.toArray rfl rfl (unhide HTH) (unhide HSZ) (unhide HCL) ?_)))
  obtain ⟨MM, hMM⟩ : ∃ MM : Mg, MM = { hdM k1 k2 k3 k4 k5 with f1 := x1, f2 := x2, f3 := x3, f4 := x4, f5 := x5 } := ⟨_, rfl⟩
  obtain ⟨qa, qb⟩ := heap_setCells CB 15 v5 _ (unhide A5')
  rw [show lay (mgL (hdM k1 k2 k3 k4 k5)).toArray 15 CB = (mgL MM).toArray by rw [hMM, unhide HCB]; kernel_rfl] at qa
  have A5 := hide qa
  have X5 := hide (qb.keep (unhide X5') (by omega))
  have Z5 := hide (qb.keep (unhide Z5') (by omega))
  have R5 := hide ((unhide R5').keep qb (by omega) (unhide HLW mb (by omega)))
  have T5 := hide ((unhide T5').trans (qb.mono (fun q hq => .inr (by omega))))
  have K5 : Hid (Keeps (mb + 1) v5.heap.size (v5.setCells mb 15 CB) (fun W => MgIn W MM)) := hide (by
    refine ⟨by have := qb.size; omega, fun S w' _ _ => ?_⟩
    rw [hMM]
    have hi := hd_in (W := w') (unhide HI5)
    exact ⟨hi.hd, hi.rf, hi.en, hi.ein, hi.em, hi.sn, hi.sc, fun x hx => by simp only [List.mem_cons, List.not_mem_nil, or_false] at hx; rcases hx with rfl | rfl | rfl | rfl | rfl <;> assumption, hi.ge, hi.gb, hi.gin, hi.gm, hi.c, hi.cf, hi.b, hi.bf, hi.ot, hi.pid, hi.ms, hi.msf, hi.mm, hi.bs, hi.bin, hi.bm, hi.ab, hi.ain, hi.am⟩)
  have HMM : Hid ((fun m => m = { hdM k1 k2 k3 k4 k5 with f1 := x1, f2 := x2, f3 := x3, f4 := x4, f5 := x5 }) MM) := hide (by subst hMM; rfl)
  change Code.wp _ _ _ _ (v5.setCells mb 15 CB)
  generalize v5.setCells mb 15 CB = w5 at *
  clear qa qb hMM HK X4 Z4 A4 R4 T4 X5' Z5' A5' R5' T5' HTH HSZ HCL HCB y0 z0
  have z0 := cell_of (unhide X5) 0
  simp at z0
  have KE := end_any w5 (unhide R5)
  have HKE := hide KE
  clear KE
  go_wp2_with fail
  refine (unhide HKE).mono ?_
  rintro e w6 ⟨rfl, nq, rfl⟩
  have b6 := below_drewN' (Below.refl w5.heap.size w5) nq
  have Z6 := hide (below_keep b6 (unhide Z5))
  have A6 := hide (below_keep b6 (unhide A5))
  have T6 := hide ((unhide T5).trans (Touch.of_below (S := fun q => q = b ∨ w.heap.size ≤ q) b6))
  have K6 := hide ((unhide K5).step (S := fun _ => False) (Touch.of_below b6) (fun _ h => h.elim))
  have hs6 : mb < w5.heap.size := lt_of_heap (unhide A5)
  have hs6' : w5.heap.size ≤ (w5.drewN nq).heap.size := b6.size
  clear b6 z0 HKE R5 X5 Z5 A5 T5 K5
  generalize w5.drewN nq = W6 at *
  generalize hEN : rE t s5 = EN at *
  have HEN := hide hEN
  clear hEN
  by_cases hE : EN = 0
  · subst hE
    go_wp2_with fail
    refine (need_any 0 W6).mono ?_
    rintro e w7 ⟨rfl, he, _⟩
    obtain rfl := he rfl
    clear he
    have HRG := hide (range_of (o := 0) (ds := mgL MM) (unhide A6) (fun j v hv => by rw [Nat.zero_add]; exact hv))
    go_upto_region 13 with fail
    have HT6 := hide (there_of (o := 0) (n := (mgL MM).toArray.size) (unhide Z6) (by rw [mg_size, mg_size]; decide))
    have HI1 := hide (info_mg MM)
    have HI2 := hide (info_mga MM)
    have HW2 := hide (mg_one MM)
    have HLN : Hid ((mgL mg0).toArray.size = (mgL MM).length) := hide rfl
    generalize hLL : mgL MM = LL at *
    have HLL := hide hLL
    clear hLL
    go_wp2_with (first
      | (with_reducible (show wpList _ _ _ (Oper.mk _ (Op.load _ _) _ _ _ _ :: _) _ _); refine wpList_load_mid rfl 41 (.tmp 3) rfl mb 0 rfl LL _ (unhide HRG) Try.underlying41 rfl (unhide HI1) ?_)
      | (with_reducible (show wpList _ _ _ (Oper.mk _ (Op.store _ _ _) _ _ _ _ :: _) _ _); refine wpList_store_mid rfl 41 (.tmp 2) (.tmp 34) rfl (w.heap.size + 1) 0 LL.toArray rfl rfl (unhide HT6) (unhide HI2) (unhide HW2) ?_))
    obtain ⟨q1, q2⟩ := heap_setCells LL 0 w7 _ (unhide Z6)
    rw [lay_all (unhide HLN)] at q1
    have FF : Hid (MsQ w b (oneE 0 t s5) (fun m => m = { hdM k1 k2 k3 k4 k5 with f1 := x1, f2 := x2, f3 := x3, f4 := x4, f5 := x5 }) (.returned (.agg LL.toArray)) (w7.setCells (w.heap.size + 1) 0 LL)) := hide ⟨(unhide T6).trans (q2.mono (fun q hq => .inr (by omega))), fun _ => ⟨MM, by rw [unhide HLL], unhide HMM, ((unhide K6).step q2 (fun k hk => .inl (by omega))).wide (by omega) (Nat.le_trans (unhide K6).old q2.size) (Nat.le_refl _)⟩, fun h => absurd ((oneE_ok rfl).trans (congrArg (fun n : Nat => (n : Int)) (unhide HEN))) h⟩
    have RES : ∀ tmps : Array Value, tmps[2]?.getD undef = .pointer (some ⟨w.heap.size + 1, 0, none⟩) → (results Try.f35 tmps).run Try.prog (w7.setCells (w.heap.size + 1) 0 LL) = .ok (.agg LL.toArray) (w7.setCells (w.heap.size + 1) 0 LL) := fun tmps ht => by
      have e := unhide HLL
      rw [← e] at q1 ⊢
      exact res_msg q1 ht
    refine bodyPost_ret (RES _ rfl) rfl ?_
    exact unhide FF
  · have HE : Hid ((EN : Int) ≠ 0) := hide (by omega)
    have HO : Hid (oneE 0 t s5 = (EN : Int)) := hide (by rw [oneE_ok rfl, unhide HEN])
    clear hE
    go_wp2_with fail
    refine (need_any (EN : Int) W6).mono ?_
    rintro e w7 ⟨rfl, _, he⟩
    obtain rfl := he (unhide HE)
    clear he
    go_wp2
    refine ⟨rfl, ?_⟩
    rw [unhide HO]
    exact ⟨unhide T6, fun h => absurd h (unhide HE), fun _ => rfl⟩
end
end Go.Proofs.Ytblmondkdcpkaaa


namespace Go.Proofs.Ytblmondkdcpkaaa
open Go.RowKit
set_option linter.unusedVariables false

section
variable {w : World} {b : Nat} {a : Option Addr} {cap : Nat} {t : List Nat}
set_option maxRecDepth 100000 in
set_option maxHeartbeats 16000000 in
theorem rmsg_fetched {k1 k2 k3 k4 k5 : Int} {x1 x2 x3 x4 x5 x6 x7 x8 : Int} {x9 : Bool} {EE : Int} {x10 : List Bt} {s0 s1 s2 s3 s4 s5 s6 s7 s8 s9 s10 : Rst} {t0 t1 t2 t3 t4 : Rst} (HEAD : HdAll) (h : RdAt 97 w b a cap t t0) (hk : k1 = 3) (d1 : rI t t0 = (k1, t1)) (d2 : rI t t1 = (k2, t2)) (d3 : rI t t2 = (k3, t3)) (d4 : rI t t3 = (k4, t4)) (d5 : rI t t4 = (k5, s0)) (e1 : rI t s0 = (x1, s1)) (e2 : rI t s1 = (x2, s2)) (e3 : rI t s2 = (x3, s3)) (e4 : rI t s3 = (x4, s4)) (e5 : rI t s4 = (x5, s5)) (e6 : rI t s5 = (x6, s6)) (e7 : rI t s6 = (x7, s7)) (e8 : rI t s7 = (x8, s8)) (e9 : rF t s8 = (x9, s9)) (e10 : rAll t (rBa t) s9 = (EE, x10, s10)) :
    Calls Try.prog 35 #[.agg #[.pointer (some ⟨b, 0, none⟩)]] w fun e w' => MsQ w b (oneE EE t s10) (fun m => ∃ (os : List Ba) (ea : Option Addr) (ec : Nat), m = { hdM k1 k2 k3 k4 k5 with g1 := x1, g2 := x2, g3 := x3, g4 := x4, gd := x9, g5 := x5, g6 := x6, g7 := x7, g8 := x8, gb := os, ga := ea, gc := ec } ∧ os.map Ba.vl = x10) e w' := by
  have hb0 := ((Below.refl w.heap.size w).alloc (Nat.le_refl _) (.cells #[.pointer (some ⟨b, 0, none⟩)] 84)).alloc (by simp) (.cells (mgL mg0).toArray 41)
  have hbl := h.lt
  have HTB := hide h.text.bytes
  have HX := hide (heap_old (.cells (mgL mg0).toArray 41) (heap_new w (.cells #[.pointer (some ⟨b, 0, none⟩)] 84)))
  have HZ := hide (heap_new (w.alloc (.cells #[.pointer (some ⟨b, 0, none⟩)] 84)) (.cells (mgL mg0).toArray 41))
  have hsz : (w.alloc (.cells #[.pointer (some ⟨b, 0, none⟩)] 84)).heap.size = w.heap.size + 1 := by simp
  rw [hsz] at HZ
  have hs1 : w.heap.size + 2 ≤ ((w.alloc (.cells #[.pointer (some ⟨b, 0, none⟩)] 84)).alloc (.cells (mgL mg0).toArray 41)).heap.size := by simp
  have HLW : Hid (∀ k, w.heap.size ≤ k → 0 < t.length → ∀ x, a = some x → x.block ≠ k) := hide (fun k hk => rd_low h hk)
  have KH := hide (HEAD (h.later hb0) d1 d2 d3 d4 d5)
  have HK0 : Hid (kndE k1 = 0) := hide (by unfold kndE; rw [if_neg (by omega)])
  have g1 : (k1 == 1) = false := beq_eq_false_iff_ne.2 (by omega)
  have g2 : (k1 == 2) = false := beq_eq_false_iff_ne.2 (by omega)
  have g3 : (k1 == 3) = true := by rw [hk]; rfl
  have T0 : Hid (Touch (fun q => q = b ∨ w.heap.size ≤ q) w ((w.alloc (.cells #[.pointer (some ⟨b, 0, none⟩)] 84)).alloc (.cells (mgL mg0).toArray 41))) := hide (Touch.of_below hb0)
  have hz5 : ∀ s, I64 (rI t s).1 := fun s => zag_fits (rU_fits h.text.bytes)
  have HI5 : Hid (∀ x ∈ [k1, k2, k3, k4, k5], I64 x) := hide (fun x hx => by
    simp only [List.mem_cons, List.not_mem_nil, or_false] at hx
    rcases hx with rfl | rfl | rfl | rfl | rfl
    · have := hz5 t0; rw [d1] at this; exact this
    · have := hz5 t1; rw [d2] at this; exact this
    · have := hz5 t2; rw [d3] at this; exact this
    · have := hz5 t3; rw [d4] at this; exact this
    · have := hz5 t4; rw [d5] at this; exact this)
  have E1 := hide e1
  have E2 := hide e2
  have E3 := hide e3
  have E4 := hide e4
  have E5 := hide e5
  have E6 := hide e6
  have E7 := hide e7
  have E8 := hide e8
  have E9 := hide e9
  have E10 := hide e10
  clear h hb0 hsz hk HEAD d1 d2 d3 d4 d5 hz5 e1 e2 e3 e4 e5 e6 e7 e8 e9 e10
  go_enter Try.func35, Try.ntmps35
  go_upto_region 1 with fail
  change Code.wp _ _ _ _ ((w.alloc (.cells #[.pointer (some ⟨b, 0, none⟩)] 84)).alloc (.cells (mgL mg0).toArray 41))
  generalize (w.alloc (.cells #[.pointer (some ⟨b, 0, none⟩)] 84)).alloc (.cells (mgL mg0).toArray 41) = W1 at *
  have z0 := cell_of (unhide HX) 0
  simp at z0
  go_wp2_with fail
  refine (unhide KH).mono ?_
  rintro e w2 ⟨t2', hh, _⟩
  obtain ⟨rfl, r2⟩ := hh (unhide HK0)
  have X2 := hide (t2'.keep (unhide HX) (by omega))
  have Z2 := hide (t2'.keep (unhide HZ) (by omega))
  have R2 := hide r2
  have hs2 : w.heap.size + 2 ≤ w2.heap.size := Nat.le_trans hs1 t2'.size
  have T2 := hide ((unhide T0).trans (t2'.mono (fun q hq => by rcases hq with e | e; exact .inl e; exact .inr (by omega))))
  clear hh t2' r2 KH T0
  have A2 := hide (heap_new w2 (.cells (mgL mg0).toArray 41))
  have HT2 := hide (there_of (o := 0) (n := (mgL (hdM k1 k2 k3 k4 k5)).toArray.size) (heap_new w2 (.cells #[.int .i64 0, .int .i64 0, .int .i64 0, .int .i64 0, .int .i64 0, .int .i64 0, .int .i64 0, .int .i64 0, .int .i64 0, .int .i64 0, .int .i64 0, .int .i64 0, .bool false, .slice none 0 0, .slice none 0 0, .int .i64 0, .int .i64 0, .int .i64 0, .int .i64 0, .int .i64 0, .int .i64 0, .int .i64 0, .int .i64 0, .int .i64 0, .bool false, .int .i64 0, .int .i64 0, .int .i64 0, .int .i64 0, .slice none 0 0, .int .i64 0, .int .i64 0, .int .i64 0, .int .i64 0, .int .i64 0, .slice none 0 0, .int .i64 0, .int .i64 0, .int .u64 0, .int .i64 0, .int .i64 0, .bool false, .bool false, .bool false, .slice none 0 0, .int .i64 0, .int .i64 0, .int .i64 0, .int .i64 0, .int .u64 0, .int .i64 0, .bool false, .int .i64 0, .int .i64 0, .int .i64 0, .slice none 0 0, .slice none 0 0, .slice none 0 0, .int .i64 0] 41)) (by rw [mg_size]; decide))
  have bA := (Below.refl w2.heap.size w2).alloc (Nat.le_refl _) (.cells (mgL mg0).toArray 41)
  have X3 := hide (below_keep bA (unhide X2))
  have Z3 := hide (below_keep bA (unhide Z2))
  have R3 := hide ((unhide R2).later bA)
  have T3 := hide ((unhide T2).trans (Touch.of_below (S := fun q => q = b ∨ w.heap.size ≤ q) bA))
  clear bA z0
  go_upto_region 2 with (with_reducible (show wpList _ _ _ (Oper.mk _ (Op.store _ _ _) _ _ _ _ :: _) _ _); refine wpList_store_mid rfl 41 (.tmp 3) (.tmp 5) rfl w2.heap.size 0 (mgL (hdM k1 k2 k3 k4 k5)).toArray rfl rfl (unhide HT2) (info_mga _) (mg_one _) ?_)
  obtain ⟨q1, q2⟩ := heap_setCells (mgL (hdM k1 k2 k3 k4 k5)) 0 (w2.alloc (.cells (mgL mg0).toArray 41)) _ (unhide A2)
  rw [lay_all (vs := mgL (hdM k1 k2 k3 k4 k5)) (by rw [mg_size]; rfl)] at q1
  change Code.wp _ _ _ _ ((w2.alloc (.cells (mgL mg0).toArray 41)).setCells w2.heap.size 0 (mgL (hdM k1 k2 k3 k4 k5)))
  have X4 := hide (q2.keep (unhide X3) (by omega))
  have Z4 := hide (q2.keep (unhide Z3) (by omega))
  have R4 := hide ((unhide R3).keep q2 (by omega) (unhide HLW w2.heap.size (by omega)))
  have T4 := hide ((unhide T3).trans (q2.mono (fun q hq => .inr (by omega))))
  have A4 := hide q1
  clear q1 q2 X3 Z3 R3 T3 A2 X2 Z2 R2 T2
  have hmb : w.heap.size + 2 ≤ w2.heap.size := hs2
  generalize (w2.alloc (.cells (mgL mg0).toArray 41)).setCells w2.heap.size 0 (mgL (hdM k1 k2 k3 k4 k5)) = W4 at *
  generalize w2.heap.size = mb at *
  have hmb4 : mb < W4.heap.size := lt_of_heap (unhide A4)
  have y0 : W4.cell? ⟨mb, 0, none⟩ = some (.int .i64 k1) := cell_of (unhide A4) 0
  have z0 := cell_of (unhide X4) 0
  simp at z0
  have HK := hide (fetched_x (unhide R4) (unhide E1) (unhide E2) (unhide E3) (unhide E4) (unhide E5) (unhide E6) (unhide E7) (unhide E8) (unhide E9) (unhide E10))
  by_cases hE : EE ≠ 0
  · have HE := hide hE
    clear hE
    go_wp2_with (go_at_call 51; refine (unhide HK).mono ?_; rintro e w5 ⟨tc, _, g⟩; obtain rfl := g (unhide HE); have TT := hide ((unhide T4).trans (tc.mono (fun q hq => by rcases hq with e | e; exact .inl e; exact .inr (by omega)))); clear tc g)
    refine ⟨rfl, ?_⟩
    rw [oneE_no (unhide HE)]
    exact ⟨unhide TT, fun h => absurd h (unhide HE), fun _ => rfl⟩
  replace hE : EE = 0 := Decidable.byContradiction hE
  rw [hE] at HK
  have HE0 := hide hE
  clear hE
  go_upto_region 12 with (first
    | (go_at_call 51; refine (unhide HK).mono ?_; rintro e v5 ⟨tc, g, _⟩; obtain ⟨vv, rfl, r, os, ea, ec, rfl, om, ol, oi, ko⟩ := g rfl; have X5' := hide (tc.keep (unhide X4) (by omega)); have Z5' := hide (tc.keep (unhide Z4) (by omega)); have A5' := hide (tc.keep (unhide A4) (by omega)); have R5' := hide r; have T5' := hide ((unhide T4).trans (tc.mono (fun q hq => by rcases hq with e | e; exact .inl e; exact .inr (by omega)))); have hs5 : W4.heap.size ≤ v5.heap.size := tc.size; obtain ⟨CB, hCB⟩ : ∃ CB : List Value, CB = [.int .i64 x1, .int .i64 x2, .int .i64 x3, .int .i64 x4, .bool x9, .int .i64 x5, .int .i64 x6, .int .i64 x7, .int .i64 x8, .slice ea os.length ec] := ⟨_, rfl⟩; have HCL : Hid (CB.toArray.all (·.oneCell') = true) := hide (by rw [hCB]; simp [Value.oneCell']); have HSZ : Hid ((Try.prog.info? 31).map (·.size) = some CB.toArray.size) := hide (by rw [hCB]; kernel_rfl); have HTH := hide (there_of (o := 20) (n := CB.toArray.size) (unhide A5') (by rw [mg_size, hCB]; show 20 + 10 ≤ 59; decide)); rw [show ([.int .i64 x1, .int .i64 x2, .int .i64 x3, .int .i64 x4, .bool x9, .int .i64 x5, .int .i64 x6, .int .i64 x7, .int .i64 x8, .slice ea os.length ec] : List Value).toArray = CB.toArray from by rw [hCB]]; have HCB := hide hCB; clear g r tc hCB)
    | (with_reducible (show wpList _ _ _ (Oper.mk _ (Op.store _ _ _) _ _ _ _ :: _) _ _); (refine wpList_store_mid rfl 31 (.tmp 24) (.tmp 23) rfl mb 20 CB.toArray rfl rfl (unhide HTH) (unhide HSZ) (unhide HCL) ?_)))
  obtain ⟨MM, hMM⟩ : ∃ MM : Mg, MM = { hdM k1 k2 k3 k4 k5 with g1 := x1, g2 := x2, g3 := x3, g4 := x4, gd := x9, g5 := x5, g6 := x6, g7 := x7, g8 := x8, gb := os, ga := ea, gc := ec } := ⟨_, rfl⟩
  obtain ⟨qa, qb⟩ := heap_setCells CB 20 v5 _ (unhide A5')
  rw [show lay (mgL (hdM k1 k2 k3 k4 k5)).toArray 20 CB = (mgL MM).toArray by rw [hMM, unhide HCB]; kernel_rfl] at qa
  have A5 := hide qa
  have X5 := hide (qb.keep (unhide X5') (by omega))
  have Z5 := hide (qb.keep (unhide Z5') (by omega))
  have R5 := hide ((unhide R5').keep qb (by omega) (unhide HLW mb (by omega)))
  have T5 := hide ((unhide T5').trans (qb.mono (fun q hq => .inr (by omega))))
  have K5 : Hid (Keeps (mb + 1) v5.heap.size (v5.setCells mb 20 CB) (fun W => MgIn W MM)) := hide (by
    have kk := (ko.step (S := fun q => q = mb) qb (fun k hk => .inl (by omega))).wide (lo' := mb + 1) (hi' := v5.heap.size) (by omega) (Nat.le_refl _) qb.size
    refine kk.imp (fun W hW => ?_)
    rw [hMM]
    have hi := hd_in (W := W) (unhide HI5)
    exact ⟨hi.hd, hi.rf, hi.en, hi.ein, hi.em, hi.sn, hi.sc, hi.fe, oi, hW.1, hW.2, (show os.length ≤ 140737488355328 by omega), hi.c, hi.cf, hi.b, hi.bf, hi.ot, hi.pid, hi.ms, hi.msf, hi.mm, hi.bs, hi.bin, hi.bm, hi.ab, hi.ain, hi.am⟩)
  have HMM : Hid ((fun m => ∃ (os : List Ba) (ea : Option Addr) (ec : Nat), m = { hdM k1 k2 k3 k4 k5 with g1 := x1, g2 := x2, g3 := x3, g4 := x4, gd := x9, g5 := x5, g6 := x6, g7 := x7, g8 := x8, gb := os, ga := ea, gc := ec } ∧ os.map Ba.vl = x10) MM) := hide (by subst hMM; exact ⟨os, ea, ec, rfl, om⟩)
  change Code.wp _ _ _ _ (v5.setCells mb 20 CB)
  generalize v5.setCells mb 20 CB = w5 at *
  clear qa qb hMM HK X4 Z4 A4 R4 T4 X5' Z5' A5' R5' T5' HTH HSZ HCL HCB y0 z0
  have z0 := cell_of (unhide X5) 0
  simp at z0
  have KE := end_any w5 (unhide R5)
  have HKE := hide KE
  clear KE
  go_wp2_with fail
  refine (unhide HKE).mono ?_
  rintro e w6 ⟨rfl, nq, rfl⟩
  have b6 := below_drewN' (Below.refl w5.heap.size w5) nq
  have Z6 := hide (below_keep b6 (unhide Z5))
  have A6 := hide (below_keep b6 (unhide A5))
  have T6 := hide ((unhide T5).trans (Touch.of_below (S := fun q => q = b ∨ w.heap.size ≤ q) b6))
  have K6 := hide ((unhide K5).step (S := fun _ => False) (Touch.of_below b6) (fun _ h => h.elim))
  have hs6 : mb < w5.heap.size := lt_of_heap (unhide A5)
  have hs6' : w5.heap.size ≤ (w5.drewN nq).heap.size := b6.size
  clear b6 z0 HKE R5 X5 Z5 A5 T5 K5
  generalize w5.drewN nq = W6 at *
  generalize hEN : rE t s10 = EN at *
  have HEN := hide hEN
  clear hEN
  by_cases hE : EN = 0
  · subst hE
    go_wp2_with fail
    refine (need_any 0 W6).mono ?_
    rintro e w7 ⟨rfl, he, _⟩
    obtain rfl := he rfl
    clear he
    have HRG := hide (range_of (o := 0) (ds := mgL MM) (unhide A6) (fun j v hv => by rw [Nat.zero_add]; exact hv))
    go_upto_region 13 with fail
    have HT6 := hide (there_of (o := 0) (n := (mgL MM).toArray.size) (unhide Z6) (by rw [mg_size, mg_size]; decide))
    have HI1 := hide (info_mg MM)
    have HI2 := hide (info_mga MM)
    have HW2 := hide (mg_one MM)
    have HLN : Hid ((mgL mg0).toArray.size = (mgL MM).length) := hide rfl
    generalize hLL : mgL MM = LL at *
    have HLL := hide hLL
    clear hLL
    go_wp2_with (first
      | (with_reducible (show wpList _ _ _ (Oper.mk _ (Op.load _ _) _ _ _ _ :: _) _ _); refine wpList_load_mid rfl 41 (.tmp 3) rfl mb 0 rfl LL _ (unhide HRG) Try.underlying41 rfl (unhide HI1) ?_)
      | (with_reducible (show wpList _ _ _ (Oper.mk _ (Op.store _ _ _) _ _ _ _ :: _) _ _); refine wpList_store_mid rfl 41 (.tmp 2) (.tmp 34) rfl (w.heap.size + 1) 0 LL.toArray rfl rfl (unhide HT6) (unhide HI2) (unhide HW2) ?_))
    obtain ⟨q1, q2⟩ := heap_setCells LL 0 w7 _ (unhide Z6)
    rw [lay_all (unhide HLN)] at q1
    have FF : Hid (MsQ w b (oneE EE t s10) (fun m => ∃ (os : List Ba) (ea : Option Addr) (ec : Nat), m = { hdM k1 k2 k3 k4 k5 with g1 := x1, g2 := x2, g3 := x3, g4 := x4, gd := x9, g5 := x5, g6 := x6, g7 := x7, g8 := x8, gb := os, ga := ea, gc := ec } ∧ os.map Ba.vl = x10) (.returned (.agg LL.toArray)) (w7.setCells (w.heap.size + 1) 0 LL)) := hide ⟨(unhide T6).trans (q2.mono (fun q hq => .inr (by omega))), fun _ => ⟨MM, by rw [unhide HLL], unhide HMM, ((unhide K6).step q2 (fun k hk => .inl (by omega))).wide (by omega) (Nat.le_trans (unhide K6).old q2.size) (Nat.le_refl _)⟩, fun h => absurd ((oneE_ok (unhide HE0)).trans (congrArg (fun n : Nat => (n : Int)) (unhide HEN))) h⟩
    have RES : ∀ tmps : Array Value, tmps[2]?.getD undef = .pointer (some ⟨w.heap.size + 1, 0, none⟩) → (results Try.f35 tmps).run Try.prog (w7.setCells (w.heap.size + 1) 0 LL) = .ok (.agg LL.toArray) (w7.setCells (w.heap.size + 1) 0 LL) := fun tmps ht => by
      have e := unhide HLL
      rw [← e] at q1 ⊢
      exact res_msg q1 ht
    refine bodyPost_ret (RES _ rfl) rfl ?_
    exact unhide FF
  · have HE : Hid ((EN : Int) ≠ 0) := hide (by omega)
    have HO : Hid (oneE EE t s10 = (EN : Int)) := hide (by rw [oneE_ok (unhide HE0), unhide HEN])
    clear hE
    go_wp2_with fail
    refine (need_any (EN : Int) W6).mono ?_
    rintro e w7 ⟨rfl, _, he⟩
    obtain rfl := he (unhide HE)
    clear he
    go_wp2
    refine ⟨rfl, ?_⟩
    rw [unhide HO]
    exact ⟨unhide T6, fun h => absurd h (unhide HE), fun _ => rfl⟩
end
end Go.Proofs.Ytblmondkdcpkaaa
