/-
  wire's reader: msg of others. Conditions: the reader as it lies.
-/
import Derived.Test.YtblmondkdcpkaaaZ19
import Derived.Test.YtblmondkdcpkaaaZ22
import Derived.Test.YtblmondkdcpkaaaZ25
import Derived.Test.YtblmondkdcpkaaaZ17

/-
  wire's reader: msg of cmd. Conditions: the reader as it lies.
-/
namespace Go.Proofs.Ytblmondkdcpkaaa
open Go.RowKit
set_option linter.unusedVariables false

section
variable {w : World} {b : Nat} {a : Option Addr} {cap : Nat} {t : List Nat}
set_option maxRecDepth 100000 in
set_option maxHeartbeats 16000000 in
theorem rmsg_cmd {k1 k2 k3 k4 k5 : Int} {x1 : List Nat} {s0 s1 : Rst} {t0 t1 t2 t3 t4 : Rst} (HEAD : HdAll) (h : RdAt 97 w b a cap t t0) (hk : k1 = 4) (d1 : rI t t0 = (k1, t1)) (d2 : rI t t1 = (k2, t2)) (d3 : rI t t2 = (k3, t3)) (d4 : rI t t3 = (k4, t4)) (d5 : rI t t4 = (k5, s0)) (e1 : rB t s0 = (x1, s1)) :
    Calls Try.prog 35 #[.agg #[.pointer (some ⟨b, 0, none⟩)]] w fun e w' => MsQ w b (oneE (cmdX x1) t s1) (fun m => ∃ c : Cm, m = { hdM k1 k2 k3 k4 k5 with c := c } ∧ { c with a := none, k := 0 } = rawC x1) e w' := by
  have hb0 := ((Below.refl w.heap.size w).alloc (Nat.le_refl _) (.cells #[.pointer (some ⟨b, 0, none⟩)] 84)).alloc (by simp) (.cells (mgL mg0).toArray 41)
  have hbl := h.lt
  have HTB := hide h.text.bytes
  have HX := hide (heap_old (.cells (mgL mg0).toArray 41) (heap_new w (.cells #[.pointer (some ⟨b, 0, none⟩)] 84)))
  have HZ := hide (heap_new (w.alloc (.cells #[.pointer (some ⟨b, 0, none⟩)] 84)) (.cells (mgL mg0).toArray 41))
  have hsz : (w.alloc (.cells #[.pointer (some ⟨b, 0, none⟩)] 84)).heap.size = w.heap.size + 1 := by simp
  rw [hsz] at HZ
  have hs1 : w.heap.size + 2 ≤ ((w.alloc (.cells #[.pointer (some ⟨b, 0, none⟩)] 84)).alloc (.cells (mgL mg0).toArray 41)).heap.size := by simp
  have HLW : Hid (∀ k, w.heap.size ≤ k → 0 < t.length → ∀ x, a = some x → x.block ≠ k) := hide (fun k hk => rd_low h hk)
  have KH := hide (HEAD (h.later hb0) d1 d2 d3 d4 d5)
  have HK0 : Hid (kndE k1 = 0) := hide (by unfold kndE; rw [if_neg (by omega)])
  have g1 : (k1 == 1) = false := beq_eq_false_iff_ne.2 (by omega)
  have g2 : (k1 == 2) = false := beq_eq_false_iff_ne.2 (by omega)
  have g3 : (k1 == 3) = false := beq_eq_false_iff_ne.2 (by omega)
  have g4 : (k1 == 4) = true := by rw [hk]; rfl
  have T0 : Hid (Touch (fun q => q = b ∨ w.heap.size ≤ q) w ((w.alloc (.cells #[.pointer (some ⟨b, 0, none⟩)] 84)).alloc (.cells (mgL mg0).toArray 41))) := hide (Touch.of_below hb0)
  have hz5 : ∀ s, I64 (rI t s).1 := fun s => zag_fits (rU_fits h.text.bytes)
  have HI5 : Hid (∀ x ∈ [k1, k2, k3, k4, k5], I64 x) := hide (fun x hx => by
    simp only [List.mem_cons, List.not_mem_nil, or_false] at hx
    rcases hx with rfl | rfl | rfl | rfl | rfl
    · have := hz5 t0; rw [d1] at this; exact this
    · have := hz5 t1; rw [d2] at this; exact this
    · have := hz5 t2; rw [d3] at this; exact this
    · have := hz5 t3; rw [d4] at this; exact this
    · have := hz5 t4; rw [d5] at this; exact this)
  have E1 := hide e1
  clear h hb0 hsz hk HEAD d1 d2 d3 d4 d5 hz5 e1
  go_enter Try.func35, Try.ntmps35
  go_upto_region 1 with fail
  change Code.wp _ _ _ _ ((w.alloc (.cells #[.pointer (some ⟨b, 0, none⟩)] 84)).alloc (.cells (mgL mg0).toArray 41))
  generalize (w.alloc (.cells #[.pointer (some ⟨b, 0, none⟩)] 84)).alloc (.cells (mgL mg0).toArray 41) = W1 at *
  have z0 := cell_of (unhide HX) 0
  simp at z0
  go_wp2_with fail
  refine (unhide KH).mono ?_
  rintro e w2 ⟨t2', hh, _⟩
  obtain ⟨rfl, r2⟩ := hh (unhide HK0)
  have X2 := hide (t2'.keep (unhide HX) (by omega))
  have Z2 := hide (t2'.keep (unhide HZ) (by omega))
  have R2 := hide r2
  have hs2 : w.heap.size + 2 ≤ w2.heap.size := Nat.le_trans hs1 t2'.size
  have T2 := hide ((unhide T0).trans (t2'.mono (fun q hq => by rcases hq with e | e; exact .inl e; exact .inr (by omega))))
  clear hh t2' r2 KH T0
  have A2 := hide (heap_new w2 (.cells (mgL mg0).toArray 41))
  have HT2 := hide (there_of (o := 0) (n := (mgL (hdM k1 k2 k3 k4 k5)).toArray.size) (heap_new w2 (.cells #[.int .i64 0, .int .i64 0, .int .i64 0, .int .i64 0, .int .i64 0, .int .i64 0, .int .i64 0, .int .i64 0, .int .i64 0, .int .i64 0, .int .i64 0, .int .i64 0, .bool false, .slice none 0 0, .slice none 0 0, .int .i64 0, .int .i64 0, .int .i64 0, .int .i64 0, .int .i64 0, .int .i64 0, .int .i64 0, .int .i64 0, .int .i64 0, .bool false, .int .i64 0, .int .i64 0, .int .i64 0, .int .i64 0, .slice none 0 0, .int .i64 0, .int .i64 0, .int .i64 0, .int .i64 0, .int .i64 0, .slice none 0 0, .int .i64 0, .int .i64 0, .int .u64 0, .int .i64 0, .int .i64 0, .bool false, .bool false, .bool false, .slice none 0 0, .int .i64 0, .int .i64 0, .int .i64 0, .int .i64 0, .int .u64 0, .int .i64 0, .bool false, .int .i64 0, .int .i64 0, .int .i64 0, .slice none 0 0, .slice none 0 0, .slice none 0 0, .int .i64 0] 41)) (by rw [mg_size]; decide))
  have bA := (Below.refl w2.heap.size w2).alloc (Nat.le_refl _) (.cells (mgL mg0).toArray 41)
  have X3 := hide (below_keep bA (unhide X2))
  have Z3 := hide (below_keep bA (unhide Z2))
  have R3 := hide ((unhide R2).later bA)
  have T3 := hide ((unhide T2).trans (Touch.of_below (S := fun q => q = b ∨ w.heap.size ≤ q) bA))
  clear bA z0
  go_upto_region 2 with (with_reducible (show wpList _ _ _ (Oper.mk _ (Op.store _ _ _) _ _ _ _ :: _) _ _); refine wpList_store_mid rfl 41 (.tmp 3) (.tmp 5) rfl w2.heap.size 0 (mgL (hdM k1 k2 k3 k4 k5)).toArray rfl rfl (unhide HT2) (info_mga _) (mg_one _) ?_)
  obtain ⟨q1, q2⟩ := heap_setCells (mgL (hdM k1 k2 k3 k4 k5)) 0 (w2.alloc (.cells (mgL mg0).toArray 41)) _ (unhide A2)
  rw [lay_all (vs := mgL (hdM k1 k2 k3 k4 k5)) (by rw [mg_size]; rfl)] at q1
  change Code.wp _ _ _ _ ((w2.alloc (.cells (mgL mg0).toArray 41)).setCells w2.heap.size 0 (mgL (hdM k1 k2 k3 k4 k5)))
  have X4 := hide (q2.keep (unhide X3) (by omega))
  have Z4 := hide (q2.keep (unhide Z3) (by omega))
  have R4 := hide ((unhide R3).keep q2 (by omega) (unhide HLW w2.heap.size (by omega)))
  have T4 := hide ((unhide T3).trans (q2.mono (fun q hq => .inr (by omega))))
  have A4 := hide q1
  clear q1 q2 X3 Z3 R3 T3 A2 X2 Z2 R2 T2
  have hmb : w.heap.size + 2 ≤ w2.heap.size := hs2
  generalize (w2.alloc (.cells (mgL mg0).toArray 41)).setCells w2.heap.size 0 (mgL (hdM k1 k2 k3 k4 k5)) = W4 at *
  generalize w2.heap.size = mb at *
  have hmb4 : mb < W4.heap.size := lt_of_heap (unhide A4)
  have y0 : W4.cell? ⟨mb, 0, none⟩ = some (.int .i64 k1) := cell_of (unhide A4) 0
  have z0 := cell_of (unhide X4) 0
  simp at z0
  have HK := hide (cmd_x (unhide R4) (unhide E1))
  by_cases hE : cmdX x1 ≠ 0
  · have HE := hide hE
    clear hE
    go_wp2_with (go_at_call 52; refine (unhide HK).mono ?_; rintro e w5 ⟨tc, _, g⟩; obtain rfl := g (unhide HE); have TT := hide ((unhide T4).trans (tc.mono (fun q hq => by rcases hq with e | e; exact .inl e; exact .inr (by omega)))); clear tc g)
    refine ⟨rfl, ?_⟩
    rw [oneE_no (unhide HE)]
    exact ⟨unhide TT, fun h => absurd h (unhide HE), fun _ => rfl⟩
  replace hE : cmdX x1 = 0 := Decidable.byContradiction hE
  rw [hE] at HK
  have HE0 := hide hE
  clear hE
  go_upto_region 12 with (first
    | (go_at_call 52; refine (unhide HK).mono ?_; rintro e v5 ⟨tc, g, _⟩; obtain ⟨vv, rfl, r, c, rfl, oc, fc, ko⟩ := g rfl; have X5' := hide (tc.keep (unhide X4) (by omega)); have Z5' := hide (tc.keep (unhide Z4) (by omega)); have A5' := hide (tc.keep (unhide A4) (by omega)); have R5' := hide r; have T5' := hide ((unhide T4).trans (tc.mono (fun q hq => by rcases hq with e | e; exact .inl e; exact .inr (by omega)))); have hs5 : W4.heap.size ≤ v5.heap.size := tc.size; obtain ⟨CB, hCB⟩ : ∃ CB : List Value, CB = cmL c := ⟨_, rfl⟩; have HCL : Hid (CB.toArray.all (·.oneCell') = true) := hide (by rw [hCB]; simp [Value.oneCell', cmL]); have HSZ : Hid ((Try.prog.info? 34).map (·.size) = some CB.toArray.size) := hide (by rw [hCB]; kernel_rfl); have HTH := hide (there_of (o := 30) (n := CB.toArray.size) (unhide A5') (by rw [mg_size, hCB]; show 30 + 6 ≤ 59; decide)); rw [show (cmL c : List Value).toArray = CB.toArray from by rw [hCB]]; have HCB := hide hCB; clear g r tc hCB)
    | (with_reducible (show wpList _ _ _ (Oper.mk _ (Op.store _ _ _) _ _ _ _ :: _) _ _); (refine wpList_store_mid rfl 34 (.tmp 29) (.tmp 28) rfl mb 30 CB.toArray rfl rfl (unhide HTH) (unhide HSZ) (unhide HCL) ?_)))
  obtain ⟨MM, hMM⟩ : ∃ MM : Mg, MM = { hdM k1 k2 k3 k4 k5 with c := c } := ⟨_, rfl⟩
  obtain ⟨qa, qb⟩ := heap_setCells CB 30 v5 _ (unhide A5')
  rw [show lay (mgL (hdM k1 k2 k3 k4 k5)).toArray 30 CB = (mgL MM).toArray by rw [hMM, unhide HCB]; kernel_rfl] at qa
  have A5 := hide qa
  have X5 := hide (qb.keep (unhide X5') (by omega))
  have Z5 := hide (qb.keep (unhide Z5') (by omega))
  have R5 := hide ((unhide R5').keep qb (by omega) (unhide HLW mb (by omega)))
  have T5 := hide ((unhide T5').trans (qb.mono (fun q hq => .inr (by omega))))
  have K5 : Hid (Keeps (mb + 1) v5.heap.size (v5.setCells mb 30 CB) (fun W => MgIn W MM)) := hide (by
    have kk := (ko.step (S := fun q => q = mb) qb (fun k hk => .inl (by omega))).wide (lo' := mb + 1) (hi' := v5.heap.size) (by omega) (Nat.le_refl _) qb.size
    refine kk.imp (fun W hW => ?_)
    rw [hMM]
    have hi := hd_in (W := W) (unhide HI5)
    exact ⟨hi.hd, hi.rf, hi.en, hi.ein, hi.em, hi.sn, hi.sc, hi.fe, hi.ge, hi.gb, hi.gin, hi.gm, hW, fc, hi.b, hi.bf, hi.ot, hi.pid, hi.ms, hi.msf, hi.mm, hi.bs, hi.bin, hi.bm, hi.ab, hi.ain, hi.am⟩)
  have HMM : Hid ((fun m => ∃ c : Cm, m = { hdM k1 k2 k3 k4 k5 with c := c } ∧ { c with a := none, k := 0 } = rawC x1) MM) := hide (by subst hMM; exact ⟨c, rfl, oc⟩)
  change Code.wp _ _ _ _ (v5.setCells mb 30 CB)
  generalize v5.setCells mb 30 CB = w5 at *
  clear qa qb hMM HK X4 Z4 A4 R4 T4 X5' Z5' A5' R5' T5' HTH HSZ HCL HCB y0 z0
  have z0 := cell_of (unhide X5) 0
  simp at z0
  have KE := end_any w5 (unhide R5)
  have HKE := hide KE
  clear KE
  go_wp2_with fail
  refine (unhide HKE).mono ?_
  rintro e w6 ⟨rfl, nq, rfl⟩
  have b6 := below_drewN' (Below.refl w5.heap.size w5) nq
  have Z6 := hide (below_keep b6 (unhide Z5))
  have A6 := hide (below_keep b6 (unhide A5))
  have T6 := hide ((unhide T5).trans (Touch.of_below (S := fun q => q = b ∨ w.heap.size ≤ q) b6))
  have K6 := hide ((unhide K5).step (S := fun _ => False) (Touch.of_below b6) (fun _ h => h.elim))
  have hs6 : mb < w5.heap.size := lt_of_heap (unhide A5)
  have hs6' : w5.heap.size ≤ (w5.drewN nq).heap.size := b6.size
  clear b6 z0 HKE R5 X5 Z5 A5 T5 K5
  generalize w5.drewN nq = W6 at *
  generalize hEN : rE t s1 = EN at *
  have HEN := hide hEN
  clear hEN
  by_cases hE : EN = 0
  · subst hE
    go_wp2_with fail
    refine (need_any 0 W6).mono ?_
    rintro e w7 ⟨rfl, he, _⟩
    obtain rfl := he rfl
    clear he
    have HRG := hide (range_of (o := 0) (ds := mgL MM) (unhide A6) (fun j v hv => by rw [Nat.zero_add]; exact hv))
    go_upto_region 13 with fail
    have HT6 := hide (there_of (o := 0) (n := (mgL MM).toArray.size) (unhide Z6) (by rw [mg_size, mg_size]; decide))
    have HI1 := hide (info_mg MM)
    have HI2 := hide (info_mga MM)
    have HW2 := hide (mg_one MM)
    have HLN : Hid ((mgL mg0).toArray.size = (mgL MM).length) := hide rfl
    generalize hLL : mgL MM = LL at *
    have HLL := hide hLL
    clear hLL
    go_wp2_with (first
      | (with_reducible (show wpList _ _ _ (Oper.mk _ (Op.load _ _) _ _ _ _ :: _) _ _); refine wpList_load_mid rfl 41 (.tmp 3) rfl mb 0 rfl LL _ (unhide HRG) Try.underlying41 rfl (unhide HI1) ?_)
      | (with_reducible (show wpList _ _ _ (Oper.mk _ (Op.store _ _ _) _ _ _ _ :: _) _ _); refine wpList_store_mid rfl 41 (.tmp 2) (.tmp 34) rfl (w.heap.size + 1) 0 LL.toArray rfl rfl (unhide HT6) (unhide HI2) (unhide HW2) ?_))
    obtain ⟨q1, q2⟩ := heap_setCells LL 0 w7 _ (unhide Z6)
    rw [lay_all (unhide HLN)] at q1
    have FF : Hid (MsQ w b (oneE (cmdX x1) t s1) (fun m => ∃ c : Cm, m = { hdM k1 k2 k3 k4 k5 with c := c } ∧ { c with a := none, k := 0 } = rawC x1) (.returned (.agg LL.toArray)) (w7.setCells (w.heap.size + 1) 0 LL)) := hide ⟨(unhide T6).trans (q2.mono (fun q hq => .inr (by omega))), fun _ => ⟨MM, by rw [unhide HLL], unhide HMM, ((unhide K6).step q2 (fun k hk => .inl (by omega))).wide (by omega) (Nat.le_trans (unhide K6).old q2.size) (Nat.le_refl _)⟩, fun h => absurd ((oneE_ok (unhide HE0)).trans (congrArg (fun n : Nat => (n : Int)) (unhide HEN))) h⟩
    have RES : ∀ tmps : Array Value, tmps[2]?.getD undef = .pointer (some ⟨w.heap.size + 1, 0, none⟩) → (results Try.f35 tmps).run Try.prog (w7.setCells (w.heap.size + 1) 0 LL) = .ok (.agg LL.toArray) (w7.setCells (w.heap.size + 1) 0 LL) := fun tmps ht => by
      have e := unhide HLL
      rw [← e] at q1 ⊢
      exact res_msg q1 ht
    refine bodyPost_ret (RES _ rfl) rfl ?_
    exact unhide FF
  · have HE : Hid ((EN : Int) ≠ 0) := hide (by omega)
    have HO : Hid (oneE (cmdX x1) t s1 = (EN : Int)) := hide (by rw [oneE_ok (unhide HE0), unhide HEN])
    clear hE
    go_wp2_with fail
    refine (need_any (EN : Int) W6).mono ?_
    rintro e w7 ⟨rfl, _, he⟩
    obtain rfl := he (unhide HE)
    clear he
    go_wp2
    refine ⟨rfl, ?_⟩
    rw [unhide HO]
    exact ⟨unhide T6, fun h => absurd h (unhide HE), fun _ => rfl⟩
end
end Go.Proofs.Ytblmondkdcpkaaa


/-
  wire's reader: others, whatever its lists are. Conditions: the reader and the message as they lie.
-/
namespace Go.Proofs.Ytblmondkdcpkaaa
open Go.RowKit
set_option linter.unusedVariables false

/-- What is wrong with others' lists first. -/
def oE (ms : List Int) (xb : List Nat) (EB EA : Int) : Int := if 512 < ms.length then 2 else if baE xb ≠ 0 then baE xb else if EB ≠ 0 then EB else EA
/-- The lists that others tells, as they lie. -/
structure OL where
  ma : Option Addr
  mc : Nat
  B : Ba
  bs : List Ba
  bsa : Option Addr
  bsc : Nat
  ab : List Ab
  aa : Option Addr
  ac : Nat
def OL.put (L : OL) (ms : List Int) (m : Mg) : Mg := { m with ms := ms, ma := L.ma, mc := L.mc, B := L.B.b, ba := L.B.a, bc := L.B.c, bs := L.bs, bsa := L.bsa, bsc := L.bsc, ab := L.ab, aa := L.aa, ac := L.ac }
structure OLIn (W : World) (L : OL) (ms : List Int) : Prop where
  ms : IAt W L.ma ms
  b : BaIn W L.B
  bs : RowsAt cellsBa 9 W L.bsa L.bs ∧ ∀ o ∈ L.bs, BaIn W o
  ab : RowsAt cellsAb 3 W L.aa L.ab ∧ ∀ o ∈ L.ab, AbIn W o
structure OLV (L : OL) (xb : List Nat) (lb : List Bt) (la : List (Nat × Int × Int)) : Prop where
  b : L.B.b = baB xb
  bs : L.bs.map Ba.vl = lb
  ab : L.ab.map Ab.vl = la
  bl : L.bs.length ≤ 512
  al : L.ab.length ≤ 512
/-- What others leaves. -/
def OtX (w : World) (b mb : Nat) (a : Option Addr) (cap : Nat) (t : List Nat) (s : Rst) (E : Int) (m : Mg) (ms : List Int) (xb : List Nat) (lb : List Bt) (la : List (Nat × Int × Int)) (e : Ending) (w' : World) : Prop :=
  Touch (fun q => q = b ∨ q = mb ∨ w.heap.size ≤ q) w w' ∧ (E = 0 → e = .returned (.tuple #[]) ∧ ∃ L : OL, OLV L xb lb la ∧ RdAt 97 w' b a cap t s ∧ w'.heap[mb]? = some (.cells (mgL (L.put ms m)).toArray 41) ∧ Keeps w.heap.size w'.heap.size w' (fun W => OLIn W L ms)) ∧ (E ≠ 0 → e = gone E)
theorem Ro.gone {w0 w w1 : World} {b rb mb : Nat} {a : Option Addr} {cap : Nat} {t : List Nat} {s : Rst} {m : Mg} (h : Ro w0 w b rb mb a cap t s m) (tc : Touch (fun q => q = b ∨ w.heap.size ≤ q) w w1) : Touch (fun q => q = b ∨ q = mb ∨ w0.heap.size ≤ q) w0 w1 := by
  have l3 := h.tc.size
  exact h.tc.trans (tc.mono (fun q hq => by rcases hq with e | e; exact .inl e; exact .inr (.inr (by omega))))
theorem oE_one {ms : List Int} {xb : List Nat} {EB EA : Int} (h : 512 < ms.length) : oE ms xb EB EA = 2 := by unfold oE; rw [if_pos h]
theorem oE_two {ms : List Int} {xb : List Nat} {EB EA : Int} (h : ¬ 512 < ms.length) (h2 : baE xb ≠ 0) : oE ms xb EB EA = baE xb := by unfold oE; rw [if_neg h, if_pos h2]
theorem oE_three {ms : List Int} {xb : List Nat} {EB EA : Int} (h : ¬ 512 < ms.length) (h2 : baE xb = 0) (h3 : EB ≠ 0) : oE ms xb EB EA = EB := by unfold oE; rw [if_neg h, if_neg (by omega), if_pos h3]
theorem oE_four {ms : List Int} {xb : List Nat} {EB EA : Int} (h : ¬ 512 < ms.length) (h2 : baE xb = 0) (h3 : EB = 0) : oE ms xb EB EA = EA := by unfold oE; rw [if_neg h, if_neg (by omega), if_neg (by omega)]
theorem rL_len {t : List Nat} {s : Rst} : (rL t s).1.length ≤ 4096 := by
  have hn : ∀ k s l, (rNs t k s l).1.length ≤ l.length + k := by
    intro k
    induction k with
    | zero => intro s l; simp [rNs]
    | succ k ih =>
      intro s l
      rw [rNs]
      split
      · have := ih (rI t s).2 (l ++ [(rI t s).1])
        simp at this
        omega
      · simp
  unfold rL
  split
  · split
    · simp
    · have := hn (rU t s).1 (rU t s).2 []
      simp at this
      omega
  · simp
theorem info_zb9 : (Try.prog.info? 38).map (·.size) = some 9 := by kernel_rfl
section
variable {w : World} {b mb : Nat} {a : Option Addr} {cap : Nat} {t : List Nat} {m : Mg}
set_option maxRecDepth 100000 in
set_option maxHeartbeats 16000000 in
theorem others_x {x1 x2 x3 x4 x5 x6 x7 x8 x9 : Int} {x10 : Nat} {x11 : Bool} {s0 s1 s2 s3 s4 s5 s6 s7 s8 s9 s10 s11 s12 s13 s14 s15 : Rst} {ms : List Int} {xb : List Nat} {EB EA : Int} {lb : List Bt} {la : List (Nat × Int × Int)} (h : RdAt 97 w b a cap t s0) (hm : w.heap[mb]? = some (.cells (mgL m).toArray 41)) (hne : mb ≠ b) (hA : 0 < t.length → ∀ x, a = some x → x.block ≠ mb) (e1 : rI t s0 = (x1, s1)) (e2 : rI t s1 = (x2, s2)) (e3 : rI t s2 = (x3, s3)) (e4 : rI t s3 = (x4, s4)) (e5 : rI t s4 = (x5, s5)) (e6 : rI t s5 = (x6, s6)) (e7 : rI t s6 = (x7, s7)) (e8 : rI t s7 = (x8, s8)) (e9 : rI t s8 = (x9, s9)) (e10 : rU t s9 = (x10, s10)) (e11 : rF t s10 = (x11, s11)) (e12 : rL t s11 = (ms, s12)) (e13 : rB t s12 = (xb, s13)) (e14 : rAll t (rBa t) s13 = (EB, lb, s14)) (e15 : rAll t (rAb t) s14 = (EA, la, s15)) :
    Calls Try.prog 53 #[.agg #[.pointer (some ⟨b, 0, none⟩)], .pointer (some ⟨mb, 0, none⟩)] w fun e w' => OtX w b mb a cap t s15 (oE ms xb EB EA) { m with o1 := x1, o2 := x2, o3 := x3, o4 := x4, o5 := x5, o6 := x6, o7 := x7, o8 := x8, o9 := x9, pid := x10, cm := x11 } ms xb lb la e w' := by
  have hb0 := (Below.refl w.heap.size w).alloc (Nat.le_refl _) (.cells #[.pointer (some ⟨b, 0, none⟩)] 84)
  have hbl := h.lt
  have hml := lt_of_heap hm
  have R0 : Hid (Ro w (w.alloc (.cells #[.pointer (some ⟨b, 0, none⟩)] 84)) b w.heap.size mb a cap t s0 m) := hide ⟨h.later hb0, heap_new _ _, below_keep hb0 hm, Touch.of_below hb0⟩
  have q1 : w.heap.size ≠ b := by omega
  have hmf : ∀ (fn : Fn) (first cap : Array Value) (w : World), (Instr.makeFunc fn first cap).run Try.prog w = .ok (.func fn first cap) w := fun _ _ _ _ => rfl
  have q2 : w.heap.size ≠ mb := by omega
  have HA := hide hA
  have hml4 : ms.length ≤ 4096 := by have := rL_len (t := t) (s := s11); rw [e12] at this; exact this
  have E1 := hide e1
  have E2 := hide e2
  have E3 := hide e3
  have E4 := hide e4
  have E5 := hide e5
  have E6 := hide e6
  have E7 := hide e7
  have E8 := hide e8
  have E9 := hide e9
  have E10 := hide e10
  have E11 := hide e11
  have E12 := hide e12
  have E13 := hide e13
  have E14 := hide e14
  have E15 := hide e15
  clear h hm hb0 hA e1 e2 e3 e4 e5 e6 e7 e8 e9 e10 e11 e12 e13 e14 e15
  go_enter Try.func53, Try.ntmps53
  go_upto_region 1 with fail
  generalize w.alloc (.cells #[.pointer (some ⟨b, 0, none⟩)] 84) = W0 at *
  have z0 := cell_of (unhide R0).bx 0
  simp at z0
  have K := rint_any _ (unhide R0).rd
  rw [unhide E1] at K
  have HK := hide K
  clear K
  go_upto_region 2 with (go_at_call 70; refine (unhide HK).mono ?_; rintro e v1 ⟨rfl, r, t⟩; have RR := hide ((unhide R0).call q1 hne r (touch_b t)); have y : v1.cell? ⟨mb, 45, none⟩ = some (.int .i64 (m).o1) := cell_of (unhide RR).ms 45; have yf := frozen_of (unhide RR).ms 45; clear r t)
  have R1 : Hid (Ro w (v1.setCell ⟨mb, 45, none⟩ (.int .i64 x1)) b w.heap.size mb a cap t s1 { m with o1 := x1 }) := hide ((unhide RR).put q2 hne (unhide HA) 45 (.int .i64 x1) rfl)
  generalize v1.setCell ⟨mb, 45, none⟩ (.int .i64 x1) = W1 at *
  clear z0 HK RR y yf R0
  have z0 := cell_of (unhide R1).bx 0
  simp at z0
  have K := rint_any _ (unhide R1).rd
  rw [unhide E2] at K
  have HK := hide K
  clear K
  go_upto_region 3 with (go_at_call 70; refine (unhide HK).mono ?_; rintro e v2 ⟨rfl, r, t⟩; have RR := hide ((unhide R1).call q1 hne r (touch_b t)); have y : v2.cell? ⟨mb, 46, none⟩ = some (.int .i64 ({ m with o1 := x1 }).o2) := cell_of (unhide RR).ms 46; have yf := frozen_of (unhide RR).ms 46; clear r t)
  have R2 : Hid (Ro w (v2.setCell ⟨mb, 46, none⟩ (.int .i64 x2)) b w.heap.size mb a cap t s2 { { m with o1 := x1 } with o2 := x2 }) := hide ((unhide RR).put q2 hne (unhide HA) 46 (.int .i64 x2) rfl)
  generalize v2.setCell ⟨mb, 46, none⟩ (.int .i64 x2) = W2 at *
  clear z0 HK RR y yf R1
  have z0 := cell_of (unhide R2).bx 0
  simp at z0
  have K := rint_any _ (unhide R2).rd
  rw [unhide E3] at K
  have HK := hide K
  clear K
  go_upto_region 4 with (go_at_call 70; refine (unhide HK).mono ?_; rintro e v3 ⟨rfl, r, t⟩; have RR := hide ((unhide R2).call q1 hne r (touch_b t)); have y : v3.cell? ⟨mb, 47, none⟩ = some (.int .i64 ({ { m with o1 := x1 } with o2 := x2 }).o3) := cell_of (unhide RR).ms 47; have yf := frozen_of (unhide RR).ms 47; clear r t)
  have R3 : Hid (Ro w (v3.setCell ⟨mb, 47, none⟩ (.int .i64 x3)) b w.heap.size mb a cap t s3 { { { m with o1 := x1 } with o2 := x2 } with o3 := x3 }) := hide ((unhide RR).put q2 hne (unhide HA) 47 (.int .i64 x3) rfl)
  generalize v3.setCell ⟨mb, 47, none⟩ (.int .i64 x3) = W3 at *
  clear z0 HK RR y yf R2
  have z0 := cell_of (unhide R3).bx 0
  simp at z0
  have K := rint_any _ (unhide R3).rd
  rw [unhide E4] at K
  have HK := hide K
  clear K
  go_upto_region 5 with (go_at_call 70; refine (unhide HK).mono ?_; rintro e v4 ⟨rfl, r, t⟩; have RR := hide ((unhide R3).call q1 hne r (touch_b t)); have y : v4.cell? ⟨mb, 48, none⟩ = some (.int .i64 ({ { { m with o1 := x1 } with o2 := x2 } with o3 := x3 }).o4) := cell_of (unhide RR).ms 48; have yf := frozen_of (unhide RR).ms 48; clear r t)
  have R4 : Hid (Ro w (v4.setCell ⟨mb, 48, none⟩ (.int .i64 x4)) b w.heap.size mb a cap t s4 { { { { m with o1 := x1 } with o2 := x2 } with o3 := x3 } with o4 := x4 }) := hide ((unhide RR).put q2 hne (unhide HA) 48 (.int .i64 x4) rfl)
  generalize v4.setCell ⟨mb, 48, none⟩ (.int .i64 x4) = W4 at *
  clear z0 HK RR y yf R3
  have z0 := cell_of (unhide R4).bx 0
  simp at z0
  have K := rint_any _ (unhide R4).rd
  rw [unhide E5] at K
  have HK := hide K
  clear K
  go_upto_region 6 with (go_at_call 70; refine (unhide HK).mono ?_; rintro e v5 ⟨rfl, r, t⟩; have RR := hide ((unhide R4).call q1 hne r (touch_b t)); have y : v5.cell? ⟨mb, 50, none⟩ = some (.int .i64 ({ { { { m with o1 := x1 } with o2 := x2 } with o3 := x3 } with o4 := x4 }).o5) := cell_of (unhide RR).ms 50; have yf := frozen_of (unhide RR).ms 50; clear r t)
  have R5 : Hid (Ro w (v5.setCell ⟨mb, 50, none⟩ (.int .i64 x5)) b w.heap.size mb a cap t s5 { { { { { m with o1 := x1 } with o2 := x2 } with o3 := x3 } with o4 := x4 } with o5 := x5 }) := hide ((unhide RR).put q2 hne (unhide HA) 50 (.int .i64 x5) rfl)
  generalize v5.setCell ⟨mb, 50, none⟩ (.int .i64 x5) = W5 at *
  clear z0 HK RR y yf R4
  have z0 := cell_of (unhide R5).bx 0
  simp at z0
  have K := rint_any _ (unhide R5).rd
  rw [unhide E6] at K
  have HK := hide K
  clear K
  go_upto_region 7 with (go_at_call 70; refine (unhide HK).mono ?_; rintro e v6 ⟨rfl, r, t⟩; have RR := hide ((unhide R5).call q1 hne r (touch_b t)); have y : v6.cell? ⟨mb, 52, none⟩ = some (.int .i64 ({ { { { { m with o1 := x1 } with o2 := x2 } with o3 := x3 } with o4 := x4 } with o5 := x5 }).o6) := cell_of (unhide RR).ms 52; have yf := frozen_of (unhide RR).ms 52; clear r t)
  have R6 : Hid (Ro w (v6.setCell ⟨mb, 52, none⟩ (.int .i64 x6)) b w.heap.size mb a cap t s6 { { { { { { m with o1 := x1 } with o2 := x2 } with o3 := x3 } with o4 := x4 } with o5 := x5 } with o6 := x6 }) := hide ((unhide RR).put q2 hne (unhide HA) 52 (.int .i64 x6) rfl)
  generalize v6.setCell ⟨mb, 52, none⟩ (.int .i64 x6) = W6 at *
  clear z0 HK RR y yf R5
  have z0 := cell_of (unhide R6).bx 0
  simp at z0
  have K := rint_any _ (unhide R6).rd
  rw [unhide E7] at K
  have HK := hide K
  clear K
  go_upto_region 8 with (go_at_call 70; refine (unhide HK).mono ?_; rintro e v7 ⟨rfl, r, t⟩; have RR := hide ((unhide R6).call q1 hne r (touch_b t)); have y : v7.cell? ⟨mb, 53, none⟩ = some (.int .i64 ({ { { { { { m with o1 := x1 } with o2 := x2 } with o3 := x3 } with o4 := x4 } with o5 := x5 } with o6 := x6 }).o7) := cell_of (unhide RR).ms 53; have yf := frozen_of (unhide RR).ms 53; clear r t)
  have R7 : Hid (Ro w (v7.setCell ⟨mb, 53, none⟩ (.int .i64 x7)) b w.heap.size mb a cap t s7 { { { { { { { m with o1 := x1 } with o2 := x2 } with o3 := x3 } with o4 := x4 } with o5 := x5 } with o6 := x6 } with o7 := x7 }) := hide ((unhide RR).put q2 hne (unhide HA) 53 (.int .i64 x7) rfl)
  generalize v7.setCell ⟨mb, 53, none⟩ (.int .i64 x7) = W7 at *
  clear z0 HK RR y yf R6
  have z0 := cell_of (unhide R7).bx 0
  simp at z0
  have K := rint_any _ (unhide R7).rd
  rw [unhide E8] at K
  have HK := hide K
  clear K
  go_upto_region 9 with (go_at_call 70; refine (unhide HK).mono ?_; rintro e v8 ⟨rfl, r, t⟩; have RR := hide ((unhide R7).call q1 hne r (touch_b t)); have y : v8.cell? ⟨mb, 54, none⟩ = some (.int .i64 ({ { { { { { { m with o1 := x1 } with o2 := x2 } with o3 := x3 } with o4 := x4 } with o5 := x5 } with o6 := x6 } with o7 := x7 }).o8) := cell_of (unhide RR).ms 54; have yf := frozen_of (unhide RR).ms 54; clear r t)
  have R8 : Hid (Ro w (v8.setCell ⟨mb, 54, none⟩ (.int .i64 x8)) b w.heap.size mb a cap t s8 { { { { { { { { m with o1 := x1 } with o2 := x2 } with o3 := x3 } with o4 := x4 } with o5 := x5 } with o6 := x6 } with o7 := x7 } with o8 := x8 }) := hide ((unhide RR).put q2 hne (unhide HA) 54 (.int .i64 x8) rfl)
  generalize v8.setCell ⟨mb, 54, none⟩ (.int .i64 x8) = W8 at *
  clear z0 HK RR y yf R7
  have z0 := cell_of (unhide R8).bx 0
  simp at z0
  have K := rint_any _ (unhide R8).rd
  rw [unhide E9] at K
  have HK := hide K
  clear K
  go_upto_region 10 with (go_at_call 70; refine (unhide HK).mono ?_; rintro e v9 ⟨rfl, r, t⟩; have RR := hide ((unhide R8).call q1 hne r (touch_b t)); have y : v9.cell? ⟨mb, 58, none⟩ = some (.int .i64 ({ { { { { { { { m with o1 := x1 } with o2 := x2 } with o3 := x3 } with o4 := x4 } with o5 := x5 } with o6 := x6 } with o7 := x7 } with o8 := x8 }).o9) := cell_of (unhide RR).ms 58; have yf := frozen_of (unhide RR).ms 58; clear r t)
  have R9 : Hid (Ro w (v9.setCell ⟨mb, 58, none⟩ (.int .i64 x9)) b w.heap.size mb a cap t s9 { { { { { { { { { m with o1 := x1 } with o2 := x2 } with o3 := x3 } with o4 := x4 } with o5 := x5 } with o6 := x6 } with o7 := x7 } with o8 := x8 } with o9 := x9 }) := hide ((unhide RR).put q2 hne (unhide HA) 58 (.int .i64 x9) rfl)
  generalize v9.setCell ⟨mb, 58, none⟩ (.int .i64 x9) = W9 at *
  clear z0 HK RR y yf R8
  have z0 := cell_of (unhide R9).bx 0
  simp at z0
  have K := ruint_any _ (unhide R9).rd
  rw [unhide E10] at K
  have HK := hide K
  clear K
  go_upto_region 11 with (go_at_call 78; refine (unhide HK).mono ?_; rintro e v10 ⟨rfl, r, t⟩; have RR := hide ((unhide R9).call q1 hne r (touch_b t)); have y : v10.cell? ⟨mb, 49, none⟩ = some (.int .u64 (({ { { { { { { { { m with o1 := x1 } with o2 := x2 } with o3 := x3 } with o4 := x4 } with o5 := x5 } with o6 := x6 } with o7 := x7 } with o8 := x8 } with o9 := x9 }).pid : Int)) := cell_of (unhide RR).ms 49; have yf := frozen_of (unhide RR).ms 49; clear r t)
  have R10 : Hid (Ro w (v10.setCell ⟨mb, 49, none⟩ (.int .u64 (x10 : Int))) b w.heap.size mb a cap t s10 { { { { { { { { { { m with o1 := x1 } with o2 := x2 } with o3 := x3 } with o4 := x4 } with o5 := x5 } with o6 := x6 } with o7 := x7 } with o8 := x8 } with o9 := x9 } with pid := x10 }) := hide ((unhide RR).put q2 hne (unhide HA) 49 (.int .u64 (x10 : Int)) rfl)
  generalize v10.setCell ⟨mb, 49, none⟩ (.int .u64 (x10 : Int)) = W10 at *
  clear z0 HK RR y yf R9
  have z0 := cell_of (unhide R10).bx 0
  simp at z0
  have K := rflag_any _ (unhide R10).rd
  rw [unhide E11] at K
  have HK := hide K
  clear K
  go_upto_region 12 with (go_at_call 71; refine (unhide HK).mono ?_; rintro e v11 ⟨rfl, r, t⟩; have RR := hide ((unhide R10).call q1 hne r (touch_b t)); have y : v11.cell? ⟨mb, 51, none⟩ = some (.bool ({ { { { { { { { { { m with o1 := x1 } with o2 := x2 } with o3 := x3 } with o4 := x4 } with o5 := x5 } with o6 := x6 } with o7 := x7 } with o8 := x8 } with o9 := x9 } with pid := x10 }).cm) := cell_of (unhide RR).ms 51; have yf := frozen_of (unhide RR).ms 51; clear r t)
  have R11 : Hid (Ro w (v11.setCell ⟨mb, 51, none⟩ (.bool x11)) b w.heap.size mb a cap t s11 { { { { { { { { { { { m with o1 := x1 } with o2 := x2 } with o3 := x3 } with o4 := x4 } with o5 := x5 } with o6 := x6 } with o7 := x7 } with o8 := x8 } with o9 := x9 } with pid := x10 } with cm := x11 }) := hide ((unhide RR).put q2 hne (unhide HA) 51 (.bool x11) rfl)
  generalize v11.setCell ⟨mb, 51, none⟩ (.bool x11) = W11 at *
  clear z0 HK RR y yf R10
  obtain ⟨M, hM⟩ : ∃ M, M = { { { { { { { { { { { m with o1 := x1 } with o2 := x2 } with o3 := x3 } with o4 := x4 } with o5 := x5 } with o6 := x6 } with o7 := x7 } with o8 := x8 } with o9 := x9 } with pid := x10 } with cm := x11 } := ⟨_, rfl⟩
  rw [← hM] at R11
  have HM := hide hM
  clear hM
  have hs11 : w.heap.size + 1 ≤ W11.heap.size := lt_of_heap (unhide R11).bx
  have z0 := cell_of (unhide R11).bx 0
  simp at z0
  have K := rints_any _ (unhide R11).rd
  rw [unhide E12] at K
  have HK := hide K
  clear K
  go_upto_region 13 with (go_at_call 79; refine (unhide HK).mono ?_; rintro e v12 ⟨v, rfl, i12, n12, r, t⟩; have RR := hide ((unhide R11).call q1 hne r (touch_b t)); have QM := hide (Keeps.irow i12 n12); have hs12 : W11.heap.size ≤ v12.heap.size := t.size; obtain ⟨va, vc, ev, _⟩ := i12.parts; subst ev; have y : v12.cell? ⟨mb, 55, none⟩ = some (.slice M.ma M.ms.length M.mc) := cell_of (unhide RR).ms 55; have yf := frozen_of (unhide RR).ms 55; clear r t i12 n12)
  have R12 : Hid (Ro w (v12.setCell ⟨mb, 55, none⟩ (.slice va ms.length vc)) b w.heap.size mb a cap t s12 { M with ma := va, ms := ms, mc := vc }) := hide ((unhide RR).put q2 hne (unhide HA) 55 (.slice va ms.length vc) rfl)
  have QM12 := hide ((unhide QM).step (touch_set v12 mb 55 (.slice va ms.length vc)) (fun k hk => .inl (by omega)))
  have hs12' : v12.heap.size ≤ (v12.setCell ⟨mb, 55, none⟩ (.slice va ms.length vc)).heap.size := (touch_set v12 mb 55 (.slice va ms.length vc)).size
  generalize v12.setCell ⟨mb, 55, none⟩ (.slice va ms.length vc) = W12 at *
  clear z0 HK RR y yf R11 QM
  have y : W12.cell? ⟨mb, 55, none⟩ = some (.slice va ms.length vc) := cell_of (unhide R12).ms 55
  have hcv : IntKind.u64.wrap (ms.length : Int) = (ms.length : Int) := by
    simp [IntKind.wrap, IntKind.bits, IntKind.signed]
    omega
  by_cases hlong : 512 < ms.length
  · have TT := hide (unhide R12).tc
    have HO := hide (oE_one (xb := xb) (EB := EB) (EA := EA) hlong)
    go_wp2_with fail
    refine (needCount_no (n := ms.length) W12 (by unfold cntE; rw [if_pos hlong]; decide)).mono ?_
    rintro e Wc ⟨rfl, rfl⟩
    go_wp2
    refine ⟨rfl, ?_⟩
    rw [unhide HO]
    exact ⟨unhide TT, fun h => absurd h (by decide), fun _ => rfl⟩
  go_wp2_with fail
  refine (needCount_ok (n := ms.length) W12 (by unfold cntE; rw [if_neg hlong])).mono ?_
  rintro e Wc ⟨rfl, rfl⟩
  clear y hcv
  have HLG := hide hlong
  clear hlong
  have z0 := cell_of (unhide R12).bx 0
  simp at z0
  have HK := hide (batch_x (unhide R12).rd (unhide E13))
  by_cases hbe : baE xb ≠ 0
  · have HO := hide (oE_two (EB := EB) (EA := EA) (unhide HLG) hbe)
    have HBE := hide hbe
    clear hbe
    go_wp2_with (go_at_call 76; refine (unhide HK).mono ?_; rintro e v13 ⟨tc, _, g⟩; obtain rfl := g (unhide HBE); have TT := hide ((unhide R12).gone tc); clear tc g)
    refine ⟨rfl, ?_⟩
    rw [unhide HO]
    exact ⟨unhide TT, fun h => absurd h (unhide HBE), fun _ => rfl⟩
  replace hbe : baE xb = 0 := Decidable.byContradiction hbe
  rw [hbe] at HK
  have HBE := hide hbe
  clear hbe
  go_upto_region 15 with (first
    | (go_at_call 76; refine (unhide HK).mono ?_; rintro e v13 ⟨tc, g, _⟩; obtain ⟨vv, rfl, r, oB, rfl, ob, kb⟩ := g rfl; have RR := hide ((unhide R12).call q1 hne r tc); have QB := hide kb; have OB := hide ob; have QM13 := hide ((unhide QM12).step tc (fun k hk => by have := (unhide QM12).old; rcases hk with e | e; exact .inl (by omega); exact .inr (by omega))); have hs13 := tc.size; have HCL : Hid ((cellsBa oB).toArray.all (·.oneCell') = true) := hide (by simp [cellsBa, Value.oneCell']); have HSZ : Hid ((Try.prog.info? 38).map (·.size) = some (cellsBa oB).toArray.size) := hide info_zb9; have HTH := hide (there_of (o := 36) (n := (cellsBa oB).toArray.size) (unhide RR).ms (by rw [mg_size]; show 36 + 9 ≤ 59; decide)); obtain ⟨CB, hCB⟩ : ∃ CB, CB = cellsBa oB := ⟨_, rfl⟩; rw [← hCB] at HCL HSZ HTH ⊢; have HCB := hide hCB; clear g r tc kb ob hCB)
    | (with_reducible (show wpList _ _ _ (Oper.mk _ (Op.store _ _ _) _ _ _ _ :: _) _ _); (refine wpList_store_mid rfl 38 (.tmp 87) (.tmp 85) rfl mb 36 CB.toArray rfl rfl (unhide HTH) (unhide HSZ) (unhide HCL) ?_)))
  have R13 : Hid (Ro w (v13.setCells mb 36 CB) b w.heap.size mb a cap t s13 { M with ma := va, ms := ms, mc := vc, B := oB.b, ba := oB.a, bc := oB.c }) := hide ((unhide RR).puts q2 hne (unhide HA) 36 CB (by rw [unhide HCB]; kernel_rfl))
  have TS := (heap_setCells CB 36 v13 _ (unhide RR).ms).2
  have QM14 := hide ((unhide QM13).step TS (fun k hk => .inl (by omega)))
  have QB14 := hide ((unhide QB).step TS (fun k hk => .inl (by omega)))
  have hs13' : v13.heap.size ≤ (v13.setCells mb 36 CB).heap.size := TS.size
  change Code.wp _ _ _ _ (v13.setCells mb 36 CB)
  generalize v13.setCells mb 36 CB = W13 at *
  clear z0 HK RR R12 TS QM13 QB QM12 HTH HSZ HCL
  have z0 := cell_of (unhide R13).bx 0
  simp at z0
  have K := takeBa_x (unhide R13).rd
  rw [unhide E14] at K
  have HK := hide K
  clear K
  by_cases hbe : EB ≠ 0
  · have HO := hide (oE_three (EA := EA) (unhide HLG) (unhide HBE) hbe)
    have HB2 := hide hbe
    clear hbe
    go_wp2_with (go_at_call 75; refine (unhide HK).mono ?_; rintro e v14 ⟨tc, _, g⟩; obtain rfl := g (unhide HB2); have TT := hide ((unhide R13).gone tc); clear tc g)
    refine ⟨rfl, ?_⟩
    rw [unhide HO]
    exact ⟨unhide TT, fun h => absurd h (unhide HB2), fun _ => rfl⟩
  replace hbe : EB = 0 := Decidable.byContradiction hbe
  subst hbe
  go_upto_region 16 with (go_at_call 75; refine (unhide HK).mono ?_; rintro e v14 ⟨tc, g, _⟩; obtain ⟨vv, rfl, r, os, sa, sc, rfl, om, ol, ko⟩ := g rfl; have RR := hide ((unhide R13).call q1 hne r tc); have QS := hide ko; have OS := hide (And.intro om ol); have QM15 := hide ((unhide QM14).step tc (fun k hk => by have := (unhide QM14).old; rcases hk with e | e; exact .inl (by omega); exact .inr (by omega))); have QB15 := hide ((unhide QB14).step tc (fun k hk => by have := (unhide QB14).old; rcases hk with e | e; exact .inl (by omega); exact .inr (by omega))); have hs14 : W13.heap.size ≤ v14.heap.size := tc.size; have y : v14.cell? ⟨mb, 56, none⟩ = some (.slice M.bsa M.bs.length M.bsc) := cell_of (unhide RR).ms 56; have yf := frozen_of (unhide RR).ms 56; clear r tc g om ol ko)
  have R14 : Hid (Ro w (v14.setCell ⟨mb, 56, none⟩ (.slice sa os.length sc)) b w.heap.size mb a cap t s14 { M with ma := va, ms := ms, mc := vc, B := oB.b, ba := oB.a, bc := oB.c, bs := os, bsa := sa, bsc := sc }) := hide ((unhide RR).put q2 hne (unhide HA) 56 (.slice sa os.length sc) rfl)
  have TS := touch_set v14 mb 56 (.slice sa os.length sc)
  have QM16 := hide ((unhide QM15).step TS (fun k hk => .inl (by omega)))
  have QB16 := hide ((unhide QB15).step TS (fun k hk => .inl (by omega)))
  have QS16 := hide ((unhide QS).step TS (fun k hk => .inl (by omega)))
  have hs14' : v14.heap.size ≤ (v14.setCell ⟨mb, 56, none⟩ (.slice sa os.length sc)).heap.size := TS.size
  generalize v14.setCell ⟨mb, 56, none⟩ (.slice sa os.length sc) = W14 at *
  clear z0 HK RR y yf R13 TS QM14 QB14 QM15 QB15 QS
  have z0 := cell_of (unhide R14).bx 0
  simp at z0
  have K := takeAb_x (unhide R14).rd
  rw [unhide E15] at K
  have HK := hide K
  clear K
  have HO := hide (oE_four (EA := EA) (unhide HLG) (unhide HBE) (rfl : (0 : Int) = 0))
  by_cases hbe : EA ≠ 0
  · have HB2 := hide hbe
    clear hbe
    go_wp2_with (go_at_call 80; refine (unhide HK).mono ?_; rintro e v15 ⟨tc, _, g⟩; obtain rfl := g (unhide HB2); have TT := hide ((unhide R14).gone tc); clear tc g)
    refine ⟨rfl, ?_⟩
    rw [unhide HO]
    exact ⟨unhide TT, fun h => absurd h (unhide HB2), fun _ => rfl⟩
  replace hbe : EA = 0 := Decidable.byContradiction hbe
  subst hbe
  go_wp2_with (go_at_call 80; refine (unhide HK).mono ?_; rintro e v15 ⟨tc, g, _⟩; obtain ⟨vv, rfl, r, oas, ua, uc, rfl, om, ol, ko⟩ := g rfl; have RR := hide ((unhide R14).call q1 hne r tc); have QA := hide ko; have OA := hide (And.intro om ol); have QM17 := hide ((unhide QM16).step tc (fun k hk => by have := (unhide QM16).old; rcases hk with e | e; exact .inl (by omega); exact .inr (by omega))); have QB17 := hide ((unhide QB16).step tc (fun k hk => by have := (unhide QB16).old; rcases hk with e | e; exact .inl (by omega); exact .inr (by omega))); have QS17 := hide ((unhide QS16).step tc (fun k hk => by have := (unhide QS16).old; rcases hk with e | e; exact .inl (by omega); exact .inr (by omega))); have hs15 : W14.heap.size ≤ v15.heap.size := tc.size; have y : v15.cell? ⟨mb, 57, none⟩ = some (.slice M.aa M.ab.length M.ac) := cell_of (unhide RR).ms 57; have yf := frozen_of (unhide RR).ms 57; clear r tc g om ol ko)
  have R15 : Hid (Ro w (v15.setCell ⟨mb, 57, none⟩ (.slice ua oas.length uc)) b w.heap.size mb a cap t s15 { M with ma := va, ms := ms, mc := vc, B := oB.b, ba := oB.a, bc := oB.c, bs := os, bsa := sa, bsc := sc, ab := oas, aa := ua, ac := uc }) := hide ((unhide RR).put q2 hne (unhide HA) 57 (.slice ua oas.length uc) rfl)
  have TS := touch_set v15 mb 57 (.slice ua oas.length uc)
  have QM18 := hide ((unhide QM17).step TS (fun k hk => .inl (by omega)))
  have QB18 := hide ((unhide QB17).step TS (fun k hk => .inl (by omega)))
  have QS18 := hide ((unhide QS17).step TS (fun k hk => .inl (by omega)))
  have QA18 := hide ((unhide QA).step TS (fun k hk => .inl (by omega)))
  have hs15' : v15.heap.size ≤ (v15.setCell ⟨mb, 57, none⟩ (.slice ua oas.length uc)).heap.size := TS.size
  generalize v15.setCell ⟨mb, 57, none⟩ (.slice ua oas.length uc) = W15 at *
  clear z0 HK RR y yf R14 TS
  have FF : Hid (OtX w b mb a cap t s15 (oE ms xb 0 0) { { { { { { { { { { { m with o1 := x1 } with o2 := x2 } with o3 := x3 } with o4 := x4 } with o5 := x5 } with o6 := x6 } with o7 := x7 } with o8 := x8 } with o9 := x9 } with pid := x10 } with cm := x11 } ms xb lb la (.returned (.tuple #[])) W15) := hide (by
    rw [← unhide HM]
    refine ⟨(unhide R15).tc, fun _ => ⟨rfl, ⟨va, vc, oB, os, sa, sc, oas, ua, uc⟩, ⟨unhide OB, (unhide OS).1, (unhide OA).1, (unhide OS).2, (unhide OA).2⟩, (unhide R15).rd, (unhide R15).ms, ?_⟩, fun h => absurd (unhide HO) h⟩
    have k1 := (unhide QM18).wide (lo' := w.heap.size) (hi' := W15.heap.size) (by omega) (unhide QM18).old (Nat.le_refl _)
    have k2 := (unhide QB18).wide (lo' := w.heap.size) (hi' := W15.heap.size) (by omega) (unhide QB18).old (Nat.le_refl _)
    have k3 := (unhide QS18).wide (lo' := w.heap.size) (hi' := W15.heap.size) (by omega) (unhide QS18).old (Nat.le_refl _)
    have k4 := (unhide QA18).wide (lo' := w.heap.size) (hi' := W15.heap.size) (by omega) (unhide QA18).old (Nat.le_refl _)
    exact (((k1.and k2).and k3).and k4).imp (fun W h => ⟨by obtain ⟨aa, cc, e, l, _⟩ := h.1.1.1.parts; cases e; exact l, h.1.1.2, h.1.2, h.2⟩))
  clear QM16 QB16 QS16 QM17 QB17 QS17 QM18 QB18 QS18 QA18 QA R15 OA OS OB
  go_returns
  exact unhide FF
end
end Go.Proofs.Ytblmondkdcpkaaa


namespace Go.Proofs.Ytblmondkdcpkaaa
open Go.RowKit
set_option linter.unusedVariables false

section
variable {w : World} {b : Nat} {a : Option Addr} {cap : Nat} {t : List Nat}
set_option maxRecDepth 100000 in
set_option maxHeartbeats 16000000 in
theorem rmsg_others {k1 k2 k3 k4 k5 : Int} {x1 x2 x3 x4 x5 x6 x7 x8 x9 : Int} {x10 : Nat} {x11 : Bool} {ms : List Int} {xb : List Nat} {EB EA : Int} {lb : List Bt} {la : List (Nat × Int × Int)} {s0 s1 s2 s3 s4 s5 s6 s7 s8 s9 s10 s11 s12 s13 s14 s15 : Rst} {t0 t1 t2 t3 t4 : Rst} (HEAD : HdAll) (h : RdAt 97 w b a cap t t0) (hk : 4 < k1 ∧ k1 ≤ 15) (d1 : rI t t0 = (k1, t1)) (d2 : rI t t1 = (k2, t2)) (d3 : rI t t2 = (k3, t3)) (d4 : rI t t3 = (k4, t4)) (d5 : rI t t4 = (k5, s0)) (e1 : rI t s0 = (x1, s1)) (e2 : rI t s1 = (x2, s2)) (e3 : rI t s2 = (x3, s3)) (e4 : rI t s3 = (x4, s4)) (e5 : rI t s4 = (x5, s5)) (e6 : rI t s5 = (x6, s6)) (e7 : rI t s6 = (x7, s7)) (e8 : rI t s7 = (x8, s8)) (e9 : rI t s8 = (x9, s9)) (e10 : rU t s9 = (x10, s10)) (e11 : rF t s10 = (x11, s11)) (e12 : rL t s11 = (ms, s12)) (e13 : rB t s12 = (xb, s13)) (e14 : rAll t (rBa t) s13 = (EB, lb, s14)) (e15 : rAll t (rAb t) s14 = (EA, la, s15)) :
    Calls Try.prog 35 #[.agg #[.pointer (some ⟨b, 0, none⟩)]] w fun e w' => MsQ w b (oneE (oE ms xb EB EA) t s15) (fun m => ∃ L : OL, m = L.put ms { hdM k1 k2 k3 k4 k5 with o1 := x1, o2 := x2, o3 := x3, o4 := x4, o5 := x5, o6 := x6, o7 := x7, o8 := x8, o9 := x9, pid := x10, cm := x11 } ∧ OLV L xb lb la) e w' := by
  have hb0 := ((Below.refl w.heap.size w).alloc (Nat.le_refl _) (.cells #[.pointer (some ⟨b, 0, none⟩)] 84)).alloc (by simp) (.cells (mgL mg0).toArray 41)
  have hbl := h.lt
  have HTB := hide h.text.bytes
  have HX := hide (heap_old (.cells (mgL mg0).toArray 41) (heap_new w (.cells #[.pointer (some ⟨b, 0, none⟩)] 84)))
  have HZ := hide (heap_new (w.alloc (.cells #[.pointer (some ⟨b, 0, none⟩)] 84)) (.cells (mgL mg0).toArray 41))
  have hsz : (w.alloc (.cells #[.pointer (some ⟨b, 0, none⟩)] 84)).heap.size = w.heap.size + 1 := by simp
  rw [hsz] at HZ
  have hs1 : w.heap.size + 2 ≤ ((w.alloc (.cells #[.pointer (some ⟨b, 0, none⟩)] 84)).alloc (.cells (mgL mg0).toArray 41)).heap.size := by simp
  have HLW : Hid (∀ k, w.heap.size ≤ k → 0 < t.length → ∀ x, a = some x → x.block ≠ k) := hide (fun k hk => rd_low h hk)
  have KH := hide (HEAD (h.later hb0) d1 d2 d3 d4 d5)
  have HK0 : Hid (kndE k1 = 0) := hide (by unfold kndE; rw [if_neg (by omega)])
  have g1 : (k1 == 1) = false := beq_eq_false_iff_ne.2 (by omega)
  have g2 : (k1 == 2) = false := beq_eq_false_iff_ne.2 (by omega)
  have g3 : (k1 == 3) = false := beq_eq_false_iff_ne.2 (by omega)
  have g4 : (k1 == 4) = false := beq_eq_false_iff_ne.2 (by omega)
  have T0 : Hid (Touch (fun q => q = b ∨ w.heap.size ≤ q) w ((w.alloc (.cells #[.pointer (some ⟨b, 0, none⟩)] 84)).alloc (.cells (mgL mg0).toArray 41))) := hide (Touch.of_below hb0)
  have hz5 : ∀ s, I64 (rI t s).1 := fun s => zag_fits (rU_fits h.text.bytes)
  have HI5 : Hid (∀ x ∈ [k1, k2, k3, k4, k5], I64 x) := hide (fun x hx => by
    simp only [List.mem_cons, List.not_mem_nil, or_false] at hx
    rcases hx with rfl | rfl | rfl | rfl | rfl
    · have := hz5 t0; rw [d1] at this; exact this
    · have := hz5 t1; rw [d2] at this; exact this
    · have := hz5 t2; rw [d3] at this; exact this
    · have := hz5 t3; rw [d4] at this; exact this
    · have := hz5 t4; rw [d5] at this; exact this)
  have E1 := hide e1
  have E2 := hide e2
  have E3 := hide e3
  have E4 := hide e4
  have E5 := hide e5
  have E6 := hide e6
  have E7 := hide e7
  have E8 := hide e8
  have E9 := hide e9
  have E10 := hide e10
  have E11 := hide e11
  have E12 := hide e12
  have E13 := hide e13
  have E14 := hide e14
  have E15 := hide e15
  clear h hb0 hsz hk HEAD d1 d2 d3 d4 d5 hz5 e1 e2 e3 e4 e5 e6 e7 e8 e9 e10 e11 e12 e13 e14 e15
  go_enter Try.func35, Try.ntmps35
  go_upto_region 1 with fail
  change Code.wp _ _ _ _ ((w.alloc (.cells #[.pointer (some ⟨b, 0, none⟩)] 84)).alloc (.cells (mgL mg0).toArray 41))
  generalize (w.alloc (.cells #[.pointer (some ⟨b, 0, none⟩)] 84)).alloc (.cells (mgL mg0).toArray 41) = W1 at *
  have z0 := cell_of (unhide HX) 0
  simp at z0
  go_wp2_with fail
  refine (unhide KH).mono ?_
  rintro e w2 ⟨t2', hh, _⟩
  obtain ⟨rfl, r2⟩ := hh (unhide HK0)
  have X2 := hide (t2'.keep (unhide HX) (by omega))
  have Z2 := hide (t2'.keep (unhide HZ) (by omega))
  have R2 := hide r2
  have hs2 : w.heap.size + 2 ≤ w2.heap.size := Nat.le_trans hs1 t2'.size
  have T2 := hide ((unhide T0).trans (t2'.mono (fun q hq => by rcases hq with e | e; exact .inl e; exact .inr (by omega))))
  clear hh t2' r2 KH T0
  have A2 := hide (heap_new w2 (.cells (mgL mg0).toArray 41))
  have HT2 := hide (there_of (o := 0) (n := (mgL (hdM k1 k2 k3 k4 k5)).toArray.size) (heap_new w2 (.cells #[.int .i64 0, .int .i64 0, .int .i64 0, .int .i64 0, .int .i64 0, .int .i64 0, .int .i64 0, .int .i64 0, .int .i64 0, .int .i64 0, .int .i64 0, .int .i64 0, .bool false, .slice none 0 0, .slice none 0 0, .int .i64 0, .int .i64 0, .int .i64 0, .int .i64 0, .int .i64 0, .int .i64 0, .int .i64 0, .int .i64 0, .int .i64 0, .bool false, .int .i64 0, .int .i64 0, .int .i64 0, .int .i64 0, .slice none 0 0, .int .i64 0, .int .i64 0, .int .i64 0, .int .i64 0, .int .i64 0, .slice none 0 0, .int .i64 0, .int .i64 0, .int .u64 0, .int .i64 0, .int .i64 0, .bool false, .bool false, .bool false, .slice none 0 0, .int .i64 0, .int .i64 0, .int .i64 0, .int .i64 0, .int .u64 0, .int .i64 0, .bool false, .int .i64 0, .int .i64 0, .int .i64 0, .slice none 0 0, .slice none 0 0, .slice none 0 0, .int .i64 0] 41)) (by rw [mg_size]; decide))
  have bA := (Below.refl w2.heap.size w2).alloc (Nat.le_refl _) (.cells (mgL mg0).toArray 41)
  have X3 := hide (below_keep bA (unhide X2))
  have Z3 := hide (below_keep bA (unhide Z2))
  have R3 := hide ((unhide R2).later bA)
  have T3 := hide ((unhide T2).trans (Touch.of_below (S := fun q => q = b ∨ w.heap.size ≤ q) bA))
  clear bA z0
  go_upto_region 2 with (with_reducible (show wpList _ _ _ (Oper.mk _ (Op.store _ _ _) _ _ _ _ :: _) _ _); refine wpList_store_mid rfl 41 (.tmp 3) (.tmp 5) rfl w2.heap.size 0 (mgL (hdM k1 k2 k3 k4 k5)).toArray rfl rfl (unhide HT2) (info_mga _) (mg_one _) ?_)
  obtain ⟨q1, q2⟩ := heap_setCells (mgL (hdM k1 k2 k3 k4 k5)) 0 (w2.alloc (.cells (mgL mg0).toArray 41)) _ (unhide A2)
  rw [lay_all (vs := mgL (hdM k1 k2 k3 k4 k5)) (by rw [mg_size]; rfl)] at q1
  change Code.wp _ _ _ _ ((w2.alloc (.cells (mgL mg0).toArray 41)).setCells w2.heap.size 0 (mgL (hdM k1 k2 k3 k4 k5)))
  have X4 := hide (q2.keep (unhide X3) (by omega))
  have Z4 := hide (q2.keep (unhide Z3) (by omega))
  have R4 := hide ((unhide R3).keep q2 (by omega) (unhide HLW w2.heap.size (by omega)))
  have T4 := hide ((unhide T3).trans (q2.mono (fun q hq => .inr (by omega))))
  have A4 := hide q1
  clear q1 q2 X3 Z3 R3 T3 A2 X2 Z2 R2 T2
  have hmb : w.heap.size + 2 ≤ w2.heap.size := hs2
  generalize (w2.alloc (.cells (mgL mg0).toArray 41)).setCells w2.heap.size 0 (mgL (hdM k1 k2 k3 k4 k5)) = W4 at *
  generalize w2.heap.size = mb at *
  have hmb4 : mb < W4.heap.size := lt_of_heap (unhide A4)
  have y0 : W4.cell? ⟨mb, 0, none⟩ = some (.int .i64 k1) := cell_of (unhide A4) 0
  have z0 := cell_of (unhide X4) 0
  simp at z0
  have I9 : Hid (∀ x ∈ [x1, x2, x3, x4, x5, x6, x7, x8, x9], I64 x) := hide (fun x hx => by
    have hz : ∀ s, I64 (rI t s).1 := fun s => zag_fits (rU_fits (unhide HTB))
    simp only [List.mem_cons, List.not_mem_nil, or_false] at hx
    rcases hx with rfl | rfl | rfl | rfl | rfl | rfl | rfl | rfl | rfl
    · have := hz s0; rw [unhide E1] at this; exact this
    · have := hz s1; rw [unhide E2] at this; exact this
    · have := hz s2; rw [unhide E3] at this; exact this
    · have := hz s3; rw [unhide E4] at this; exact this
    · have := hz s4; rw [unhide E5] at this; exact this
    · have := hz s5; rw [unhide E6] at this; exact this
    · have := hz s6; rw [unhide E7] at this; exact this
    · have := hz s7; rw [unhide E8] at this; exact this
    · have := hz s8; rw [unhide E9] at this; exact this)
  have U10 : Hid (x10 < 18446744073709551616) := hide (by have := rU_fits (t := t) (s := s9) (unhide HTB); rw [unhide E10] at this; exact this)
  have L12 : Hid (∀ x ∈ ms, -9223372036854775808 ≤ x ∧ x < 9223372036854775808) := hide (by have := rL_fits (t := t) (s := s11) (unhide HTB); rw [unhide E12] at this; exact this)
  have N12 : Hid (ms.length ≤ 4096) := hide (by have := rL_len (t := t) (s := s11); rw [unhide E12] at this; exact this)
  have HK := hide (others_x (unhide R4) (unhide A4) (by omega) (unhide HLW mb (by omega)) (unhide E1) (unhide E2) (unhide E3) (unhide E4) (unhide E5) (unhide E6) (unhide E7) (unhide E8) (unhide E9) (unhide E10) (unhide E11) (unhide E12) (unhide E13) (unhide E14) (unhide E15))
  by_cases hE : oE ms xb EB EA ≠ 0
  · have HE := hide hE
    clear hE
    go_wp2_with (go_at_call 53; refine (unhide HK).mono ?_; rintro e w5 ⟨tc, _, g⟩; obtain rfl := g (unhide HE); have TT := hide ((unhide T4).trans (tc.mono (fun q hq => by rcases hq with e | e | e; exact .inl e; exact .inr (by omega); exact .inr (by omega)))); clear tc g)
    refine ⟨rfl, ?_⟩
    rw [oneE_no (unhide HE)]
    exact ⟨unhide TT, fun h => absurd h (unhide HE), fun _ => rfl⟩
  replace hE : oE ms xb EB EA = 0 := Decidable.byContradiction hE
  rw [hE] at HK
  have HE0 := hide hE
  clear hE
  go_upto_region 12 with (go_at_call 53; refine (unhide HK).mono ?_; rintro e w5 ⟨tc, g, _⟩; obtain ⟨rfl, L, ov, r, am, ko⟩ := g rfl; have X5 := hide (tc.keep (unhide X4) (by have := lt_of_heap (unhide X4); omega)); have Z5 := hide (tc.keep (unhide Z4) (by have := lt_of_heap (unhide Z4); omega)); have A5' := hide am; have R5 := hide r; have T5 := hide ((unhide T4).trans (tc.mono (fun q hq => by rcases hq with e | e | e; exact .inl e; exact .inr (by omega); exact .inr (by omega)))); have OV := hide ov; have KO := hide ko; clear g r tc am ko ov)
  obtain ⟨MM, hMM⟩ : ∃ MM : Mg, MM = L.put ms { hdM k1 k2 k3 k4 k5 with o1 := x1, o2 := x2, o3 := x3, o4 := x4, o5 := x5, o6 := x6, o7 := x7, o8 := x8, o9 := x9, pid := x10, cm := x11 } := ⟨_, rfl⟩
  have A5 := A5'
  rw [← hMM] at A5
  have K5 : Hid (Keeps (mb + 1) w5.heap.size w5 (fun W => MgIn W MM)) := hide (by
    refine ((unhide KO).wide (lo' := mb + 1) (by omega) (Nat.le_refl _) (Nat.le_refl _)).imp (fun W hW => ?_)
    rw [hMM]
    have hi := hd_in (W := W) (unhide HI5)
    exact ⟨hi.hd, hi.rf, hi.en, hi.ein, hi.em, hi.sn, hi.sc, hi.fe, hi.ge, hi.gb, hi.gin, hi.gm, hi.c, hi.cf, hW.b.1, hW.b.2, unhide I9, unhide U10, hW.ms, unhide L12, (Nat.le_trans (unhide N12) (by decide)), hW.bs.1, hW.bs.2, (Nat.le_trans (unhide OV).bl (by decide)), hW.ab.1, hW.ab.2, (Nat.le_trans (unhide OV).al (by decide))⟩)
  have HMM : Hid ((fun m => ∃ L : OL, m = L.put ms { hdM k1 k2 k3 k4 k5 with o1 := x1, o2 := x2, o3 := x3, o4 := x4, o5 := x5, o6 := x6, o7 := x7, o8 := x8, o9 := x9, pid := x10, cm := x11 } ∧ OLV L xb lb la) MM) := hide (by subst hMM; exact ⟨L, rfl, unhide OV⟩)
  clear hMM HK X4 Z4 A4 R4 T4 A5' KO y0 z0
  have z0 := cell_of (unhide X5) 0
  simp at z0
  have KE := end_any w5 (unhide R5)
  have HKE := hide KE
  clear KE
  go_wp2_with fail
  refine (unhide HKE).mono ?_
  rintro e w6 ⟨rfl, nq, rfl⟩
  have b6 := below_drewN' (Below.refl w5.heap.size w5) nq
  have Z6 := hide (below_keep b6 (unhide Z5))
  have A6 := hide (below_keep b6 (unhide A5))
  have T6 := hide ((unhide T5).trans (Touch.of_below (S := fun q => q = b ∨ w.heap.size ≤ q) b6))
  have K6 := hide ((unhide K5).step (S := fun _ => False) (Touch.of_below b6) (fun _ h => h.elim))
  have hs6 : mb < w5.heap.size := lt_of_heap (unhide A5)
  have hs6' : w5.heap.size ≤ (w5.drewN nq).heap.size := b6.size
  clear b6 z0 HKE R5 X5 Z5 A5 T5 K5
  generalize w5.drewN nq = W6 at *
  generalize hEN : rE t s15 = EN at *
  have HEN := hide hEN
  clear hEN
  by_cases hE : EN = 0
  · subst hE
    go_wp2_with fail
    refine (need_any 0 W6).mono ?_
    rintro e w7 ⟨rfl, he, _⟩
    obtain rfl := he rfl
    clear he
    have HRG := hide (range_of (o := 0) (ds := mgL MM) (unhide A6) (fun j v hv => by rw [Nat.zero_add]; exact hv))
    go_upto_region 13 with fail
    have HT6 := hide (there_of (o := 0) (n := (mgL MM).toArray.size) (unhide Z6) (by rw [mg_size, mg_size]; decide))
    have HI1 := hide (info_mg MM)
    have HI2 := hide (info_mga MM)
    have HW2 := hide (mg_one MM)
    have HLN : Hid ((mgL mg0).toArray.size = (mgL MM).length) := hide rfl
    generalize hLL : mgL MM = LL at *
    have HLL := hide hLL
    clear hLL
    go_wp2_with (first
      | (with_reducible (show wpList _ _ _ (Oper.mk _ (Op.load _ _) _ _ _ _ :: _) _ _); refine wpList_load_mid rfl 41 (.tmp 3) rfl mb 0 rfl LL _ (unhide HRG) Try.underlying41 rfl (unhide HI1) ?_)
      | (with_reducible (show wpList _ _ _ (Oper.mk _ (Op.store _ _ _) _ _ _ _ :: _) _ _); refine wpList_store_mid rfl 41 (.tmp 2) (.tmp 34) rfl (w.heap.size + 1) 0 LL.toArray rfl rfl (unhide HT6) (unhide HI2) (unhide HW2) ?_))
    obtain ⟨q1, q2⟩ := heap_setCells LL 0 w7 _ (unhide Z6)
    rw [lay_all (unhide HLN)] at q1
    have FF : Hid (MsQ w b (oneE (oE ms xb EB EA) t s15) (fun m => ∃ L : OL, m = L.put ms { hdM k1 k2 k3 k4 k5 with o1 := x1, o2 := x2, o3 := x3, o4 := x4, o5 := x5, o6 := x6, o7 := x7, o8 := x8, o9 := x9, pid := x10, cm := x11 } ∧ OLV L xb lb la) (.returned (.agg LL.toArray)) (w7.setCells (w.heap.size + 1) 0 LL)) := hide ⟨(unhide T6).trans (q2.mono (fun q hq => .inr (by omega))), fun _ => ⟨MM, by rw [unhide HLL], unhide HMM, ((unhide K6).step q2 (fun k hk => .inl (by omega))).wide (by omega) (Nat.le_trans (unhide K6).old q2.size) (Nat.le_refl _)⟩, fun h => absurd ((oneE_ok (unhide HE0)).trans (congrArg (fun n : Nat => (n : Int)) (unhide HEN))) h⟩
    have RES : ∀ tmps : Array Value, tmps[2]?.getD undef = .pointer (some ⟨w.heap.size + 1, 0, none⟩) → (results Try.f35 tmps).run Try.prog (w7.setCells (w.heap.size + 1) 0 LL) = .ok (.agg LL.toArray) (w7.setCells (w.heap.size + 1) 0 LL) := fun tmps ht => by
      have e := unhide HLL
      rw [← e] at q1 ⊢
      exact res_msg q1 ht
    refine bodyPost_ret (RES _ rfl) rfl ?_
    exact unhide FF
  · have HE : Hid ((EN : Int) ≠ 0) := hide (by omega)
    have HO : Hid (oneE (oE ms xb EB EA) t s15 = (EN : Int)) := hide (by rw [oneE_ok (unhide HE0), unhide HEN])
    clear hE
    go_wp2_with fail
    refine (need_any (EN : Int) W6).mono ?_
    rintro e w7 ⟨rfl, _, he⟩
    obtain rfl := he (unhide HE)
    clear he
    go_wp2
    refine ⟨rfl, ?_⟩
    rw [unhide HO]
    exact ⟨unhide T6, fun h => absurd h (unhide HE), fun _ => rfl⟩
end
end Go.Proofs.Ytblmondkdcpkaaa
