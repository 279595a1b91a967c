/-
  wire's reader: msg of a kind that has others' form, its lists of none. Conditions: the reader as it lies.
-/
import Derived.Test.YtcekleconjmfjaaRqh
import Derived.Test.YtcekleconjmfjaaRq3
namespace Go.Proofs.Ytcekleconjmfjaa
open Go.RowKit
set_option linter.unusedVariables false

def MsP (w : World) (b : Nat) (a : Option Addr) (cap : Nat) (t : List Nat) (s : Rst) (m : Mg) (e : Ending) (w' : World) : Prop :=
  ∃ ma mc, e = .returned (.agg (mgL { m with ma := ma, mc := mc }).toArray) ∧ RdAt 97 w' b a cap t s ∧ Touch (fun q => q = b ∨ w.heap.size ≤ q) w w'
section
variable {w : World} {b : Nat} {a : Option Addr} {cap : Nat} {t : List Nat}
set_option maxRecDepth 100000 in
set_option maxHeartbeats 8000000 in
theorem msg_r0 {k1 k2 k3 k4 k5 x1 x2 x3 x4 x5 x6 x7 x8 x9 : Int} {x10 : Nat} {x11 : Bool} {t0 s0 s1 s2 s3 s4 s5 s6 s7 s8 s9 s10 s11 s12 s13 s14 s15 : Rst} (h : RdAt 97 w b a cap t t0) (hk : 4 < k1 ∧ k1 ≤ 15) (HEAD : ∀ {W : World}, RdAt 97 W b a cap t t0 → Calls Try.prog 48 #[.agg #[.pointer (some ⟨b, 0, none⟩)]] W fun e w' => HdP W b a cap t s0 k1 k2 k3 k4 k5 e w') (e1 : rI t s0 = (x1, s1)) (e2 : rI t s1 = (x2, s2)) (e3 : rI t s2 = (x3, s3)) (e4 : rI t s3 = (x4, s4)) (e5 : rI t s4 = (x5, s5)) (e6 : rI t s5 = (x6, s6)) (e7 : rI t s6 = (x7, s7)) (e8 : rI t s7 = (x8, s8)) (e9 : rI t s8 = (x9, s9)) (e10 : rU t s9 = (x10, s10)) (e11 : rF t s10 = (x11, s11)) (e12 : rL t s11 = ([], s12)) (e13 : rB t s12 = ([], s13)) (e14 : rU t s13 = (0, s14)) (e15 : rU t s14 = (0, s15)) (e16 : rE t s15 = 0) :
    Calls Try.prog 35 #[.agg #[.pointer (some ⟨b, 0, none⟩)]] w fun e w' => MsP w b a cap t s15 { hdM k1 k2 k3 k4 k5 with o1 := x1, o2 := x2, o3 := x3, o4 := x4, o5 := x5, o6 := x6, o7 := x7, o8 := x8, o9 := x9, pid := x10, cm := x11 } e w' := by
  have hb0 := ((Below.refl w.heap.size w).alloc (Nat.le_refl _) (.cells #[.pointer (some ⟨b, 0, none⟩)] 84)).alloc (by simp) (.cells (mgL mg0).toArray 41)
  have hbl := h.lt
  have HX := hide (heap_old (.cells (mgL mg0).toArray 41) (heap_new w (.cells #[.pointer (some ⟨b, 0, none⟩)] 84)))
  have HZ := hide (heap_new (w.alloc (.cells #[.pointer (some ⟨b, 0, none⟩)] 84)) (.cells (mgL mg0).toArray 41))
  have hsz : (w.alloc (.cells #[.pointer (some ⟨b, 0, none⟩)] 84)).heap.size = w.heap.size + 1 := by simp
  rw [hsz] at HZ
  have hs1 : w.heap.size + 2 ≤ ((w.alloc (.cells #[.pointer (some ⟨b, 0, none⟩)] 84)).alloc (.cells (mgL mg0).toArray 41)).heap.size := by simp
  have HLW : Hid (∀ k, w.heap.size ≤ k → 0 < t.length → ∀ x, a = some x → x.block ≠ k) := hide (fun k hk => rd_low h hk)
  have KH := hide (HEAD (h.later hb0))
  have HK0 : Hid (kndE k1 = 0) := hide (by unfold kndE; rw [if_neg (by omega)])
  have g1 : (k1 == 1) = false := beq_eq_false_iff_ne.2 (by omega)
  have g2 : (k1 == 2) = false := beq_eq_false_iff_ne.2 (by omega)
  have g3 : (k1 == 3) = false := beq_eq_false_iff_ne.2 (by omega)
  have g4 : (k1 == 4) = false := beq_eq_false_iff_ne.2 (by omega)
  have T0 : Hid (Touch (fun q => q = b ∨ w.heap.size ≤ q) w ((w.alloc (.cells #[.pointer (some ⟨b, 0, none⟩)] 84)).alloc (.cells (mgL mg0).toArray 41))) := hide (Touch.of_below hb0)
  have KO := hide (fun (W : World) (mb : Nat) (r : RdAt 97 W b a cap t s0) (hm : W.heap[mb]? = some (.cells (mgL (hdM k1 k2 k3 k4 k5)).toArray 41)) (hne : mb ≠ b) (hA : 0 < t.length → ∀ x, a = some x → x.block ≠ mb) => others_r0 r hm hne hA rfl ⟨rfl, rfl⟩ rfl ⟨rfl, rfl, rfl⟩ ⟨rfl, rfl, rfl⟩ e1 e2 e3 e4 e5 e6 e7 e8 e9 e10 e11 e12 e13 e14 e15)
  have E16 := hide e16
  clear h hb0 hsz hk HEAD e1 e2 e3 e4 e5 e6 e7 e8 e9 e10 e11 e12 e13 e14 e15 e16
  go_enter Try.func35, Try.ntmps35
  go_upto_region 1 with fail
  change Code.wp _ _ _ _ ((w.alloc (.cells #[.pointer (some ⟨b, 0, none⟩)] 84)).alloc (.cells (mgL mg0).toArray 41))
  generalize (w.alloc (.cells #[.pointer (some ⟨b, 0, none⟩)] 84)).alloc (.cells (mgL mg0).toArray 41) = W1 at *
  have z0 := cell_of (unhide HX) 0
  simp at z0
  go_wp2_with fail
  refine (unhide KH).mono ?_
  rintro e w2 ⟨t2, hh, _⟩
  obtain ⟨rfl, r2⟩ := hh (unhide HK0)
  have X2 := hide (t2.keep (unhide HX) (by omega))
  have Z2 := hide (t2.keep (unhide HZ) (by omega))
  have R2 := hide r2
  have hs2 : w.heap.size + 2 ≤ w2.heap.size := Nat.le_trans hs1 t2.size
  have T2 := hide ((unhide T0).trans (t2.mono (fun q hq => by rcases hq with e | e; exact .inl e; exact .inr (by omega))))
  clear hh t2 r2 KH T0
  have A2 := hide (heap_new w2 (.cells (mgL mg0).toArray 41))
  have HT2 := hide (there_of (o := 0) (n := (mgL (hdM k1 k2 k3 k4 k5)).toArray.size) (heap_new w2 (.cells #[.int .i64 0, .int .i64 0, .int .i64 0, .int .i64 0, .int .i64 0, .int .i64 0, .int .i64 0, .int .i64 0, .int .i64 0, .int .i64 0, .int .i64 0, .int .i64 0, .bool false, .slice none 0 0, .slice none 0 0, .int .i64 0, .int .i64 0, .int .i64 0, .int .i64 0, .int .i64 0, .int .i64 0, .int .i64 0, .int .i64 0, .int .i64 0, .bool false, .int .i64 0, .int .i64 0, .int .i64 0, .int .i64 0, .slice none 0 0, .int .i64 0, .int .i64 0, .int .i64 0, .int .i64 0, .int .i64 0, .slice none 0 0, .int .i64 0, .int .i64 0, .int .u64 0, .int .i64 0, .int .i64 0, .bool false, .bool false, .bool false, .slice none 0 0, .int .i64 0, .int .i64 0, .int .i64 0, .int .i64 0, .int .u64 0, .int .i64 0, .bool false, .int .i64 0, .int .i64 0, .int .i64 0, .slice none 0 0, .slice none 0 0, .slice none 0 0, .int .i64 0] 41)) (by rw [mg_size]; decide))
  have bA := (Below.refl w2.heap.size w2).alloc (Nat.le_refl _) (.cells (mgL mg0).toArray 41)
  have X3 := hide (below_keep bA (unhide X2))
  have Z3 := hide (below_keep bA (unhide Z2))
  have R3 := hide ((unhide R2).later bA)
  have T3 := hide ((unhide T2).trans (Touch.of_below (S := fun q => q = b ∨ w.heap.size ≤ q) bA))
  clear bA z0
  go_upto_region 2 with (with_reducible (show wpList _ _ _ (Oper.mk _ (Op.store _ _ _) _ _ _ _ :: _) _ _); refine wpList_store_mid rfl 41 (.tmp 3) (.tmp 5) rfl w2.heap.size 0 (mgL (hdM k1 k2 k3 k4 k5)).toArray rfl rfl (unhide HT2) (info_mga _) (mg_one _) ?_)
  obtain ⟨q1, q2⟩ := heap_setCells (mgL (hdM k1 k2 k3 k4 k5)) 0 (w2.alloc (.cells (mgL mg0).toArray 41)) _ (unhide A2)
  rw [lay_all (vs := mgL (hdM k1 k2 k3 k4 k5)) (by rw [mg_size]; rfl)] at q1
  change Code.wp _ _ _ _ ((w2.alloc (.cells (mgL mg0).toArray 41)).setCells w2.heap.size 0 (mgL (hdM k1 k2 k3 k4 k5)))
  have X4 := hide (q2.keep (unhide X3) (by omega))
  have Z4 := hide (q2.keep (unhide Z3) (by omega))
  have R4 := hide ((unhide R3).keep q2 (by omega) (unhide HLW w2.heap.size (by omega)))
  have T4 := hide ((unhide T3).trans (q2.mono (fun q hq => .inr (by omega))))
  have A4 := hide q1
  clear q1 q2 X3 Z3 R3 T3 A2 X2 Z2 R2 T2
  have hmb : w.heap.size + 2 ≤ w2.heap.size := hs2
  generalize (w2.alloc (.cells (mgL mg0).toArray 41)).setCells w2.heap.size 0 (mgL (hdM k1 k2 k3 k4 k5)) = W4 at *
  generalize w2.heap.size = mb at *
  have y0 : W4.cell? ⟨mb, 0, none⟩ = some (.int .i64 k1) := cell_of (unhide A4) 0
  have z0 := cell_of (unhide X4) 0
  simp at z0
  have HK := hide (unhide KO W4 mb (unhide R4) (unhide A4) (by omega) (unhide HLW mb (by omega)))
  have hl4 := lt_of_heap (unhide X4)
  clear KO
  go_wp2_with fail
  refine (unhide HK).mono ?_
  rintro e w5 ⟨rfl, ma, mc, r5, a5, t5⟩
  have X5 := hide (t5.keep (unhide X4) (by omega))
  have hl5 := lt_of_heap (unhide Z4)
  have Z5 := hide (t5.keep (unhide Z4) (by omega))
  have A5 := hide a5
  have R5 := hide r5
  have T5 := hide ((unhide T4).trans (t5.mono (fun q hq => by rcases hq with e | e | e; exact .inl e; exact .inr (by omega); exact .inr (by omega))))
  clear r5 a5 t5 HK y0 z0 R4 X4 Z4 A4 T4
  have z0 := cell_of (unhide X5) 0
  simp at z0
  have KE := end_any w5 (unhide R5)
  rw [unhide E16] at KE
  have HKE := hide KE
  clear KE
  go_wp2_with fail
  refine (unhide HKE).mono ?_
  rintro e w6 ⟨rfl, nq, rfl⟩
  have b6 := below_drewN' (Below.refl w5.heap.size w5) nq
  have Z6 := hide (below_keep b6 (unhide Z5))
  have A6 := hide (below_keep b6 (unhide A5))
  have R6 := hide ((unhide R5).later b6)
  have T6 := hide ((unhide T5).trans (Touch.of_below (S := fun q => q = b ∨ w.heap.size ≤ q) b6))
  clear b6 z0 HKE R5 X5 Z5 A5 T5
  generalize w5.drewN nq = W6 at *
  go_wp2_with fail
  refine (need_any 0 W6).mono ?_
  rintro e w7 ⟨rfl, he, _⟩
  obtain rfl := he rfl
  clear he
  obtain ⟨MM, hMM⟩ : ∃ MM, MM = ({ { hdM k1 k2 k3 k4 k5 with o1 := x1, o2 := x2, o3 := x3, o4 := x4, o5 := x5, o6 := x6, o7 := x7, o8 := x8, o9 := x9, pid := x10, cm := x11 } with ma := ma, mc := mc } : Mg) := ⟨_, rfl⟩
  rw [← hMM] at A6
  have HMM := hide hMM
  clear hMM
  have HRG := hide (range_of (o := 0) (ds := mgL MM) (unhide A6) (fun j v hv => by rw [Nat.zero_add]; exact hv))
  go_upto_region 13 with fail
  clear g1 g2 g3 g4 hs1 hs2 hl4 hl5 HK0
  have HT6 := hide (there_of (o := 0) (n := (mgL MM).toArray.size) (unhide Z6) (by rw [mg_size, mg_size]; decide))
  have HI1 := hide (info_mg MM)
  have HI2 := hide (info_mga MM)
  have HW2 := hide (mg_one MM)
  have HLN : Hid ((mgL mg0).toArray.size = (mgL MM).length) := hide rfl
  generalize hLL : mgL MM = LL at *
  have HLL := hide hLL
  clear hLL
  go_wp2_with (first
    | (with_reducible (show wpList _ _ _ (Oper.mk _ (Op.load _ _) _ _ _ _ :: _) _ _); refine wpList_load_mid rfl 41 (.tmp 3) rfl mb 0 rfl LL _ (unhide HRG) Try.underlying41 rfl (unhide HI1) ?_)
    | (with_reducible (show wpList _ _ _ (Oper.mk _ (Op.store _ _ _) _ _ _ _ :: _) _ _); refine wpList_store_mid rfl 41 (.tmp 2) (.tmp 34) rfl (w.heap.size + 1) 0 LL.toArray rfl rfl (unhide HT6) (unhide HI2) (unhide HW2) ?_))
  obtain ⟨q1, q2⟩ := heap_setCells LL 0 w7 _ (unhide Z6)
  rw [lay_all (unhide HLN)] at q1
  have FF : Hid (MsP w b a cap t s15 { hdM k1 k2 k3 k4 k5 with o1 := x1, o2 := x2, o3 := x3, o4 := x4, o5 := x5, o6 := x6, o7 := x7, o8 := x8, o9 := x9, pid := x10, cm := x11 } (.returned (.agg LL.toArray)) (w7.setCells (w.heap.size + 1) 0 LL)) := hide ⟨ma, mc, by rw [← unhide HLL, unhide HMM], (unhide R6).keep q2 (by omega) (unhide HLW (w.heap.size + 1) (by omega)), (unhide T6).trans (q2.mono (fun q hq => .inr (by omega)))⟩
  have RES : ∀ tmps : Array Value, tmps[2]?.getD undef = .pointer (some ⟨w.heap.size + 1, 0, none⟩) → (results Try.f35 tmps).run Try.prog (w7.setCells (w.heap.size + 1) 0 LL) = .ok (.agg LL.toArray) (w7.setCells (w.heap.size + 1) 0 LL) := fun tmps ht => by
    have e := unhide HLL
    rw [← e] at q1 ⊢
    exact res_msg q1 ht
  refine bodyPost_ret (RES _ rfl) rfl ?_
  exact unhide FF
end
end Go.Proofs.Ytcekleconjmfjaa
