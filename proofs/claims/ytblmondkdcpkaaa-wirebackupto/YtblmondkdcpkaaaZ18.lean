/-
  wire.Decode, for whatever its msg tells. Conditions: the bytes as they lie.
-/
import Derived.Test.YtblmondkdcpkaaaZ15
import Derived.Test.YtblmondkdcpkaaaZ17

/-
  wire's reader: msg of a kind that has others' form, its lists of none. Conditions: the reader as it lies.
-/
namespace Go.Proofs.Ytblmondkdcpkaaa
open Go.RowKit
set_option linter.unusedVariables false

def MsP (w : World) (b : Nat) (a : Option Addr) (cap : Nat) (t : List Nat) (s : Rst) (m : Mg) (e : Ending) (w' : World) : Prop :=
  ∃ ma mc, e = .returned (.agg (mgL { m with ma := ma, mc := mc }).toArray) ∧ RdAt 97 w' b a cap t s ∧ Touch (fun q => q = b ∨ w.heap.size ≤ q) w w'
section
variable {w : World} {b : Nat} {a : Option Addr} {cap : Nat} {t : List Nat}
set_option maxRecDepth 100000 in
set_option maxHeartbeats 8000000 in
theorem msg_r0 {k1 k2 k3 k4 k5 x1 x2 x3 x4 x5 x6 x7 x8 x9 : Int} {x10 : Nat} {x11 : Bool} {t0 s0 s1 s2 s3 s4 s5 s6 s7 s8 s9 s10 s11 s12 s13 s14 s15 : Rst} (h : RdAt 97 w b a cap t t0) (hk : 4 < k1 ∧ k1 ≤ 15) (HEAD : ∀ {W : World}, RdAt 97 W b a cap t t0 → Calls Try.prog 48 #[.agg #[.pointer (some ⟨b, 0, none⟩)]] W fun e w' => HdP W b a cap t s0 k1 k2 k3 k4 k5 e w') (e1 : rI t s0 = (x1, s1)) (e2 : rI t s1 = (x2, s2)) (e3 : rI t s2 = (x3, s3)) (e4 : rI t s3 = (x4, s4)) (e5 : rI t s4 = (x5, s5)) (e6 : rI t s5 = (x6, s6)) (e7 : rI t s6 = (x7, s7)) (e8 : rI t s7 = (x8, s8)) (e9 : rI t s8 = (x9, s9)) (e10 : rU t s9 = (x10, s10)) (e11 : rF t s10 = (x11, s11)) (e12 : rL t s11 = ([], s12)) (e13 : rB t s12 = ([], s13)) (e14 : rU t s13 = (0, s14)) (e15 : rU t s14 = (0, s15)) (e16 : rE t s15 = 0) :
    Calls Try.prog 35 #[.agg #[.pointer (some ⟨b, 0, none⟩)]] w fun e w' => MsP w b a cap t s15 { hdM k1 k2 k3 k4 k5 with o1 := x1, o2 := x2, o3 := x3, o4 := x4, o5 := x5, o6 := x6, o7 := x7, o8 := x8, o9 := x9, pid := x10, cm := x11 } e w' := by
  have hb0 := ((Below.refl w.heap.size w).alloc (Nat.le_refl _) (.cells #[.pointer (some ⟨b, 0, none⟩)] 84)).alloc (by simp) (.cells (mgL mg0).toArray 41)
  have hbl := h.lt
  have HX := hide (heap_old (.cells (mgL mg0).toArray 41) (heap_new w (.cells #[.pointer (some ⟨b, 0, none⟩)] 84)))
  have HZ := hide (heap_new (w.alloc (.cells #[.pointer (some ⟨b, 0, none⟩)] 84)) (.cells (mgL mg0).toArray 41))
  have hsz : (w.alloc (.cells #[.pointer (some ⟨b, 0, none⟩)] 84)).heap.size = w.heap.size + 1 := by simp
  rw [hsz] at HZ
  have hs1 : w.heap.size + 2 ≤ ((w.alloc (.cells #[.pointer (some ⟨b, 0, none⟩)] 84)).alloc (.cells (mgL mg0).toArray 41)).heap.size := by simp
  have HLW : Hid (∀ k, w.heap.size ≤ k → 0 < t.length → ∀ x, a = some x → x.block ≠ k) := hide (fun k hk => rd_low h hk)
  have KH := hide (HEAD (h.later hb0))
  have HK0 : Hid (kndE k1 = 0) := hide (by unfold kndE; rw [if_neg (by omega)])
  have g1 : (k1 == 1) = false := beq_eq_false_iff_ne.2 (by omega)
  have g2 : (k1 == 2) = false := beq_eq_false_iff_ne.2 (by omega)
  have g3 : (k1 == 3) = false := beq_eq_false_iff_ne.2 (by omega)
  have g4 : (k1 == 4) = false := beq_eq_false_iff_ne.2 (by omega)
  have T0 : Hid (Touch (fun q => q = b ∨ w.heap.size ≤ q) w ((w.alloc (.cells #[.pointer (some ⟨b, 0, none⟩)] 84)).alloc (.cells (mgL mg0).toArray 41))) := hide (Touch.of_below hb0)
  have KO := hide (fun (W : World) (mb : Nat) (r : RdAt 97 W b a cap t s0) (hm : W.heap[mb]? = some (.cells (mgL (hdM k1 k2 k3 k4 k5)).toArray 41)) (hne : mb ≠ b) (hA : 0 < t.length → ∀ x, a = some x → x.block ≠ mb) => others_r0 r hm hne hA rfl ⟨rfl, rfl⟩ rfl ⟨rfl, rfl, rfl⟩ ⟨rfl, rfl, rfl⟩ e1 e2 e3 e4 e5 e6 e7 e8 e9 e10 e11 e12 e13 e14 e15)
  have E16 := hide e16
  clear h hb0 hsz hk HEAD e1 e2 e3 e4 e5 e6 e7 e8 e9 e10 e11 e12 e13 e14 e15 e16
  go_enter Try.func35, Try.ntmps35
  go_upto_region 1 with fail
  change Code.wp _ _ _ _ ((w.alloc (.cells #[.pointer (some ⟨b, 0, none⟩)] 84)).alloc (.cells (mgL mg0).toArray 41))
  generalize (w.alloc (.cells #[.pointer (some ⟨b, 0, none⟩)] 84)).alloc (.cells (mgL mg0).toArray 41) = W1 at *
  have z0 := cell_of (unhide HX) 0
  simp at z0
  go_wp2_with fail
  refine (unhide KH).mono ?_
  rintro e w2 ⟨t2, hh, _⟩
  obtain ⟨rfl, r2⟩ := hh (unhide HK0)
  have X2 := hide (t2.keep (unhide HX) (by omega))
  have Z2 := hide (t2.keep (unhide HZ) (by omega))
  have R2 := hide r2
  have hs2 : w.heap.size + 2 ≤ w2.heap.size := Nat.le_trans hs1 t2.size
  have T2 := hide ((unhide T0).trans (t2.mono (fun q hq => by rcases hq with e | e; exact .inl e; exact .inr (by omega))))
  clear hh t2 r2 KH T0
  have A2 := hide (heap_new w2 (.cells (mgL mg0).toArray 41))
  have HT2 := hide (there_of (o := 0) (n := (mgL (hdM k1 k2 k3 k4 k5)).toArray.size) (heap_new w2 (.cells #[.int .i64 0, .int .i64 0, .int .i64 0, .int .i64 0, .int .i64 0, .int .i64 0, .int .i64 0, .int .i64 0, .int .i64 0, .int .i64 0, .int .i64 0, .int .i64 0, .bool false, .slice none 0 0, .slice none 0 0, .int .i64 0, .int .i64 0, .int .i64 0, .int .i64 0, .int .i64 0, .int .i64 0, .int .i64 0, .int .i64 0, .int .i64 0, .bool false, .int .i64 0, .int .i64 0, .int .i64 0, .int .i64 0, .slice none 0 0, .int .i64 0, .int .i64 0, .int .i64 0, .int .i64 0, .int .i64 0, .slice none 0 0, .int .i64 0, .int .i64 0, .int .u64 0, .int .i64 0, .int .i64 0, .bool false, .bool false, .bool false, .slice none 0 0, .int .i64 0, .int .i64 0, .int .i64 0, .int .i64 0, .int .u64 0, .int .i64 0, .bool false, .int .i64 0, .int .i64 0, .int .i64 0, .slice none 0 0, .slice none 0 0, .slice none 0 0, .int .i64 0] 41)) (by rw [mg_size]; decide))
  have bA := (Below.refl w2.heap.size w2).alloc (Nat.le_refl _) (.cells (mgL mg0).toArray 41)
  have X3 := hide (below_keep bA (unhide X2))
  have Z3 := hide (below_keep bA (unhide Z2))
  have R3 := hide ((unhide R2).later bA)
  have T3 := hide ((unhide T2).trans (Touch.of_below (S := fun q => q = b ∨ w.heap.size ≤ q) bA))
  clear bA z0
  go_upto_region 2 with (with_reducible (show wpList _ _ _ (Oper.mk _ (Op.store _ _ _) _ _ _ _ :: _) _ _); refine wpList_store_mid rfl 41 (.tmp 3) (.tmp 5) rfl w2.heap.size 0 (mgL (hdM k1 k2 k3 k4 k5)).toArray rfl rfl (unhide HT2) (info_mga _) (mg_one _) ?_)
  obtain ⟨q1, q2⟩ := heap_setCells (mgL (hdM k1 k2 k3 k4 k5)) 0 (w2.alloc (.cells (mgL mg0).toArray 41)) _ (unhide A2)
  rw [lay_all (vs := mgL (hdM k1 k2 k3 k4 k5)) (by rw [mg_size]; rfl)] at q1
  change Code.wp _ _ _ _ ((w2.alloc (.cells (mgL mg0).toArray 41)).setCells w2.heap.size 0 (mgL (hdM k1 k2 k3 k4 k5)))
  have X4 := hide (q2.keep (unhide X3) (by omega))
  have Z4 := hide (q2.keep (unhide Z3) (by omega))
  have R4 := hide ((unhide R3).keep q2 (by omega) (unhide HLW w2.heap.size (by omega)))
  have T4 := hide ((unhide T3).trans (q2.mono (fun q hq => .inr (by omega))))
  have A4 := hide q1
  clear q1 q2 X3 Z3 R3 T3 A2 X2 Z2 R2 T2
  have hmb : w.heap.size + 2 ≤ w2.heap.size := hs2
  generalize (w2.alloc (.cells (mgL mg0).toArray 41)).setCells w2.heap.size 0 (mgL (hdM k1 k2 k3 k4 k5)) = W4 at *
  generalize w2.heap.size = mb at *
  have y0 : W4.cell? ⟨mb, 0, none⟩ = some (.int .i64 k1) := cell_of (unhide A4) 0
  have z0 := cell_of (unhide X4) 0
  simp at z0
  have HK := hide (unhide KO W4 mb (unhide R4) (unhide A4) (by omega) (unhide HLW mb (by omega)))
  have hl4 := lt_of_heap (unhide X4)
  clear KO
  go_wp2_with fail
  refine (unhide HK).mono ?_
  rintro e w5 ⟨rfl, ma, mc, r5, a5, t5⟩
  have X5 := hide (t5.keep (unhide X4) (by omega))
  have hl5 := lt_of_heap (unhide Z4)
  have Z5 := hide (t5.keep (unhide Z4) (by omega))
  have A5 := hide a5
  have R5 := hide r5
  have T5 := hide ((unhide T4).trans (t5.mono (fun q hq => by rcases hq with e | e | e; exact .inl e; exact .inr (by omega); exact .inr (by omega))))
  clear r5 a5 t5 HK y0 z0 R4 X4 Z4 A4 T4
  have z0 := cell_of (unhide X5) 0
  simp at z0
  have KE := end_any w5 (unhide R5)
  rw [unhide E16] at KE
  have HKE := hide KE
  clear KE
  go_wp2_with fail
  refine (unhide HKE).mono ?_
  rintro e w6 ⟨rfl, nq, rfl⟩
  have b6 := below_drewN' (Below.refl w5.heap.size w5) nq
  have Z6 := hide (below_keep b6 (unhide Z5))
  have A6 := hide (below_keep b6 (unhide A5))
  have R6 := hide ((unhide R5).later b6)
  have T6 := hide ((unhide T5).trans (Touch.of_below (S := fun q => q = b ∨ w.heap.size ≤ q) b6))
  clear b6 z0 HKE R5 X5 Z5 A5 T5
  generalize w5.drewN nq = W6 at *
  go_wp2_with fail
  refine (need_any 0 W6).mono ?_
  rintro e w7 ⟨rfl, he, _⟩
  obtain rfl := he rfl
  clear he
  obtain ⟨MM, hMM⟩ : ∃ MM, MM = ({ { hdM k1 k2 k3 k4 k5 with o1 := x1, o2 := x2, o3 := x3, o4 := x4, o5 := x5, o6 := x6, o7 := x7, o8 := x8, o9 := x9, pid := x10, cm := x11 } with ma := ma, mc := mc } : Mg) := ⟨_, rfl⟩
  rw [← hMM] at A6
  have HMM := hide hMM
  clear hMM
  have HRG := hide (range_of (o := 0) (ds := mgL MM) (unhide A6) (fun j v hv => by rw [Nat.zero_add]; exact hv))
  go_upto_region 13 with fail
  clear g1 g2 g3 g4 hs1 hs2 hl4 hl5 HK0
  have HT6 := hide (there_of (o := 0) (n := (mgL MM).toArray.size) (unhide Z6) (by rw [mg_size, mg_size]; decide))
  have HI1 := hide (info_mg MM)
  have HI2 := hide (info_mga MM)
  have HW2 := hide (mg_one MM)
  have HLN : Hid ((mgL mg0).toArray.size = (mgL MM).length) := hide rfl
  generalize hLL : mgL MM = LL at *
  have HLL := hide hLL
  clear hLL
  go_wp2_with (first
    | (with_reducible (show wpList _ _ _ (Oper.mk _ (Op.load _ _) _ _ _ _ :: _) _ _); refine wpList_load_mid rfl 41 (.tmp 3) rfl mb 0 rfl LL _ (unhide HRG) Try.underlying41 rfl (unhide HI1) ?_)
    | (with_reducible (show wpList _ _ _ (Oper.mk _ (Op.store _ _ _) _ _ _ _ :: _) _ _); refine wpList_store_mid rfl 41 (.tmp 2) (.tmp 34) rfl (w.heap.size + 1) 0 LL.toArray rfl rfl (unhide HT6) (unhide HI2) (unhide HW2) ?_))
  obtain ⟨q1, q2⟩ := heap_setCells LL 0 w7 _ (unhide Z6)
  rw [lay_all (unhide HLN)] at q1
  have FF : Hid (MsP w b a cap t s15 { hdM k1 k2 k3 k4 k5 with o1 := x1, o2 := x2, o3 := x3, o4 := x4, o5 := x5, o6 := x6, o7 := x7, o8 := x8, o9 := x9, pid := x10, cm := x11 } (.returned (.agg LL.toArray)) (w7.setCells (w.heap.size + 1) 0 LL)) := hide ⟨ma, mc, by rw [← unhide HLL, unhide HMM], (unhide R6).keep q2 (by omega) (unhide HLW (w.heap.size + 1) (by omega)), (unhide T6).trans (q2.mono (fun q hq => .inr (by omega)))⟩
  have RES : ∀ tmps : Array Value, tmps[2]?.getD undef = .pointer (some ⟨w.heap.size + 1, 0, none⟩) → (results Try.f35 tmps).run Try.prog (w7.setCells (w.heap.size + 1) 0 LL) = .ok (.agg LL.toArray) (w7.setCells (w.heap.size + 1) 0 LL) := fun tmps ht => by
    have e := unhide HLL
    rw [← e] at q1 ⊢
    exact res_msg q1 ht
  refine bodyPost_ret (RES _ rfl) rfl ?_
  exact unhide FF
end
end Go.Proofs.Ytblmondkdcpkaaa


/-
  wire.Decode's own function: what msg tells is laid into the message's box, or it gives up. Conditions: as each says.
-/
namespace Go.Proofs.Ytblmondkdcpkaaa
open Go.RowKit
set_option linter.unusedVariables false

/-- What msg tells: 59 cells. -/
def MsT (R : List Value → World → Prop) (e : Ending) (w' : World) : Prop := ∃ L : List Value, e = .returned (.agg L.toArray) ∧ L.length = 59 ∧ L.toArray.all (·.oneCell') = true ∧ R L w'
def D1T (R : List Value → World → Prop) (mb : Nat) (e : Ending) (w' : World) : Prop := e = .returned (.tuple #[]) ∧ ∃ L u, R L u ∧ w'.heap[mb]? = some (.cells L.toArray 41) ∧ Touch (· = mb) u w'
section
variable {w : World} {b c mb : Nat} {cs : Array Value}
set_option maxHeartbeats 4000000 in
theorem dec1_ok {R : List Value → World → Prop} (hc : w.heap[c]? = some (.cells #[.pointer (some ⟨b, 0, none⟩)] 84)) (hcs : cs.size = 59) (hR : ∀ L u, R L u → u.heap[mb]? = some (.cells cs 41))
    (K : Calls Try.prog 35 #[.agg #[.pointer (some ⟨b, 0, none⟩)]] w fun e w' => MsT R e w') :
    Calls Try.prog 34 #[.pointer (some ⟨c, 0, none⟩), .pointer (some ⟨mb, 0, none⟩)] w fun e w' => D1T R mb e w' := by
  have z0 := cell_of hc 0
  simp at z0
  have HK := hide K
  have HR := hide hR
  clear K hR hc
  go_enter Try.func34, Try.ntmps34
  go_wp2_with fail
  refine (unhide HK).mono ?_
  rintro e w2 ⟨L, rfl, l2, o2, r2⟩
  have hh := unhide HR L w2 r2
  have HT := hide (there_of (o := 0) (n := L.toArray.size) hh (by simp [l2, hcs]))
  have HI : Hid ((Try.prog.info? 41).map (·.size) = some L.toArray.size) := hide (by rw [info_msg]; simp [l2])
  have HO := hide o2
  obtain ⟨q1, q2⟩ := heap_setCells L 0 w2 _ hh
  rw [lay_all (by rw [hcs, l2])] at q1
  have FF : Hid (D1T R mb (.returned (.tuple #[])) (w2.setCells mb 0 L)) := hide ⟨rfl, L, w2, r2, q1, q2⟩
  clear hh q1 q2 r2 o2 l2 z0 HK HR hcs
  go_wp2_with (with_reducible (show wpList _ _ _ (Oper.mk _ (Op.store _ _ _) _ _ _ _ :: _) _ _); refine wpList_store_mid rfl 41 (.tmp 1) (.tmp 3) rfl mb 0 L.toArray rfl rfl (unhide HT) (unhide HI) (unhide HO) ?_)
  go_returns
  exact unhide FF
set_option maxHeartbeats 4000000 in
theorem dec1_no {R : World → Prop} {E : Int} (hc : w.heap[c]? = some (.cells #[.pointer (some ⟨b, 0, none⟩)] 84))
    (K : Calls Try.prog 35 #[.agg #[.pointer (some ⟨b, 0, none⟩)]] w fun e w' => e = gone E ∧ R w') :
    Calls Try.prog 34 #[.pointer (some ⟨c, 0, none⟩), .pointer (some ⟨mb, 0, none⟩)] w fun e w' => e = gone E ∧ R w' := by
  have z0 := cell_of hc 0
  simp at z0
  have HK := hide K
  clear K hc
  go_enter Try.func34, Try.ntmps34
  go_wp2_with fail
  refine (unhide HK).mono ?_
  rintro e w2 ⟨rfl, r2⟩
  have R2 := hide r2
  clear r2
  go_wp2
  exact ⟨rfl, rfl, unhide R2⟩
end
end Go.Proofs.Ytblmondkdcpkaaa


namespace Go.Proofs.Ytblmondkdcpkaaa
open Go.RowKit
set_option linter.unusedVariables false

theorem enters_dec : ∀ args w, (callFunc 34 args).run Try.prog w = .ok (.enter 34 args) w := enters_of Try.func34 rfl rfl
theorem res_decL {Y : World} {g : Nat} {L : List Value} {E : Int} {tmps : Array Value} (h : Y.heap[g]? = some (.cells L.toArray 41)) (hL : L.length = 59) (ht : tmps[2]?.getD undef = .pointer (some ⟨g, 0, none⟩)) (h3 : tmps[3]?.getD undef = .int .i64 E) :
    (results Try.f13 tmps).run Try.prog Y = .ok (.tuple #[.agg L.toArray, .int .i64 E]) Y := by
  have hlv := run_loadVar_mid (P := Try.prog) Y g 0 41 L _ (range_of h (fun j v hv => by rw [Nat.zero_add]; exact hv)) Try.underlying41 rfl (by rw [info_msg, hL])
  simp [results, Try.results13, ht, h3, asAddr, hlv]
/-- What Decode answers. -/
def DcP (P : List Value → Prop) (w : World) (E : Int) (e : Ending) (w' : World) : Prop := ∃ L : List Value, P L ∧ L.length = 59 ∧ e = .returned (.tuple #[.agg L.toArray, .int .i64 E]) ∧ Below w.heap.size w w'
section
variable {w : World} {a : Option Addr} {cap : Nat} {t : List Nat}
/-- What msg tells, where it comes back. -/
def MsR (P : List Value → Prop) (W : World) (b : Nat) (e : Ending) (w' : World) : Prop := MsT (fun L u => P L ∧ (L.length = 59 ∧ L.toArray.all (·.oneCell') = true) ∧ Touch (fun q => q = b ∨ W.heap.size ≤ q) W u) e w'
set_option maxRecDepth 100000 in
set_option maxHeartbeats 8000000 in
theorem wdec_ok {P : List Value → Prop} (ht : LAt w a t) (hn : a = none → cap = 0) (hl : t.length ≤ 140737488355328)
    (MSG : ∀ W b a' cap', RdAt 97 W b a' cap' t ⟨0, 0⟩ → Calls Try.prog 35 #[.agg #[.pointer (some ⟨b, 0, none⟩)]] W fun e w' => MsR P W b e w') :
    Calls Try.prog 13 #[.slice a t.length cap] w fun e w' => DcP P w 0 e w' := by
  have hb1 := ((Below.refl w.heap.size w).alloc (Nat.le_refl _) (.cells (mgL mg0).toArray 41)).alloc (by simp) (.cells (mgL mg0).toArray 41)
  have H0 := hide (heap_old (.cells (mgL mg0).toArray 41) (heap_new w (.cells (mgL mg0).toArray 41)))
  have H1 := hide (heap_new (w.alloc (.cells (mgL mg0).toArray 41)) (.cells (mgL mg0).toArray 41))
  have hz1 : (w.alloc (.cells (mgL mg0).toArray 41)).heap.size = w.heap.size + 1 := by simp
  rw [hz1] at H1
  have hs2 : ((w.alloc (.cells (mgL mg0).toArray 41)).alloc (.cells (mgL mg0).toArray 41)).heap.size = w.heap.size + 2 := by simp
  have KN := hide (newreader_any ((w.alloc (.cells (mgL mg0).toArray 41)).alloc (.cells (mgL mg0).toArray 41)) a cap t (ht.later hb1) hn hl)
  have HB1 := hide hb1
  have HMSG := hide MSG
  have hmf : ∀ (fn : Fn) (first cap : Array Value) (w : World), (Instr.makeFunc fn first cap).run Try.prog w = .ok (.func fn first cap) w := fun _ _ _ _ => rfl
  clear ht hn hl hb1 hz1 MSG
  generalize t.length = tl at *
  go_enter Try.func13, Try.ntmps13
  go_upto_region 2 with fail
  change Code.wp _ _ _ _ ((w.alloc (.cells (mgL mg0).toArray 41)).alloc (.cells (mgL mg0).toArray 41))
  generalize (w.alloc (.cells (mgL mg0).toArray 41)).alloc (.cells (mgL mg0).toArray 41) = W2 at *
  go_wp2_with fail
  refine (unhide KN).mono ?_
  rintro e w3 ⟨b, a', cap', rfl, r3, b3, hb3, _⟩
  have bc := (Below.refl w3.heap.size w3).alloc (Nat.le_refl _) (.cells #[.pointer (some ⟨b, 0, none⟩)] 84)
  have R3 := hide (r3.later bc)
  have C3 := hide (heap_new w3 (.cells #[.pointer (some ⟨b, 0, none⟩)] 84))
  have H03 := hide (below_keep bc (below_keep b3 (unhide H0)))
  have H13 := hide (below_keep bc (below_keep b3 (unhide H1)))
  have b13 := ((unhide HB1).trans (b3.mono (unhide HB1).size)).trans (bc.mono (Nat.le_trans (unhide HB1).size b3.size))
  have B3 := hide b13
  have hbb : w.heap.size + 2 ≤ b := by omega
  have hbl : b < w3.heap.size := r3.lt
  have hw3 : w3.heap.size < (w3.alloc (.cells #[.pointer (some ⟨b, 0, none⟩)] 84)).heap.size := by simp
  clear r3 b3 hb3 bc b13 KN H0 H1 HB1 hs2
  go_upto_region 3 with fail
  generalize w3.alloc (.cells #[.pointer (some ⟨b, 0, none⟩)] 84) = W3 at *
  generalize w3.heap.size = c at *
  have b4 := (Below.refl W3.heap.size W3).alloc (Nat.le_refl _) (.cells #[.int .i64 0] 22)
  have R4 := (unhide R3).later b4
  have C4 := below_keep b4 (unhide C3)
  have H04 := below_keep b4 (unhide H03)
  have H14 := below_keep b4 (unhide H13)
  have HR4 := heap_new W3 (.cells #[.int .i64 0] 22)
  have B4 := (unhide B3).trans (b4.mono (unhide B3).size)
  have hz4 : (W3.alloc (.cells #[.int .i64 0] 22)).heap.size = W3.heap.size + 1 := by simp
  have KM := unhide HMSG (W3.alloc (.cells #[.int .i64 0] 22)) b a' cap' R4
  generalize hW4 : W3.alloc (.cells #[.int .i64 0] 22) = W4 at *
  have K1 := dec1_ok (mb := w.heap.size + 1) (cs := (mgL mg0).toArray) C4 (mg_size mg0) (R := fun L u => P L ∧ (L.length = 59 ∧ L.toArray.all (·.oneCell') = true) ∧ Touch (fun q => q = b ∨ W4.heap.size ≤ q) W4 u) (fun L u h => h.2.2.keep H14 (by omega)) KM
  have KT : Calls Try.prog 29 #[.func (.func 34) #[] #[.pointer (some ⟨c, 0, none⟩), .pointer (some ⟨w.heap.size + 1, 0, none⟩)]] W3 fun e w' => TD 0 (fun u => ∃ L : List Value, P L ∧ (L.length = 59 ∧ L.toArray.all (·.oneCell') = true) ∧ u.heap[w.heap.size + 1]? = some (.cells L.toArray 41) ∧ u.heap[w.heap.size]? = some (.cells (mgL mg0).toArray 41) ∧ Below w.heap.size w u) W3.heap.size e w' :=
    tried_ok enters_dec (by
      rw [hW4]
      refine K1.mono fun e w' h => ?_
      obtain ⟨he, L, u, ⟨p1, p2, p3⟩, h2, t2⟩ := h
      have s3 := p3.size
      refine ⟨he, t2.keep (p3.keep HR4 (by omega)) (by omega), L, p1, p2, h2, t2.keep (p3.keep H04 (by omega)) (by omega), ?_⟩
      exact below_touch (below_touch B4 p3 B4.size (fun k hk => by have := B4.size; omega)) t2 (by have := B4.size; omega) (fun k hk => by omega))
  have HKT := hide KT
  have hrl : w.heap.size + 2 ≤ W3.heap.size := by omega
  clear KT K1 KM hW4 B4 HR4 H14 H04 C4 R4 b4 hz4
  go_wp2_with fail
  refine (unhide HKT).mono ?_
  rintro e w5 ⟨rfl, u, ⟨L, p1, p2, h2, h3, b5⟩, t5⟩
  have A5 := hide (t5.keep h2 (by omega))
  have Z5 := hide (t5.keep h3 (by omega))
  have B5 := hide (below_touch b5 t5 b5.size (fun k hk => by omega))
  have HRG := hide (range_of (o := 0) (ds := L) (unhide A5) (fun j v hv => by rw [Nat.zero_add]; exact hv))
  have HT : Hid (w5.there w.heap.size 0 L.toArray.size) := hide (there_of (unhide Z5) (by rw [mg_size]; simp [p2.1]))
  have HI1 : Hid ((Try.prog.info? 41).map (·.size) = some L.length) := hide (by rw [info_msg, p2.1])
  have HI2 : Hid ((Try.prog.info? 41).map (·.size) = some L.toArray.size) := hide (by rw [info_msg]; simp [p2.1])
  have HW := hide p2.2
  have HLN := hide p2.1
  have HP := hide p1
  clear p1 p2 h2 h3 b5 t5 HKT
  go_wp2_with (first
    | (with_reducible (show wpList _ _ _ (Oper.mk _ (Op.load _ _) _ _ _ _ :: _) _ _); refine wpList_load_mid rfl 41 (.tmp 4) rfl (w.heap.size + 1) 0 rfl L _ (unhide HRG) Try.underlying41 rfl (unhide HI1) ?_)
    | (with_reducible (show wpList _ _ _ (Oper.mk _ (Op.store _ _ _) _ _ _ _ :: _) _ _); refine wpList_store_mid rfl 41 (.tmp 2) (.tmp 16) rfl w.heap.size 0 L.toArray rfl rfl (unhide HT) (unhide HI2) (unhide HW) ?_))
  obtain ⟨q1, q2⟩ := heap_setCells L 0 w5 _ (unhide Z5)
  rw [lay_all (by rw [mg_size, unhide HLN])] at q1
  have FF : Hid (DcP P w 0 (.returned (.tuple #[.agg L.toArray, .int .i64 0])) (w5.setCells w.heap.size 0 L)) := hide ⟨L, unhide HP, unhide HLN, rfl, below_touch (unhide B5) q2 (unhide B5).size (fun k hk => by omega)⟩
  refine bodyPost_ret (res_decL q1 (unhide HLN) rfl rfl) rfl ?_
  exact unhide FF
end
end Go.Proofs.Ytblmondkdcpkaaa
