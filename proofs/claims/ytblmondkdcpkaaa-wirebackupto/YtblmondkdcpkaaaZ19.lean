/-
  A message stays as it lies in later worlds; what is laid behind what was laid, in plain words. Conditions: none.
-/
import Derived.Test.YtblmondkdcpkaaaZ18

/-
  wire.Decode where its msg gives up; msg where its head does. Conditions: the reader as it lies.
-/
namespace Go.Proofs.Ytblmondkdcpkaaa
open Go.RowKit
set_option linter.unusedVariables false

theorem store_zero {ops : Array Oper} {rest : List Oper} {op : Oper} {a : Act} {w : World} {Q : Exit → Act → World → Prop} (hgd : op.guard = none) (x y : Operand) (ho : op.op = .store 41 x y)
    (g : Nat) (cells : Array Value) (hx : a.eval x = .pointer (some ⟨g, 0, none⟩)) (hy : a.eval y = .agg cells) (hc : cells = (mgL mg0).toArray) {cs : Array Value}
    (hg : w.heap[g]? = some (.cells cs 41)) (hcs : cs.size = 59)
    (h : ∀ W, W.heap[g]? = some (.cells (mgL mg0).toArray 41) → Touch (· = g) w W → wpList Try.prog ops Q rest (a.put op.dst undef) W) : wpList Try.prog ops Q (op :: rest) a w := by
  subst hc
  refine wpList_store_mid hgd 41 x y ho g 0 _ hx hy (there_of hg (by rw [mg_size, hcs]; decide)) info_msg (mg_one mg0) ?_
  obtain ⟨q1, q2⟩ := heap_setCells (mgL mg0) 0 w _ hg
  rw [lay_all (by rw [hcs]; rfl)] at q1
  exact h _ q1 q2
theorem store_list {ops : Array Oper} {rest : List Oper} {op : Oper} {a : Act} {w : World} {Q : Exit → Act → World → Prop} (hgd : op.guard = none) (x y : Operand) (ho : op.op = .store 41 x y)
    (g : Nat) (L : List Value) (hx : a.eval x = .pointer (some ⟨g, 0, none⟩)) (hy : a.eval y = .agg L.toArray) {cs : Array Value}
    (hg : w.heap[g]? = some (.cells cs 41)) (hcs : cs.size = 59) (hL : L.length = 59) (h1 : L.toArray.all (·.oneCell') = true)
    (h : ∀ W, W.heap[g]? = some (.cells L.toArray 41) → Touch (· = g) w W → wpList Try.prog ops Q rest (a.put op.dst undef) W) : wpList Try.prog ops Q (op :: rest) a w := by
  refine wpList_store_mid hgd 41 x y ho g 0 _ hx hy (there_of hg (by simp [hL, hcs])) (by rw [info_msg]; simp [hL]) h1 ?_
  obtain ⟨q1, q2⟩ := heap_setCells L 0 w _ hg
  rw [lay_all (by rw [hcs, hL])] at q1
  exact h _ q1 q2
section
variable {w : World} {a : Option Addr} {cap : Nat} {t : List Nat}
set_option maxRecDepth 100000 in
set_option maxHeartbeats 8000000 in
theorem wdec_no {E : Int} (hE : E ≠ 0) (ht : LAt w a t) (hn : a = none → cap = 0) (hl : t.length ≤ 140737488355328)
    (MSG : ∀ W b a' cap', RdAt 97 W b a' cap' t ⟨0, 0⟩ → Calls Try.prog 35 #[.agg #[.pointer (some ⟨b, 0, none⟩)]] W fun e w' => e = gone E ∧ Touch (fun q => q = b ∨ W.heap.size ≤ q) W w') :
    Calls Try.prog 13 #[.slice a t.length cap] w fun e w' => DcP (fun L => L = mgL mg0) w E e w' := by
  have hb1 := ((Below.refl w.heap.size w).alloc (Nat.le_refl _) (.cells (mgL mg0).toArray 41)).alloc (by simp) (.cells (mgL mg0).toArray 41)
  have H0 := hide (heap_old (.cells (mgL mg0).toArray 41) (heap_new w (.cells (mgL mg0).toArray 41)))
  have H1 := hide (heap_new (w.alloc (.cells (mgL mg0).toArray 41)) (.cells (mgL mg0).toArray 41))
  have hz1 : (w.alloc (.cells (mgL mg0).toArray 41)).heap.size = w.heap.size + 1 := by simp
  rw [hz1] at H1
  have hs2 : ((w.alloc (.cells (mgL mg0).toArray 41)).alloc (.cells (mgL mg0).toArray 41)).heap.size = w.heap.size + 2 := by simp
  have KN := hide (newreader_any ((w.alloc (.cells (mgL mg0).toArray 41)).alloc (.cells (mgL mg0).toArray 41)) a cap t (ht.later hb1) hn hl)
  have HB1 := hide hb1
  have HMSG := hide MSG
  have hmf : ∀ (fn : Fn) (first cap : Array Value) (w : World), (Instr.makeFunc fn first cap).run Try.prog w = .ok (.func fn first cap) w := fun _ _ _ _ => rfl
  clear ht hn hl hb1 hz1 MSG
  generalize t.length = tl at *
  go_enter Try.func13, Try.ntmps13
  go_upto_region 2 with fail
  change Code.wp _ _ _ _ ((w.alloc (.cells (mgL mg0).toArray 41)).alloc (.cells (mgL mg0).toArray 41))
  generalize (w.alloc (.cells (mgL mg0).toArray 41)).alloc (.cells (mgL mg0).toArray 41) = W2 at *
  go_wp2_with fail
  refine (unhide KN).mono ?_
  rintro e w3 ⟨b, a', cap', rfl, r3, b3, hb3, _⟩
  have bc := (Below.refl w3.heap.size w3).alloc (Nat.le_refl _) (.cells #[.pointer (some ⟨b, 0, none⟩)] 84)
  have R3 := hide (r3.later bc)
  have C3 := hide (heap_new w3 (.cells #[.pointer (some ⟨b, 0, none⟩)] 84))
  have H03 := hide (below_keep bc (below_keep b3 (unhide H0)))
  have H13 := hide (below_keep bc (below_keep b3 (unhide H1)))
  have b13 := ((unhide HB1).trans (b3.mono (unhide HB1).size)).trans (bc.mono (Nat.le_trans (unhide HB1).size b3.size))
  have B3 := hide b13
  have hbb : w.heap.size + 2 ≤ b := by omega
  have hbl : b < w3.heap.size := r3.lt
  have hw3 : w3.heap.size < (w3.alloc (.cells #[.pointer (some ⟨b, 0, none⟩)] 84)).heap.size := by simp
  clear r3 b3 hb3 bc b13 KN H0 H1 HB1 hs2
  go_upto_region 3 with fail
  generalize w3.alloc (.cells #[.pointer (some ⟨b, 0, none⟩)] 84) = W3 at *
  generalize w3.heap.size = c at *
  have b4 := (Below.refl W3.heap.size W3).alloc (Nat.le_refl _) (.cells #[.int .i64 0] 22)
  have R4 := (unhide R3).later b4
  have C4 := below_keep b4 (unhide C3)
  have H04 := below_keep b4 (unhide H03)
  have H14 := below_keep b4 (unhide H13)
  have HR4 := heap_new W3 (.cells #[.int .i64 0] 22)
  have B4 := (unhide B3).trans (b4.mono (unhide B3).size)
  have hz4 : (W3.alloc (.cells #[.int .i64 0] 22)).heap.size = W3.heap.size + 1 := by simp
  have KM := unhide HMSG (W3.alloc (.cells #[.int .i64 0] 22)) b a' cap' R4
  generalize hW4 : W3.alloc (.cells #[.int .i64 0] 22) = W4 at *
  have K1 := dec1_no (mb := w.heap.size + 1) C4 (R := fun u => Touch (fun q => q = b ∨ W4.heap.size ≤ q) W4 u) KM
  have KT : Calls Try.prog 29 #[.func (.func 34) #[] #[.pointer (some ⟨c, 0, none⟩), .pointer (some ⟨w.heap.size + 1, 0, none⟩)]] W3 fun e w' => TD E (fun u => u.heap[w.heap.size]? = some (.cells (mgL mg0).toArray 41) ∧ Below w.heap.size w u) W3.heap.size e w' :=
    tried_no enters_dec (by
      rw [hW4]
      refine K1.mono fun e w' h => ?_
      obtain ⟨he, p3⟩ := h
      exact ⟨he, p3.keep HR4 (by omega), p3.keep H04 (by omega), below_touch B4 p3 B4.size (fun k hk => by have := B4.size; omega)⟩)
  have HKT := hide KT
  have hrl : w.heap.size + 2 ≤ W3.heap.size := by omega
  have hEb : (E == 0) = false := beq_eq_false_iff_ne.2 hE
  clear KT K1 KM hW4 B4 HR4 H14 H04 C4 R4 b4 hz4 hE
  go_wp2_with fail
  refine (unhide HKT).mono ?_
  rintro e w5 ⟨rfl, u, ⟨h3, b5⟩, t5⟩
  have Z5 := hide (t5.keep h3 (by omega))
  have B5 := hide (below_touch b5 t5 b5.size (fun k hk => by omega))
  clear h3 b5 t5 HKT
  generalize hLL : mgL mg0 = LL at *
  have HLL := hide hLL
  clear hLL
  have HL5 : Hid (LL.toArray.size = 59) := hide (by rw [← unhide HLL]; rfl)
  go_wp2_with (with_reducible (show wpList _ _ _ (Oper.mk _ (Op.store _ _ _) _ _ _ _ :: _) _ _); (refine store_zero rfl (.tmp 2) (.tmp 14) rfl w.heap.size _ rfl rfl (by kernel_rfl) (unhide Z5) (unhide HL5) ?_; rintro W6 q1 q2; have Q1 := hide q1; have Q2 := hide q2; clear q1 q2))
  have FF : Hid (DcP (fun L => L = mgL mg0) w E (.returned (.tuple #[.agg (mgL mg0).toArray, .int .i64 E])) W6) := hide ⟨_, rfl, rfl, rfl, below_touch (unhide B5) (unhide Q2) (unhide B5).size (fun k hk => by omega)⟩
  refine bodyPost_ret (res_decL (unhide Q1) rfl rfl rfl) rfl ?_
  exact unhide FF
set_option maxRecDepth 100000 in
set_option maxHeartbeats 8000000 in
theorem msg_no {b : Nat} {k1 k2 k3 k4 k5 : Int} {t0 s0 : Rst} (h : RdAt 97 w b a cap t t0) (hk : kndE k1 ≠ 0) (HEAD : ∀ {W : World}, RdAt 97 W b a cap t t0 → Calls Try.prog 48 #[.agg #[.pointer (some ⟨b, 0, none⟩)]] W fun e w' => HdP W b a cap t s0 k1 k2 k3 k4 k5 e w') :
    Calls Try.prog 35 #[.agg #[.pointer (some ⟨b, 0, none⟩)]] w fun e w' => e = gone 1 ∧ Touch (fun q => q = b ∨ w.heap.size ≤ q) w w' := by
  have hb0 := ((Below.refl w.heap.size w).alloc (Nat.le_refl _) (.cells #[.pointer (some ⟨b, 0, none⟩)] 84)).alloc (by simp) (.cells (mgL mg0).toArray 41)
  have HX := hide (heap_old (.cells (mgL mg0).toArray 41) (heap_new w (.cells #[.pointer (some ⟨b, 0, none⟩)] 84)))
  have hs1 : w.heap.size ≤ ((w.alloc (.cells #[.pointer (some ⟨b, 0, none⟩)] 84)).alloc (.cells (mgL mg0).toArray 41)).heap.size := by simp; omega
  have KH := hide (HEAD (h.later hb0))
  have T0 : Hid (Touch (fun q => q = b ∨ w.heap.size ≤ q) w ((w.alloc (.cells #[.pointer (some ⟨b, 0, none⟩)] 84)).alloc (.cells (mgL mg0).toArray 41))) := hide (Touch.of_below hb0)
  have HK0 := hide hk
  clear h hb0 hk HEAD
  go_enter Try.func35, Try.ntmps35
  go_upto_region 1 with fail
  change Code.wp _ _ _ _ ((w.alloc (.cells #[.pointer (some ⟨b, 0, none⟩)] 84)).alloc (.cells (mgL mg0).toArray 41))
  generalize (w.alloc (.cells #[.pointer (some ⟨b, 0, none⟩)] 84)).alloc (.cells (mgL mg0).toArray 41) = W1 at *
  have z0 := cell_of (unhide HX) 0
  simp at z0
  go_wp2_with fail
  refine (unhide KH).mono ?_
  rintro e w2 ⟨t2, _, hh⟩
  obtain rfl := hh (unhide HK0)
  have T2 := hide ((unhide T0).trans (t2.mono (fun q hq => by rcases hq with e | e; exact .inl e; exact .inr (by omega))))
  clear hh t2 KH T0 z0
  go_wp2
  exact ⟨rfl, rfl, unhide T2⟩
end
end Go.Proofs.Ytblmondkdcpkaaa


/-
  The message that awake writes, its bytes, and how they are read, in plain words. No Go text is read here. No conditions.
-/
namespace Go.Proofs.Ytblmondkdcpkaaa
open Go.RowKit
set_option linter.unusedVariables false

def awM : Mg := { mg0 with kd := 14, fr := 3, co := 1, o1 := 2, o6 := 1 }
def awT : List Nat := [28, 6, 0, 2, 0, 4, 0, 0, 0, 0, 2, 0, 0, 0, 0, 0, 0, 0, 0, 0]
theorem zig_small : zig 0 = 0 ∧ zig 1 = 2 ∧ zig 2 = 4 ∧ zig 3 = 6 ∧ zig 14 = 28 := by decide
theorem aw_E : finE awM = 0 := by
  simp [finE, msgE, msgS, restE, restS, headS, othersS, kndE, fst0, cntE, batE, batS, errs, wX, wB, lays, awM, mg0]
theorem aw_L : finL awM = awT := by
  unfold finL
  rw [aw_E, if_pos rfl]
  simp [msgS, restS, headS, othersS, batS, wX, wB, lays, encL, awM, mg0, awT, zig_small, enc_lt]
theorem aw_in (w : World) : MgIn w awM := by
  constructor
  all_goals first
    | (intro x hx; simp [awM, mg0] at hx; unfold I64; omega)
    | (intro i hi; simp [awM, mg0] at hi)
    | (simp [awM, mg0]; done)
    | (exact ⟨by intro i hi; simp [awM, mg0] at hi, by simp [awM, mg0]⟩)
    | skip
  · exact ⟨⟨by decide, by decide⟩, ⟨by decide, by decide⟩, ⟨by decide, by decide⟩, ⟨by decide, by decide⟩, ⟨by decide, by decide⟩, fun x hx => by cases hx⟩
  · exact ⟨⟨by decide, by decide⟩, ⟨by decide, by decide⟩, by decide, ⟨by decide, by decide⟩, ⟨by decide, by decide⟩⟩
theorem aw_head : rI awT ⟨0, 0⟩ = (14, ⟨1, 0⟩) ∧ rI awT ⟨1, 0⟩ = (3, ⟨2, 0⟩) ∧ rI awT ⟨2, 0⟩ = (0, ⟨3, 0⟩) ∧ rI awT ⟨3, 0⟩ = (1, ⟨4, 0⟩) ∧ rI awT ⟨4, 0⟩ = (0, ⟨5, 0⟩) := ⟨rfl, rfl, rfl, rfl, rfl⟩
theorem aw_rest : rI awT ⟨5, 0⟩ = (2, ⟨6, 0⟩) ∧ rI awT ⟨6, 0⟩ = (0, ⟨7, 0⟩) ∧ rI awT ⟨7, 0⟩ = (0, ⟨8, 0⟩) ∧ rI awT ⟨8, 0⟩ = (0, ⟨9, 0⟩) ∧ rI awT ⟨9, 0⟩ = (0, ⟨10, 0⟩) ∧ rI awT ⟨10, 0⟩ = (1, ⟨11, 0⟩) ∧ rI awT ⟨11, 0⟩ = (0, ⟨12, 0⟩) ∧ rI awT ⟨12, 0⟩ = (0, ⟨13, 0⟩) ∧ rI awT ⟨13, 0⟩ = (0, ⟨14, 0⟩) := ⟨rfl, rfl, rfl, rfl, rfl, rfl, rfl, rfl, rfl⟩
theorem aw_end : rU awT ⟨14, 0⟩ = (0, ⟨15, 0⟩) ∧ rF awT ⟨15, 0⟩ = (false, ⟨16, 0⟩) ∧ rL awT ⟨16, 0⟩ = ([], ⟨17, 0⟩) ∧ rB awT ⟨17, 0⟩ = ([], ⟨18, 0⟩) ∧ rU awT ⟨18, 0⟩ = (0, ⟨19, 0⟩) ∧ rU awT ⟨19, 0⟩ = (0, ⟨20, 0⟩) ∧ rE awT ⟨20, 0⟩ = 0 := ⟨rfl, rfl, rfl, rfl, rfl, rfl, rfl⟩
end Go.Proofs.Ytblmondkdcpkaaa


/-
  Layer 17's awake answers true. Conditions: none.
-/
namespace Go.Proofs.Ytblmondkdcpkaaa
open Go.RowKit
set_option linter.unusedVariables false

theorem wp_world {P : Program} {c : Code} {E : Exit → Act → World → Prop} {a : Act} {w : World} (Q : World → Prop) (h : ∀ W, Q W → Code.wp P c E a W) (hq : Q w) : Code.wp P c E a w := h w hq
/-- What head leaves, of any reader. -/
def HdAll : Prop := ∀ {w : World} {b : Nat} {a : Option Addr} {cap : Nat} {t : List Nat} {x1 x2 x3 x4 x5 : Int} {s0 s1 s2 s3 s4 s5 : Rst}, RdAt 97 w b a cap t s0 → rI t s0 = (x1, s1) → rI t s1 = (x2, s2) → rI t s2 = (x3, s3) → rI t s3 = (x4, s4) → rI t s4 = (x5, s5) →
    Calls Try.prog 48 #[.agg #[.pointer (some ⟨b, 0, none⟩)]] w fun e w' => HdP w b a cap t s5 x1 x2 x3 x4 x5 e w'
def awP (L : List Value) : Prop := ∃ ma mc, L = mgL { awM with ma := ma, mc := mc }
theorem aw_msg (HEAD : HdAll) (W : World) (b : Nat) (a' : Option Addr) (cap' : Nat) (h : RdAt 97 W b a' cap' awT ⟨0, 0⟩) :
    Calls Try.prog 35 #[.agg #[.pointer (some ⟨b, 0, none⟩)]] W fun e w' => MsR awP W b e w' := by
  obtain ⟨d1, d2, d3, d4, d5⟩ := aw_head
  obtain ⟨e1, e2, e3, e4, e5, e6, e7, e8, e9⟩ := aw_rest
  obtain ⟨e10, e11, e12, e13, e14, e15, e16⟩ := aw_end
  refine (msg_r0 h ⟨by decide, by decide⟩ (fun h => HEAD h d1 d2 d3 d4 d5) e1 e2 e3 e4 e5 e6 e7 e8 e9 e10 e11 e12 e13 e14 e15 e16).mono ?_
  rintro e w' ⟨ma, mc, he, _, tc⟩
  exact ⟨_, he, rfl, mg_one _, ⟨ma, mc, rfl⟩, ⟨rfl, mg_one _⟩, tc⟩
set_option maxRecDepth 100000 in
set_option maxHeartbeats 8000000 in
theorem awake17_any (HEAD : HdAll) (w : World) : Calls Try.prog 10 #[] w fun e w' => e = .returned (.bool true) ∧ Below w.heap.size w w' := by
  have K1 : Calls Try.prog 11 #[.agg #[.int .i64 14, .int .i64 3, .int .i64 0, .int .i64 1, .int .i64 0, .int .i64 0, .int .i64 0, .int .i64 0, .int .i64 0, .int .i64 0, .int .i64 0, .int .i64 0, .bool false, .slice none 0 0, .slice none 0 0, .int .i64 0, .int .i64 0, .int .i64 0, .int .i64 0, .int .i64 0, .int .i64 0, .int .i64 0, .int .i64 0, .int .i64 0, .bool false, .int .i64 0, .int .i64 0, .int .i64 0, .int .i64 0, .slice none 0 0, .int .i64 0, .int .i64 0, .int .i64 0, .int .i64 0, .int .i64 0, .slice none 0 0, .int .i64 0, .int .i64 0, .int .u64 0, .int .i64 0, .int .i64 0, .bool false, .bool false, .bool false, .slice none 0 0, .int .i64 2, .int .i64 0, .int .i64 0, .int .i64 0, .int .u64 0, .int .i64 0, .bool false, .int .i64 1, .int .i64 0, .int .i64 0, .slice none 0 0, .slice none 0 0, .slice none 0 0, .int .i64 0]] w fun e w' => EnM w 0 awT e w' := wencode_any (aw_in w) aw_E aw_L
  have HK1 := hide K1
  clear K1
  go_enter Try.func10, Try.ntmps10
  go_wp2_with fail
  refine (unhide HK1).mono ?_
  rintro e w2 ⟨vo, rfl, r2, n2, b2⟩
  obtain ⟨ao, co, ev, l2, _, _, z2, _⟩ := r2.parts
  subst ev
  have B2 := hide b2
  have K2 := hide (wdec_ok (cap := co) (P := awP) l2 z2 (by decide) (aw_msg HEAD))
  have LT := hide l2
  clear r2 n2 b2 l2 z2 HK1
  go_wp2_with fail
  refine (unhide K2).mono ?_
  rintro e w3 ⟨L, pL, l3, rfl, b3⟩
  have HW : Hid (L.toArray.all (·.oneCell') = true) := hide (by obtain ⟨ma, mc, e⟩ := pL; rw [e]; exact mg_one _)
  have bA : ∀ ob, Below w3.heap.size w3 (w3.alloc ob) := fun ob => (Below.refl w3.heap.size w3).alloc (Nat.le_refl _) ob
  have HB : Hid (∀ ob, Below w3.heap.size w3 (w3.alloc ob)) := hide bA
  have B3 := hide ((unhide B2).trans (b3.mono (unhide B2).size))
  have LT3 := hide ((unhide LT).later b3)
  have NBK : Hid (∀ x, ao = some x → x.block < w3.heap.size) := hide (fun x hx => by
    obtain ⟨b', o', e', hb', _⟩ := (unhide LT) 0 (by decide)
    rw [hx] at e'
    cases e'
    exact Nat.lt_of_lt_of_le hb' b3.size)
  have HP := hide pL
  have HLN := hide l3
  clear b3 bA K2 LT pL l3
  go_upto_region 3 with (with_reducible (show wpList _ _ _ (Oper.mk _ (Op.store _ _ _) _ _ _ _ :: _) _ _); refine store_list rfl (.tmp 3) (.tmp 13) rfl w3.heap.size L rfl rfl (heap_new w3 _) rfl (unhide HLN) (unhide HW) ?_; rintro W4 q1 q2; have Q1 := hide q1; have BF := hide (below_touch ((unhide B3).trans ((unhide HB _).mono (unhide B3).size)) q2 (Nat.le_trans (unhide B3).size (unhide HB _).size) (fun k hk => by have := (unhide B3).size; omega)); have LT4 := hide (((unhide LT3).later (unhide HB _)).keep q2 (fun h0 x hx e => by have := unhide NBK x hx; omega)); clear q1 q2)
  obtain ⟨ma, mc, eL⟩ := unhide HP
  have HQ' := unhide Q1
  rw [eL] at HQ'
  have HQ := hide HQ'
  clear HQ' Q1 eL HW B3 LT3 NBK HP HLN HB
  generalize w3.heap.size = g at *
  have y0 : W4.cell? ⟨g, 0, none⟩ = some (.int .i64 14) := cell_of (unhide HQ) 0
  have y1 : W4.cell? ⟨g, 1, none⟩ = some (.int .i64 3) := cell_of (unhide HQ) 1
  have y52 : W4.cell? ⟨g, 52, none⟩ = some (.int .i64 1) := cell_of (unhide HQ) 52
  have y45 : W4.cell? ⟨g, 45, none⟩ = some (.int .i64 2) := cell_of (unhide HQ) 45
  obtain ⟨cb, off, ea, _, q0, _⟩ := (unhide LT4).cell (i := 0) (by decide)
  obtain ⟨cb', off', e', _, q1, _⟩ := (unhide LT4).cell (i := 1) (by decide)
  rw [ea] at e'
  cases e'
  subst ea
  rw [Nat.add_zero] at q0
  have q0' : W4.cell? ⟨cb, off, none⟩ = some (.int .u8 28) := q0
  have q1' : W4.cell? ⟨cb, off + 1, none⟩ = some (.int .u8 6) := q1
  have hgt : (5 : Int) < (awT.length : Int) := by decide
  have h0 : (0 : Int) < (awT.length : Int) := by decide
  have h1 : (1 : Int) < (awT.length : Int) := by decide
  clear q0 q1 HQ LT4
  generalize awT.length = n at *
  go_wp2
  go_ret
  exact ⟨rfl, unhide BF⟩
end Go.Proofs.Ytblmondkdcpkaaa


namespace Go.Proofs.Ytblmondkdcpkaaa
open Go.RowKit
set_option linter.unusedVariables false

theorem RowsAt.later {α : Type} {cells : α → List Value} {sz : Nat} {w w' : World} {a : Option Addr} {os : List α} (h : RowsAt cells sz w a os) (hb : Below w.heap.size w w') : RowsAt cells sz w' a os := by
  intro i hi
  obtain ⟨b, off, h1, h2, h3⟩ := h i hi
  exact ⟨b, off, h1, Nat.lt_of_lt_of_le h2 hb.size, fun j hj => (hb.cell (p := ⟨b, off + i * sz + j, none⟩) h2).trans (h3 j hj)⟩
theorem MgIn.later {w w' : World} {m : Mg} (h : MgIn w m) (hb : Below w.heap.size w w') : MgIn w' m :=
  ⟨h.hd, h.rf, h.en.later hb, fun o ho => ⟨(h.ein o ho).1.later hb, (h.ein o ho).2⟩, h.em, h.sn.later hb, h.sc, h.fe, h.ge, h.gb.later hb, fun o ho => ⟨(h.gin o ho).1.later hb, (h.gin o ho).2⟩, h.gm, h.c.later hb, h.cf, h.b.later hb, h.bf, h.ot, h.pid, h.ms.later hb, h.msf, h.mm, h.bs.later hb, fun o ho => ⟨(h.bin o ho).1.later hb, (h.bin o ho).2⟩, h.bm, h.ab.later hb, h.ain, h.am⟩
theorem MgIn.kind {w : World} {m : Mg} {k : Int} (h : MgIn w m) (hk : I64 k) : MgIn w { m with kd := k } :=
  ⟨fun x hx => by
    simp only [List.mem_cons, List.not_mem_nil, or_false] at hx
    rcases hx with e | e
    · subst e
      exact hk
    · exact h.hd x (by simp only [List.mem_cons, List.not_mem_nil, or_false]; exact .inr e), h.rf, h.en, h.ein, h.em, h.sn, h.sc, h.fe, h.ge, h.gb, h.gin, h.gm, h.c, h.cf, h.b, h.bf, h.ot, h.pid, h.ms, h.msf, h.mm, h.bs, h.bin, h.bm, h.ab, h.ain, h.am⟩
/-- What was laid goes on. -/
def Ext (s s' : Ws) : Prop := s'.2 = false → s.2 = false ∧ ∃ r, s'.1 = s.1 ++ r
theorem Ext.refl (s : Ws) : Ext s s := fun h => ⟨h, [], by simp⟩
theorem Ext.trans {a b c : Ws} (h : Ext a b) (g : Ext b c) : Ext a c := fun hc => by
  obtain ⟨hb, r, er⟩ := g hc
  obtain ⟨ha, q, eq⟩ := h hb
  exact ⟨ha, q ++ r, by rw [er, eq, List.append_assoc]⟩
theorem ext_X (s : Ws) (x : List Nat) : Ext s (wX s x) := fun h => by
  have h' : s.2 = false := h
  exact ⟨h', x, by simp [wX, lays, h']⟩
theorem ext_B (s : Ws) (d : List Nat) : Ext s (wB s d) := by
  unfold wB
  split
  · intro h
    cases h
  · exact ext_X _ _
theorem ext_fold {α : Type} (f : Ws → α → Ws) (hf : ∀ s o, Ext s (f s o)) : ∀ (l : List α) (s : Ws), Ext s (l.foldl f s)
  | [], s => Ext.refl s
  | o :: r, s => (hf s o).trans (ext_fold f hf r (f s o))
theorem ext_batS (s : Ws) (B : Bt) : Ext s (batS s B) := by
  unfold batS
  split
  · exact ext_B _ _
  · exact ext_B _ _
theorem ext_rest (s : Ws) (m : Mg) : Ext s (restS s m) := by
  unfold restS
  split
  · exact ((((ext_X _ _).trans (ext_X _ _)).trans (ext_X _ _)).trans (ext_fold _ (fun s o => (ext_X _ _).trans (ext_B _ _)) _ _)).trans (ext_B _ _)
  · split
    · exact ext_X _ _
    · split
      · exact (((ext_X _ _).trans (ext_X _ _)).trans (ext_X _ _)).trans (ext_fold _ (fun s o => ext_batS _ _) _ _)
      · split
        · exact ext_B _ _
        · exact ((((((((ext_X _ _).trans (ext_X _ _)).trans (ext_X _ _)).trans (ext_X _ _)).trans (ext_batS _ _)).trans (ext_X _ _)).trans (ext_fold _ (fun s o => ext_batS _ _) _ _)).trans (ext_X _ _)).trans (ext_fold _ (fun s o => (ext_X _ _).trans (ext_X _ _)) _ _)
/-- The first byte of a message's bytes tells its kind. -/
theorem fin_first {m : Mg} (hE : finE m = 0) (hk : 1 ≤ m.kd ∧ m.kd ≤ 15) : ∃ r, finL m = (2 * m.kd).toNat :: r := by
  have h2 : (msgS ([], false) m).2 = false := by
    unfold finE at hE
    split at hE
    · rename_i h
      exact absurd hE h
    · split at hE
      · cases hE
      · rename_i _ h
        simpa using h
  obtain ⟨_, r, er⟩ := ext_rest (headS ([], false) m) m h2
  have hz : zig m.kd = (2 * m.kd).toNat := by
    have := zig_pos (i := m.kd) (by omega)
    omega
  refine ⟨encL [m.fr, m.tt, m.co, m.er] ++ r, ?_⟩
  unfold finL
  rw [if_pos hE]
  show (restS (headS ([], false) m) m).1 = _
  rw [er]
  show ([] ++ encL [m.kd, m.fr, m.tt, m.co, m.er]) ++ r = _
  have e : encL [m.kd, m.fr, m.tt, m.co, m.er] = enc (zig m.kd) ++ encL [m.fr, m.tt, m.co, m.er] := by simp [encL]
  rw [e, hz, enc_lt (by omega)]
  simp
theorem fin_bad {m : Mg} (hk : kndE m.kd ≠ 0) : finE m = 1 ∧ finL m = [] := by
  have h : finE m = 1 := by
    unfold finE msgE
    rw [if_pos hk, if_pos (by decide)]
  refine ⟨h, ?_⟩
  unfold finL
  rw [h]
  rfl
theorem fin_none {m : Mg} (h : finE m ≠ 0) : finL m = [] := by
  unfold finL
  rw [if_neg h]
/-- How a kind that there isn't is read. -/
theorem kind_read {k : Int} (hk : I64 k) : rI (enc (zig k) ++ [0, 0, 0, 0]) ⟨0, 0⟩ = (k, ⟨(enc (zig k)).length, 0⟩) ∧ ∀ j, j < 4 → rI (enc (zig k) ++ [0, 0, 0, 0]) ⟨(enc (zig k)).length + j, 0⟩ = (0, ⟨(enc (zig k)).length + j + 1, 0⟩) := by
  refine ⟨?_, fun j hj => ?_⟩
  · have := rI_enc (t := enc (zig k) ++ [0, 0, 0, 0]) (u := [0, 0, 0, 0]) (s := ⟨0, 0⟩) rfl rfl hk.1 hk.2
    rw [this]
    simp
  · have e0 : enc (zig 0) = [0] := by rw [zig_small.1, enc_lt (by decide)]
    have := rI_enc (t := enc (zig k) ++ [0, 0, 0, 0]) (u := List.replicate (3 - j) 0) (s := ⟨(enc (zig k)).length + j, 0⟩) (i := 0) rfl (by
      show List.drop ((enc (zig k)).length + j) (enc (zig k) ++ [0, 0, 0, 0]) = _
      rw [List.drop_append, e0, List.drop_eq_nil_of_le (by omega), Nat.add_sub_cancel_left]
      have : j = 0 ∨ j = 1 ∨ j = 2 ∨ j = 3 := by omega
      rcases this with e | e | e | e <;> subst e <;> rfl) (by decide) (by decide)
    rw [this, e0]
    rfl
end Go.Proofs.Ytblmondkdcpkaaa
