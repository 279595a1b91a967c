/-
  wire.Decode where its msg gives up; msg where its head does. Conditions: the reader as it lies.
-/
import Derived.Test.YtcekleconjmfjaaRq6
namespace Go.Proofs.Ytcekleconjmfjaa
open Go.RowKit
set_option linter.unusedVariables false

theorem store_zero {ops : Array Oper} {rest : List Oper} {op : Oper} {a : Act} {w : World} {Q : Exit → Act → World → Prop} (hgd : op.guard = none) (x y : Operand) (ho : op.op = .store 41 x y)
    (g : Nat) (cells : Array Value) (hx : a.eval x = .pointer (some ⟨g, 0, none⟩)) (hy : a.eval y = .agg cells) (hc : cells = (mgL mg0).toArray) {cs : Array Value}
    (hg : w.heap[g]? = some (.cells cs 41)) (hcs : cs.size = 59)
    (h : ∀ W, W.heap[g]? = some (.cells (mgL mg0).toArray 41) → Touch (· = g) w W → wpList Try.prog ops Q rest (a.put op.dst undef) W) : wpList Try.prog ops Q (op :: rest) a w := by
  subst hc
  refine wpList_store_mid hgd 41 x y ho g 0 _ hx hy (there_of hg (by rw [mg_size, hcs]; decide)) info_msg (mg_one mg0) ?_
  obtain ⟨q1, q2⟩ := heap_setCells (mgL mg0) 0 w _ hg
  rw [lay_all (by rw [hcs]; rfl)] at q1
  exact h _ q1 q2
theorem store_list {ops : Array Oper} {rest : List Oper} {op : Oper} {a : Act} {w : World} {Q : Exit → Act → World → Prop} (hgd : op.guard = none) (x y : Operand) (ho : op.op = .store 41 x y)
    (g : Nat) (L : List Value) (hx : a.eval x = .pointer (some ⟨g, 0, none⟩)) (hy : a.eval y = .agg L.toArray) {cs : Array Value}
    (hg : w.heap[g]? = some (.cells cs 41)) (hcs : cs.size = 59) (hL : L.length = 59) (h1 : L.toArray.all (·.oneCell') = true)
    (h : ∀ W, W.heap[g]? = some (.cells L.toArray 41) → Touch (· = g) w W → wpList Try.prog ops Q rest (a.put op.dst undef) W) : wpList Try.prog ops Q (op :: rest) a w := by
  refine wpList_store_mid hgd 41 x y ho g 0 _ hx hy (there_of hg (by simp [hL, hcs])) (by rw [info_msg]; simp [hL]) h1 ?_
  obtain ⟨q1, q2⟩ := heap_setCells L 0 w _ hg
  rw [lay_all (by rw [hcs, hL])] at q1
  exact h _ q1 q2
section
variable {w : World} {a : Option Addr} {cap : Nat} {t : List Nat}
set_option maxRecDepth 100000 in
set_option maxHeartbeats 8000000 in
theorem wdec_no {E : Int} (hE : E ≠ 0) (ht : LAt w a t) (hn : a = none → cap = 0) (hl : t.length ≤ 140737488355328)
    (MSG : ∀ W b a' cap', RdAt 97 W b a' cap' t ⟨0, 0⟩ → Calls Try.prog 35 #[.agg #[.pointer (some ⟨b, 0, none⟩)]] W fun e w' => e = gone E ∧ Touch (fun q => q = b ∨ W.heap.size ≤ q) W w') :
    Calls Try.prog 13 #[.slice a t.length cap] w fun e w' => DcP (fun L => L = mgL mg0) w E e w' := by
  have hb1 := ((Below.refl w.heap.size w).alloc (Nat.le_refl _) (.cells (mgL mg0).toArray 41)).alloc (by simp) (.cells (mgL mg0).toArray 41)
  have H0 := hide (heap_old (.cells (mgL mg0).toArray 41) (heap_new w (.cells (mgL mg0).toArray 41)))
  have H1 := hide (heap_new (w.alloc (.cells (mgL mg0).toArray 41)) (.cells (mgL mg0).toArray 41))
  have hz1 : (w.alloc (.cells (mgL mg0).toArray 41)).heap.size = w.heap.size + 1 := by simp
  rw [hz1] at H1
  have hs2 : ((w.alloc (.cells (mgL mg0).toArray 41)).alloc (.cells (mgL mg0).toArray 41)).heap.size = w.heap.size + 2 := by simp
  have KN := hide (newreader_any ((w.alloc (.cells (mgL mg0).toArray 41)).alloc (.cells (mgL mg0).toArray 41)) a cap t (ht.later hb1) hn hl)
  have HB1 := hide hb1
  have HMSG := hide MSG
  have hmf : ∀ (fn : Fn) (first cap : Array Value) (w : World), (Instr.makeFunc fn first cap).run Try.prog w = .ok (.func fn first cap) w := fun _ _ _ _ => rfl
  clear ht hn hl hb1 hz1 MSG
  generalize t.length = tl at *
  go_enter Try.func13, Try.ntmps13
  go_upto_region 2 with fail
  change Code.wp _ _ _ _ ((w.alloc (.cells (mgL mg0).toArray 41)).alloc (.cells (mgL mg0).toArray 41))
  generalize (w.alloc (.cells (mgL mg0).toArray 41)).alloc (.cells (mgL mg0).toArray 41) = W2 at *
  go_wp2_with fail
  refine (unhide KN).mono ?_
  rintro e w3 ⟨b, a', cap', rfl, r3, b3, hb3, _⟩
  have bc := (Below.refl w3.heap.size w3).alloc (Nat.le_refl _) (.cells #[.pointer (some ⟨b, 0, none⟩)] 84)
  have R3 := hide (r3.later bc)
  have C3 := hide (heap_new w3 (.cells #[.pointer (some ⟨b, 0, none⟩)] 84))
  have H03 := hide (below_keep bc (below_keep b3 (unhide H0)))
  have H13 := hide (below_keep bc (below_keep b3 (unhide H1)))
  have b13 := ((unhide HB1).trans (b3.mono (unhide HB1).size)).trans (bc.mono (Nat.le_trans (unhide HB1).size b3.size))
  have B3 := hide b13
  have hbb : w.heap.size + 2 ≤ b := by omega
  have hbl : b < w3.heap.size := r3.lt
  have hw3 : w3.heap.size < (w3.alloc (.cells #[.pointer (some ⟨b, 0, none⟩)] 84)).heap.size := by simp
  clear r3 b3 hb3 bc b13 KN H0 H1 HB1 hs2
  go_upto_region 3 with fail
  generalize w3.alloc (.cells #[.pointer (some ⟨b, 0, none⟩)] 84) = W3 at *
  generalize w3.heap.size = c at *
  have b4 := (Below.refl W3.heap.size W3).alloc (Nat.le_refl _) (.cells #[.int .i64 0] 22)
  have R4 := (unhide R3).later b4
  have C4 := below_keep b4 (unhide C3)
  have H04 := below_keep b4 (unhide H03)
  have H14 := below_keep b4 (unhide H13)
  have HR4 := heap_new W3 (.cells #[.int .i64 0] 22)
  have B4 := (unhide B3).trans (b4.mono (unhide B3).size)
  have hz4 : (W3.alloc (.cells #[.int .i64 0] 22)).heap.size = W3.heap.size + 1 := by simp
  have KM := unhide HMSG (W3.alloc (.cells #[.int .i64 0] 22)) b a' cap' R4
  generalize hW4 : W3.alloc (.cells #[.int .i64 0] 22) = W4 at *
  have K1 := dec1_no (mb := w.heap.size + 1) C4 (R := fun u => Touch (fun q => q = b ∨ W4.heap.size ≤ q) W4 u) KM
  have KT : Calls Try.prog 29 #[.func (.func 34) #[] #[.pointer (some ⟨c, 0, none⟩), .pointer (some ⟨w.heap.size + 1, 0, none⟩)]] W3 fun e w' => TD E (fun u => u.heap[w.heap.size]? = some (.cells (mgL mg0).toArray 41) ∧ Below w.heap.size w u) W3.heap.size e w' :=
    tried_no enters_dec (by
      rw [hW4]
      refine K1.mono fun e w' h => ?_
      obtain ⟨he, p3⟩ := h
      exact ⟨he, p3.keep HR4 (by omega), p3.keep H04 (by omega), below_touch B4 p3 B4.size (fun k hk => by have := B4.size; omega)⟩)
  have HKT := hide KT
  have hrl : w.heap.size + 2 ≤ W3.heap.size := by omega
  have hEb : (E == 0) = false := beq_eq_false_iff_ne.2 hE
  clear KT K1 KM hW4 B4 HR4 H14 H04 C4 R4 b4 hz4 hE
  go_wp2_with fail
  refine (unhide HKT).mono ?_
  rintro e w5 ⟨rfl, u, ⟨h3, b5⟩, t5⟩
  have Z5 := hide (t5.keep h3 (by omega))
  have B5 := hide (below_touch b5 t5 b5.size (fun k hk => by omega))
  clear h3 b5 t5 HKT
  generalize hLL : mgL mg0 = LL at *
  have HLL := hide hLL
  clear hLL
  have HL5 : Hid (LL.toArray.size = 59) := hide (by rw [← unhide HLL]; rfl)
  go_wp2_with (with_reducible (show wpList _ _ _ (Oper.mk _ (Op.store _ _ _) _ _ _ _ :: _) _ _); (refine store_zero rfl (.tmp 2) (.tmp 14) rfl w.heap.size _ rfl rfl (by kernel_rfl) (unhide Z5) (unhide HL5) ?_; rintro W6 q1 q2; have Q1 := hide q1; have Q2 := hide q2; clear q1 q2))
  have FF : Hid (DcP (fun L => L = mgL mg0) w E (.returned (.tuple #[.agg (mgL mg0).toArray, .int .i64 E])) W6) := hide ⟨_, rfl, rfl, rfl, below_touch (unhide B5) (unhide Q2) (unhide B5).size (fun k hk => by omega)⟩
  refine bodyPost_ret (res_decL (unhide Q1) rfl rfl rfl) rfl ?_
  exact unhide FF
set_option maxRecDepth 100000 in
set_option maxHeartbeats 8000000 in
theorem msg_no {b : Nat} {k1 k2 k3 k4 k5 : Int} {t0 s0 : Rst} (h : RdAt 97 w b a cap t t0) (hk : kndE k1 ≠ 0) (HEAD : ∀ {W : World}, RdAt 97 W b a cap t t0 → Calls Try.prog 48 #[.agg #[.pointer (some ⟨b, 0, none⟩)]] W fun e w' => HdP W b a cap t s0 k1 k2 k3 k4 k5 e w') :
    Calls Try.prog 35 #[.agg #[.pointer (some ⟨b, 0, none⟩)]] w fun e w' => e = gone 1 ∧ Touch (fun q => q = b ∨ w.heap.size ≤ q) w w' := by
  have hb0 := ((Below.refl w.heap.size w).alloc (Nat.le_refl _) (.cells #[.pointer (some ⟨b, 0, none⟩)] 84)).alloc (by simp) (.cells (mgL mg0).toArray 41)
  have HX := hide (heap_old (.cells (mgL mg0).toArray 41) (heap_new w (.cells #[.pointer (some ⟨b, 0, none⟩)] 84)))
  have hs1 : w.heap.size ≤ ((w.alloc (.cells #[.pointer (some ⟨b, 0, none⟩)] 84)).alloc (.cells (mgL mg0).toArray 41)).heap.size := by simp; omega
  have KH := hide (HEAD (h.later hb0))
  have T0 : Hid (Touch (fun q => q = b ∨ w.heap.size ≤ q) w ((w.alloc (.cells #[.pointer (some ⟨b, 0, none⟩)] 84)).alloc (.cells (mgL mg0).toArray 41))) := hide (Touch.of_below hb0)
  have HK0 := hide hk
  clear h hb0 hk HEAD
  go_enter Try.func35, Try.ntmps35
  go_upto_region 1 with fail
  change Code.wp _ _ _ _ ((w.alloc (.cells #[.pointer (some ⟨b, 0, none⟩)] 84)).alloc (.cells (mgL mg0).toArray 41))
  generalize (w.alloc (.cells #[.pointer (some ⟨b, 0, none⟩)] 84)).alloc (.cells (mgL mg0).toArray 41) = W1 at *
  have z0 := cell_of (unhide HX) 0
  simp at z0
  go_wp2_with fail
  refine (unhide KH).mono ?_
  rintro e w2 ⟨t2, _, hh⟩
  obtain rfl := hh (unhide HK0)
  have T2 := hide ((unhide T0).trans (t2.mono (fun q hq => by rcases hq with e | e; exact .inl e; exact .inr (by omega))))
  clear hh t2 KH T0 z0
  go_wp2
  exact ⟨rfl, rfl, unhide T2⟩
end
end Go.Proofs.Ytcekleconjmfjaa
