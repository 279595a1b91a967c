/-
  wire's writer: abort, batch. Conditions: the message as it lies, what was laid so far at most 2^45 bytes.
-/
import Derived.Test.YtcekleconjmfjaaWq2
namespace Go.Proofs.Ytcekleconjmfjaa
open Go.RowKit
set_option linter.unusedVariables false

section
variable {w0 w : World} {N : Nat → Prop} {b : Nat} {s : Ws}
theorem IAt.lit (w : World) (ls : List Int) (t : TypeId) : IAt (w.alloc (.cells (ls.map (Value.int .i64)).toArray t)) (some ⟨w.heap.size, 0, none⟩) ls := by
  intro i hi
  have hn := heap_new w (.cells (ls.map (Value.int .i64)).toArray t)
  refine ⟨w.heap.size, 0, rfl, lt_of_heap hn, ?_⟩
  rw [cell_of hn]
  simp [List.getD, hi]
/-- Numbers that stand in a list that was just laid. -/
theorem wints_lit (ls : List Int) {vs : Array Value} (hv : vs = (ls.map (Value.int .i64)).toArray) (h : Wq w0 N w b s) (hf : ∀ x ∈ ls, I64 x) (hm : ls.length ≤ 100) (hl : s.1.length ≤ 35184372088832) :
    Calls Try.prog 41 #[.agg #[.pointer (some ⟨b, 0, none⟩)], .slice (some ⟨w.heap.size, 0, none⟩) ls.length ls.length] (w.alloc (.cells vs 3)) fun e w' => WD w0 N w b (wX s (encL ls)) e w' := by
  subst hv
  have hb := (Below.refl w.heap.size w).alloc (Nat.le_refl _) (.cells (ls.map (Value.int .i64)).toArray 3)
  refine (wints_q ls (h.grow hb) (IAt.lit w ls _) (fun h0 x hx => ?_) hf hm hl).mono ?_
  · cases hx
    exact .inr ⟨Nat.le_refl _, by simp⟩
  · rintro e w' ⟨he, q, t⟩
    exact ⟨he, Wq.leave q hb h.old h.low t⟩
/-- An aborted transaction. -/
def layA (s : Ws) (p : Nat) (f l : Int) : Ws := wX (wX s (enc p)) (encL [f, l])
theorem layA_len (s : Ws) {p : Nat} {f l : Int} (hp : p < 18446744073709551616) (hf : I64 f) (hl : I64 l) : (layA s p f l).1.length ≤ s.1.length + 30 := by
  unfold layA
  have h1 := wX_len (wX s (enc p)) (encL [f, l])
  have h2 := wX_len s (enc p)
  have h3 := enc_len10 hp
  have h4 := encL_len [f, l] (by intro x hx; simp at hx; rcases hx with rfl | rfl; exact hf; exact hl)
  simp only [List.length_cons, List.length_nil] at h4
  omega
set_option maxHeartbeats 4000000 in
theorem abort_q (p : Nat) (f l : Int) (h : Wq w0 N w b s) (hp : p < 18446744073709551616) (hf : I64 f) (hl2 : I64 l) (hl : s.1.length ≤ 17592186044416) :
    Calls Try.prog 69 #[.agg #[.pointer (some ⟨b, 0, none⟩)], .agg #[.int .u64 (p : Int), .int .i64 f, .int .i64 l]] w fun e w' => WD w0 N w b (layA s p f l) e w' := by
  have hb0 := ((Below.refl w.heap.size w).alloc (Nat.le_refl _) (.cells #[.pointer (some ⟨b, 0, none⟩)] 77)).alloc (by simp) (.cells #[.int .u64 (p : Int), .int .i64 f, .int .i64 l] 73)
  have Q0 := hide (h.grow hb0)
  have HX := hide (heap_old (.cells #[.int .u64 (p : Int), .int .i64 f, .int .i64 l] 73) (heap_new w (.cells #[.pointer (some ⟨b, 0, none⟩)] 77)))
  have HE := hide (heap_new (w.alloc (.cells #[.pointer (some ⟨b, 0, none⟩)] 77)) (.cells #[.int .u64 (p : Int), .int .i64 f, .int .i64 l] 73))
  have hsz : (w.alloc (.cells #[.pointer (some ⟨b, 0, none⟩)] 77)).heap.size = w.heap.size + 1 := by simp
  rw [hsz] at HE
  have HN := hide h.old
  have HL := hide h.low
  have HB0 := hide hb0
  have hx := wX_len s (enc p)
  have h10 := enc_len10 hp
  have HF : Hid (∀ x ∈ [f, l], I64 x) := hide (by intro x hx; simp at hx; rcases hx with rfl | rfl; exact hf; exact hl2)
  clear h hb0 hsz hf hl2
  unfold layA
  go_enter Try.func69, Try.ntmps69
  go_upto_region 1 with fail
  generalize (w.alloc (.cells #[.pointer (some ⟨b, 0, none⟩)] 77)).alloc (.cells #[.int .u64 (p : Int), .int .i64 f, .int .i64 l] 73) = W1 at *
  have z0 := cell_of (unhide HX) 0
  have y0 := cell_of (unhide HE) 0
  simp at z0 y0
  go_wp2_with fail
  refine (uint_q p (unhide Q0) hp (by omega)).mono ?_
  rintro e w2 ⟨rfl, q2, t2⟩
  have Q2 := hide q2
  have T2 := hide t2
  have x0 := cell_of (Gr.keep t2 (unhide HX) (Nat.le_refl _)) 0
  have x1 := cell_of (Gr.keep t2 (unhide HE) (by omega)) 1
  have x2 := cell_of (Gr.keep t2 (unhide HE) (by omega)) 2
  simp at x0 x1 x2
  clear q2 t2 z0 y0
  go_wp2_with fail
  refine (wints_lit [f, l] (vs := #[.int .i64 f, .int .i64 l]) rfl (unhide Q2) (unhide HF) (by simp) (by omega)).mono ?_
  rintro e w3 ⟨rfl, q3, t3⟩
  have FF := hide (Wq.leave q3 (unhide HB0) (unhide HN) (unhide HL) ((unhide T2).trans t3))
  clear q3 t3
  go_wp2
  go_returns
  exact ⟨rfl, unhide FF⟩
/-- A batch: its bytes; none, if it has no values and is no marker. -/
def batE (B : Bt) : Int := if B.ctl = false ∧ B.vs.length = 0 then 0 else (chk B : Int)
def batS (s : Ws) (B : Bt) : Ws := if B.ctl = false ∧ B.vs.length = 0 then wB s [] else wB s (encB B)
theorem batS_len (s : Ws) (B : Bt) : (batS s B).1.length ≤ s.1.length + 4106 := by
  unfold batS
  split
  · exact wB_len _ _
  · exact wB_len _ _
set_option maxHeartbeats 4000000 in
theorem batch_none (B : Bt) (a : Option Addr) (cap : Nat) (h : Wq w0 N w b s) (h1 : B.ctl = false) (h2 : B.vs.length = 0) (hl : s.1.length ≤ 35184372088832) :
    Calls Try.prog 63 #[.agg #[.pointer (some ⟨b, 0, none⟩)], bv B a cap] w fun e w' => WD w0 N w b (wB s []) e w' := by
  have hb0 := ((Below.refl w.heap.size w).alloc (Nat.le_refl _) (.cells #[.pointer (some ⟨b, 0, none⟩)] 77)).alloc (by simp) (.cells #[.int .i64 B.base, .int .i64 B.epoch, .int .u64 (B.pid : Int), .int .i64 B.pep, .int .i64 B.seq, .bool B.txn, .bool B.ctl, .bool B.com, .slice a B.vs.length cap] 38)
  have Q0 := hide (h.grow hb0)
  have HX := hide (heap_old (.cells #[.int .i64 B.base, .int .i64 B.epoch, .int .u64 (B.pid : Int), .int .i64 B.pep, .int .i64 B.seq, .bool B.txn, .bool B.ctl, .bool B.com, .slice a B.vs.length cap] 38) (heap_new w (.cells #[.pointer (some ⟨b, 0, none⟩)] 77)))
  have HE := hide (heap_new (w.alloc (.cells #[.pointer (some ⟨b, 0, none⟩)] 77)) (.cells #[.int .i64 B.base, .int .i64 B.epoch, .int .u64 (B.pid : Int), .int .i64 B.pep, .int .i64 B.seq, .bool B.txn, .bool B.ctl, .bool B.com, .slice a B.vs.length cap] 38))
  have hsz : (w.alloc (.cells #[.pointer (some ⟨b, 0, none⟩)] 77)).heap.size = w.heap.size + 1 := by simp
  rw [hsz] at HE
  have HN := hide h.old
  have HL := hide h.low
  have HB0 := hide hb0
  have H1 := hide h1
  have H2 := hide h2
  clear h hb0 hsz h1 h2
  go_enter Try.func63, Try.ntmps63
  go_upto_region 1 with fail
  generalize (w.alloc (.cells #[.pointer (some ⟨b, 0, none⟩)] 77)).alloc (.cells #[.int .i64 B.base, .int .i64 B.epoch, .int .u64 (B.pid : Int), .int .i64 B.pep, .int .i64 B.seq, .bool B.txn, .bool B.ctl, .bool B.com, .slice a B.vs.length cap] 38) = W1 at *
  have z0 := cell_of (unhide HX) 0
  have y6 := cell_of (unhide HE) 6
  have y8 := cell_of (unhide HE) 8
  simp at z0 y6 y8
  rw [unhide H1] at y6
  rw [unhide H2] at y8
  go_wp2_with fail
  refine (bytes_q none 0 [] (unhide Q0) (fun i hi => by cases hi) (fun _ => rfl) (fun h0 => by cases h0) (by omega)).mono ?_
  rintro e w3 ⟨rfl, q3, t3⟩
  have FF := hide (Wq.leave q3 (unhide HB0) (unhide HN) (unhide HL) t3)
  clear q3 t3
  go_wp2
  go_returns
  exact ⟨rfl, unhide FF⟩
theorem enc_ok {B : Bt} {a : Option Addr} {cap : Nat} {L : List Nat} (hp : RAt w a B.vs) (hf : B.Fits) (hc : chk B = 0) (hL : encB B = L) :
    Calls Try.prog 85 #[bv B a cap] w fun e w' => ∃ vo, e = .returned (.tuple #[vo, .int .i64 0]) ∧ Fresh w w' vo L := by
  refine (encode_any B a cap w hp hf).mono ?_
  rintro e w' ⟨vo, he, h⟩
  rw [outE_ok hc, hL] at h
  rw [hc] at he
  exact ⟨vo, he, h⟩
theorem enc_no {B : Bt} {a : Option Addr} {cap E : Nat} (hp : RAt w a B.vs) (hf : B.Fits) (hc : chk B ≠ 0) (hE : chk B = E) :
    Calls Try.prog 85 #[bv B a cap] w fun e w' => ∃ vo, e = .returned (.tuple #[vo, .int .i64 (E : Int)]) ∧ Fresh w w' vo [] := by
  refine (encode_any B a cap w hp hf).mono ?_
  rintro e w' ⟨vo, he, h⟩
  rw [outE_no hc] at h
  rw [hE] at he
  exact ⟨vo, he, h⟩
set_option maxHeartbeats 8000000 in
theorem batch_ok {B : Bt} {L : List Nat} (a : Option Addr) (cap : Nat) (h : Wq w0 N w b s) (h1 : ¬ (B.ctl = false ∧ B.vs.length = 0)) (hB : RAt w0 a B.vs) (hf : B.Fits) (hc : chk B = 0) (hL : encB B = L) (hl : s.1.length ≤ 35184372088832) :
    Calls Try.prog 63 #[.agg #[.pointer (some ⟨b, 0, none⟩)], bv B a cap] w fun e w' => WD w0 N w b (wB s L) e w' := by
  have hb0 := ((Below.refl w.heap.size w).alloc (Nat.le_refl _) (.cells #[.pointer (some ⟨b, 0, none⟩)] 77)).alloc (by simp) (.cells #[.int .i64 B.base, .int .i64 B.epoch, .int .u64 (B.pid : Int), .int .i64 B.pep, .int .i64 B.seq, .bool B.txn, .bool B.ctl, .bool B.com, .slice a B.vs.length cap] 38)
  have Q0 := hide (h.grow hb0)
  have HX := hide (heap_old (.cells #[.int .i64 B.base, .int .i64 B.epoch, .int .u64 (B.pid : Int), .int .i64 B.pep, .int .i64 B.seq, .bool B.txn, .bool B.ctl, .bool B.com, .slice a B.vs.length cap] 38) (heap_new w (.cells #[.pointer (some ⟨b, 0, none⟩)] 77)))
  have HE := hide (heap_new (w.alloc (.cells #[.pointer (some ⟨b, 0, none⟩)] 77)) (.cells #[.int .i64 B.base, .int .i64 B.epoch, .int .u64 (B.pid : Int), .int .i64 B.pep, .int .i64 B.seq, .bool B.txn, .bool B.ctl, .bool B.com, .slice a B.vs.length cap] 38))
  have hsz : (w.alloc (.cells #[.pointer (some ⟨b, 0, none⟩)] 77)).heap.size = w.heap.size + 1 := by simp
  rw [hsz] at HE
  have HN := hide h.old
  have HL := hide h.low
  have HB0 := hide hb0
  have HKE := hide (enc_ok (cap := cap) (hB.later (h.base.trans (hb0.mono h.base.size))) hf hc hL)
  clear h hb0 hsz hB hf hc hL
  unfold bv at HKE ⊢
  cases hct : B.ctl with
  | true =>
    have HCT := hide hct
    clear hct h1
    rw [show (Value.bool true) = .bool B.ctl by rw [unhide HCT]]
    go_enter Try.func63, Try.ntmps63
    go_upto_region 1 with fail
    generalize (w.alloc (.cells #[.pointer (some ⟨b, 0, none⟩)] 77)).alloc (.cells #[.int .i64 B.base, .int .i64 B.epoch, .int .u64 (B.pid : Int), .int .i64 B.pep, .int .i64 B.seq, .bool B.txn, .bool B.ctl, .bool B.com, .slice a B.vs.length cap] 38) = W1 at *
    have z0 := cell_of (unhide HX) 0
    have y0 := cell_of (unhide HE) 0
    have y1 := cell_of (unhide HE) 1
    have y2 := cell_of (unhide HE) 2
    have y3 := cell_of (unhide HE) 3
    have y4 := cell_of (unhide HE) 4
    have y5 := cell_of (unhide HE) 5
    have y6 := cell_of (unhide HE) 6
    have y7 := cell_of (unhide HE) 7
    have y8 := cell_of (unhide HE) 8
    simp at z0 y0 y1 y2 y3 y4 y5 y6 y7 y8
    rw [unhide HCT] at y6 HKE
    go_wp2_with fail
    refine (unhide HKE).mono ?_
    rintro e w2 ⟨vo, rfl, r2, n2, b2⟩
    obtain ⟨va, vc, rfl, vl, _, _, vn, vb⟩ := r2.parts
    have Q2 := hide ((unhide Q0).grow b2)
    have HX2 := hide (below_keep b2 (unhide HX))
    have hszl := b2.size
    have VL := hide vl
    have NV : Hid (0 < L.length → ∀ x, va = some x → Gr (Gr N w W1) W1 w2 x.block) := hide (fun h0 x hx => by
      obtain ⟨b', o', e', hlt, _⟩ := vl 0 h0
      rw [hx] at e'
      cases e'
      exact .inr ⟨n2 _ (by rw [hx]; rfl), hlt⟩)
    have B2 := hide b2
    clear r2 n2 b2 vl vb y0 y1 y2 y3 y4 y5 y6 y7 y8
    go_wp2_with fail
    refine (need_any 0 w2).mono ?_
    rintro e w3 ⟨rfl, he, _⟩
    obtain rfl := he rfl
    clear he
    have x0 := cell_of (unhide HX2) 0
    simp at x0
    go_wp2_with fail
    refine (bytes_q va vc L (unhide Q2) (unhide VL) vn (unhide NV) (by omega)).mono ?_
    rintro e w4 ⟨rfl, q4, t4⟩
    have F1 := Wq.leave q4 (unhide B2) (unhide Q0).old (unhide Q0).low t4
    have FF := hide (Wq.leave F1.1 (unhide HB0) (unhide HN) (unhide HL) F1.2)
    clear q4 t4 F1
    go_wp2
    go_returns
    exact ⟨rfl, unhide FF⟩
  | false =>
    have HV : Hid (B.vs.length ≠ 0) := hide (fun e => h1 ⟨hct, e⟩)
    have HCT := hide hct
    clear hct h1
    rw [show (Value.bool false) = .bool B.ctl by rw [unhide HCT]]
    go_enter Try.func63, Try.ntmps63
    go_upto_region 1 with fail
    generalize (w.alloc (.cells #[.pointer (some ⟨b, 0, none⟩)] 77)).alloc (.cells #[.int .i64 B.base, .int .i64 B.epoch, .int .u64 (B.pid : Int), .int .i64 B.pep, .int .i64 B.seq, .bool B.txn, .bool B.ctl, .bool B.com, .slice a B.vs.length cap] 38) = W1 at *
    have z0 := cell_of (unhide HX) 0
    have y0 := cell_of (unhide HE) 0
    have y1 := cell_of (unhide HE) 1
    have y2 := cell_of (unhide HE) 2
    have y3 := cell_of (unhide HE) 3
    have y4 := cell_of (unhide HE) 4
    have y5 := cell_of (unhide HE) 5
    have y6 := cell_of (unhide HE) 6
    have y7 := cell_of (unhide HE) 7
    have y8 := cell_of (unhide HE) 8
    simp at z0 y0 y1 y2 y3 y4 y5 y6 y7 y8
    rw [unhide HCT] at y6 HKE
    have hq : ((B.vs.length : Int) == 0) = false := by have := unhide HV; exact beq_eq_false_iff_ne.2 (by omega)
    go_wp2_with fail
    refine (unhide HKE).mono ?_
    rintro e w2 ⟨vo, rfl, r2, n2, b2⟩
    obtain ⟨va, vc, rfl, vl, _, _, vn, vb⟩ := r2.parts
    have Q2 := hide ((unhide Q0).grow b2)
    have HX2 := hide (below_keep b2 (unhide HX))
    have hszl := b2.size
    have VL := hide vl
    have NV : Hid (0 < L.length → ∀ x, va = some x → Gr (Gr N w W1) W1 w2 x.block) := hide (fun h0 x hx => by
      obtain ⟨b', o', e', hlt, _⟩ := vl 0 h0
      rw [hx] at e'
      cases e'
      exact .inr ⟨n2 _ (by rw [hx]; rfl), hlt⟩)
    have B2 := hide b2
    clear r2 n2 b2 vl vb y0 y1 y2 y3 y4 y5 y6 y7 y8
    go_wp2_with fail
    refine (need_any 0 w2).mono ?_
    rintro e w3 ⟨rfl, he, _⟩
    obtain rfl := he rfl
    clear he
    have x0 := cell_of (unhide HX2) 0
    simp at x0
    go_wp2_with fail
    refine (bytes_q va vc L (unhide Q2) (unhide VL) vn (unhide NV) (by omega)).mono ?_
    rintro e w4 ⟨rfl, q4, t4⟩
    have F1 := Wq.leave q4 (unhide B2) (unhide Q0).old (unhide Q0).low t4
    have FF := hide (Wq.leave F1.1 (unhide HB0) (unhide HN) (unhide HL) F1.2)
    clear q4 t4 F1
    go_wp2
    go_returns
    exact ⟨rfl, unhide FF⟩
set_option maxHeartbeats 8000000 in
theorem batch_no {B : Bt} {E : Nat} (a : Option Addr) (cap : Nat) (h : Wq w0 N w b s) (h1 : ¬ (B.ctl = false ∧ B.vs.length = 0)) (hB : RAt w0 a B.vs) (hf : B.Fits) (hc : chk B ≠ 0) (hL : chk B = E) (hl : s.1.length ≤ 35184372088832) :
    Calls Try.prog 63 #[.agg #[.pointer (some ⟨b, 0, none⟩)], bv B a cap] w fun e w' => e = gone (E : Int) ∧ Touch (Off N) w w' := by
  have hb0 := ((Below.refl w.heap.size w).alloc (Nat.le_refl _) (.cells #[.pointer (some ⟨b, 0, none⟩)] 77)).alloc (by simp) (.cells #[.int .i64 B.base, .int .i64 B.epoch, .int .u64 (B.pid : Int), .int .i64 B.pep, .int .i64 B.seq, .bool B.txn, .bool B.ctl, .bool B.com, .slice a B.vs.length cap] 38)
  have Q0 := hide (h.grow hb0)
  have HX := hide (heap_old (.cells #[.int .i64 B.base, .int .i64 B.epoch, .int .u64 (B.pid : Int), .int .i64 B.pep, .int .i64 B.seq, .bool B.txn, .bool B.ctl, .bool B.com, .slice a B.vs.length cap] 38) (heap_new w (.cells #[.pointer (some ⟨b, 0, none⟩)] 77)))
  have HE := hide (heap_new (w.alloc (.cells #[.pointer (some ⟨b, 0, none⟩)] 77)) (.cells #[.int .i64 B.base, .int .i64 B.epoch, .int .u64 (B.pid : Int), .int .i64 B.pep, .int .i64 B.seq, .bool B.txn, .bool B.ctl, .bool B.com, .slice a B.vs.length cap] 38))
  have hsz : (w.alloc (.cells #[.pointer (some ⟨b, 0, none⟩)] 77)).heap.size = w.heap.size + 1 := by simp
  rw [hsz] at HE
  have HN := hide h.old
  have HL := hide h.low
  have HB0 := hide hb0
  have HKE := hide (enc_no (cap := cap) (hB.later (h.base.trans (hb0.mono h.base.size))) hf hc hL)
  have HC : Hid (E ≠ 0) := hide (by rw [← hL]; exact hc)
  clear h hb0 hsz hB hf hc hL
  unfold bv at HKE ⊢
  cases hct : B.ctl with
  | true =>
    have HCT := hide hct
    clear hct h1
    rw [show (Value.bool true) = .bool B.ctl by rw [unhide HCT]]
    go_enter Try.func63, Try.ntmps63
    go_upto_region 1 with fail
    generalize (w.alloc (.cells #[.pointer (some ⟨b, 0, none⟩)] 77)).alloc (.cells #[.int .i64 B.base, .int .i64 B.epoch, .int .u64 (B.pid : Int), .int .i64 B.pep, .int .i64 B.seq, .bool B.txn, .bool B.ctl, .bool B.com, .slice a B.vs.length cap] 38) = W1 at *
    have z0 := cell_of (unhide HX) 0
    have y0 := cell_of (unhide HE) 0
    have y1 := cell_of (unhide HE) 1
    have y2 := cell_of (unhide HE) 2
    have y3 := cell_of (unhide HE) 3
    have y4 := cell_of (unhide HE) 4
    have y5 := cell_of (unhide HE) 5
    have y6 := cell_of (unhide HE) 6
    have y7 := cell_of (unhide HE) 7
    have y8 := cell_of (unhide HE) 8
    simp at z0 y0 y1 y2 y3 y4 y5 y6 y7 y8
    rw [unhide HCT] at y6 HKE
    go_wp2_with fail
    refine (unhide HKE).mono ?_
    rintro e w2 ⟨vo, rfl, r2, n2, b2⟩
    obtain ⟨va, vc, rfl, vl, _, _, vn, vb⟩ := r2.parts
    have T2 := hide (Off.leave (N := N) (unhide HB0) (Touch.of_below b2))
    clear r2 n2 b2 vl vb y0 y1 y2 y3 y4 y5 y6 y7 y8
    go_wp2_with fail
    refine (need_any (E : Int) w2).mono ?_
    rintro e w3 ⟨rfl, _, he⟩
    obtain rfl := he (by have := unhide HC; omega)
    clear he
    go_wp2
    exact ⟨rfl, rfl, unhide T2⟩
  | false =>
    have HV : Hid (B.vs.length ≠ 0) := hide (fun e => h1 ⟨hct, e⟩)
    have HCT := hide hct
    clear hct h1
    rw [show (Value.bool false) = .bool B.ctl by rw [unhide HCT]]
    go_enter Try.func63, Try.ntmps63
    go_upto_region 1 with fail
    generalize (w.alloc (.cells #[.pointer (some ⟨b, 0, none⟩)] 77)).alloc (.cells #[.int .i64 B.base, .int .i64 B.epoch, .int .u64 (B.pid : Int), .int .i64 B.pep, .int .i64 B.seq, .bool B.txn, .bool B.ctl, .bool B.com, .slice a B.vs.length cap] 38) = W1 at *
    have z0 := cell_of (unhide HX) 0
    have y0 := cell_of (unhide HE) 0
    have y1 := cell_of (unhide HE) 1
    have y2 := cell_of (unhide HE) 2
    have y3 := cell_of (unhide HE) 3
    have y4 := cell_of (unhide HE) 4
    have y5 := cell_of (unhide HE) 5
    have y6 := cell_of (unhide HE) 6
    have y7 := cell_of (unhide HE) 7
    have y8 := cell_of (unhide HE) 8
    simp at z0 y0 y1 y2 y3 y4 y5 y6 y7 y8
    rw [unhide HCT] at y6 HKE
    have hq : ((B.vs.length : Int) == 0) = false := by have := unhide HV; exact beq_eq_false_iff_ne.2 (by omega)
    go_wp2_with fail
    refine (unhide HKE).mono ?_
    rintro e w2 ⟨vo, rfl, r2, n2, b2⟩
    obtain ⟨va, vc, rfl, vl, _, _, vn, vb⟩ := r2.parts
    have T2 := hide (Off.leave (N := N) (unhide HB0) (Touch.of_below b2))
    clear r2 n2 b2 vl vb y0 y1 y2 y3 y4 y5 y6 y7 y8
    go_wp2_with fail
    refine (need_any (E : Int) w2).mono ?_
    rintro e w3 ⟨rfl, _, he⟩
    obtain rfl := he (by have := unhide HC; omega)
    clear he
    go_wp2
    exact ⟨rfl, rfl, unhide T2⟩
end
end Go.Proofs.Ytcekleconjmfjaa
