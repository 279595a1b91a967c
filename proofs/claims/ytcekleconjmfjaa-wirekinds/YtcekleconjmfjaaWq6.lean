/-
  A message as it lies; wire's writer: batch and cmd told in one form; others. Conditions: the message as it lies, what was laid so far at most 2^40 bytes.
-/
import Derived.Test.YtcekleconjmfjaaWq5
namespace Go.Proofs.Ytcekleconjmfjaa
open Go.RowKit
set_option linter.unusedVariables false

/-- A message, and where its lists lie. -/
structure Mg where
  kd : Int
  fr : Int
  tt : Int
  co : Int
  er : Int
  r1 : Int
  r2 : Int
  r3 : Int
  r4 : Int
  r5 : Int
  r6 : Int
  r7 : Int
  rj : Bool
  en : List En
  ea : Option Addr
  ec : Nat
  sn : List Nat
  sa : Option Addr
  sc : Nat
  f1 : Int
  f2 : Int
  f3 : Int
  f4 : Int
  f5 : Int
  g1 : Int
  g2 : Int
  g3 : Int
  g4 : Int
  gd : Bool
  g5 : Int
  g6 : Int
  g7 : Int
  g8 : Int
  gb : List Ba
  ga : Option Addr
  gc : Nat
  c : Cm
  B : Bt
  ba : Option Addr
  bc : Nat
  o1 : Int
  o2 : Int
  o3 : Int
  o4 : Int
  pid : Nat
  o5 : Int
  cm : Bool
  o6 : Int
  o7 : Int
  o8 : Int
  ms : List Int
  ma : Option Addr
  mc : Nat
  bs : List Ba
  bsa : Option Addr
  bsc : Nat
  ab : List Ab
  aa : Option Addr
  ac : Nat
  o9 : Int
def mgL (m : Mg) : List Value := [.int .i64 m.kd, .int .i64 m.fr, .int .i64 m.tt, .int .i64 m.co, .int .i64 m.er, .int .i64 m.r1, .int .i64 m.r2, .int .i64 m.r3, .int .i64 m.r4, .int .i64 m.r5, .int .i64 m.r6, .int .i64 m.r7, .bool m.rj, .slice m.ea m.en.length m.ec, .slice m.sa m.sn.length m.sc, .int .i64 m.f1, .int .i64 m.f2, .int .i64 m.f3, .int .i64 m.f4, .int .i64 m.f5, .int .i64 m.g1, .int .i64 m.g2, .int .i64 m.g3, .int .i64 m.g4, .bool m.gd, .int .i64 m.g5, .int .i64 m.g6, .int .i64 m.g7, .int .i64 m.g8, .slice m.ga m.gb.length m.gc, .int .i64 m.c.kd, .int .i64 m.c.nd, .int .i64 m.c.pt, .int .i64 m.c.ep, .int .i64 m.c.ve, .slice m.c.a m.c.l.length m.c.k, .int .i64 m.B.base, .int .i64 m.B.epoch, .int .u64 (m.B.pid : Int), .int .i64 m.B.pep, .int .i64 m.B.seq, .bool m.B.txn, .bool m.B.ctl, .bool m.B.com, .slice m.ba m.B.vs.length m.bc, .int .i64 m.o1, .int .i64 m.o2, .int .i64 m.o3, .int .i64 m.o4, .int .u64 (m.pid : Int), .int .i64 m.o5, .bool m.cm, .int .i64 m.o6, .int .i64 m.o7, .int .i64 m.o8, .slice m.ma m.ms.length m.mc, .slice m.bsa m.bs.length m.bsc, .slice m.aa m.ab.length m.ac, .int .i64 m.o9]
structure MgIn (w : World) (m : Mg) : Prop where
  hd : ∀ x ∈ [m.kd, m.fr, m.tt, m.co, m.er], I64 x
  rf : ∀ x ∈ [m.r1, m.r2, m.r3, m.r4, m.r5, m.r6, m.r7], I64 x
  en : RowsAt cellsEn 2 w m.ea m.en
  ein : ∀ o ∈ m.en, EnIn w o
  em : m.en.length ≤ 140737488355328
  sn : LAt w m.sa m.sn
  sc : m.sa = none → m.sc = 0
  fe : ∀ x ∈ [m.f1, m.f2, m.f3, m.f4, m.f5], I64 x
  ge : ∀ x ∈ [m.g1, m.g2, m.g3, m.g4, m.g5, m.g6, m.g7, m.g8], I64 x
  gb : RowsAt cellsBa 9 w m.ga m.gb
  gin : ∀ o ∈ m.gb, BaIn w o
  gm : m.gb.length ≤ 140737488355328
  c : CIn w m.c
  cf : CFit m.c
  b : RAt w m.ba m.B.vs
  bf : m.B.Fits
  ot : ∀ x ∈ [m.o1, m.o2, m.o3, m.o4, m.o5, m.o6, m.o7, m.o8, m.o9], I64 x
  pid : m.pid < 18446744073709551616
  ms : IAt w m.ma m.ms
  msf : ∀ x ∈ m.ms, -9223372036854775808 ≤ x ∧ x < 9223372036854775808
  mm : m.ms.length ≤ 140737488355328
  bs : RowsAt cellsBa 9 w m.bsa m.bs
  bin : ∀ o ∈ m.bs, BaIn w o
  bm : m.bs.length ≤ 140737488355328
  ab : RowsAt cellsAb 3 w m.aa m.ab
  ain : ∀ o ∈ m.ab, AbIn w o
  am : m.ab.length ≤ 140737488355328
section
variable {w0 w : World} {N : Nat → Prop} {b : Nat} {s : Ws}
theorem WP.ok {E : Int} {s' : Ws} {e : Ending} {w' : World} (hE : E = 0) (h : WD w0 N w b s' e w') : WP w0 N w b E s' e w' := ⟨h.2.2, fun _ => ⟨h.1, h.2.1⟩, fun h => absurd hE h⟩
theorem WP.no {E : Int} {s' : Ws} {e : Ending} {w' : World} (hE : E ≠ 0) (h : e = gone E ∧ Touch (Off N) w w') : WP w0 N w b E s' e w' := ⟨h.2, fun h => absurd h hE, fun _ => h.1⟩
theorem batch_w {B : Bt} (a : Option Addr) (cap : Nat) (h : Wq w0 N w b s) (hB : RAt w0 a B.vs) (hf : B.Fits) (hl : s.1.length ≤ 35184372088832) :
    Calls Try.prog 63 #[.agg #[.pointer (some ⟨b, 0, none⟩)], bv B a cap] w fun e w' => WP w0 N w b (batE B) (batS s B) e w' := by
  by_cases hz : B.ctl = false ∧ B.vs.length = 0
  · have h1 : batE B = 0 := by unfold batE; rw [if_pos hz]
    have h2 : batS s B = wB s [] := by unfold batS; rw [if_pos hz]
    rw [h2]
    exact (batch_none B a cap h hz.1 hz.2 hl).mono fun _ _ hp => WP.ok h1 hp
  · have h1 : batE B = (chk B : Int) := by unfold batE; rw [if_neg hz]
    have h2 : batS s B = wB s (encB B) := by unfold batS; rw [if_neg hz]
    rw [h1, h2]
    by_cases hc : chk B = 0
    · exact (batch_ok a cap h hz hB hf hc rfl hl).mono fun _ _ hp => WP.ok (by rw [hc]; rfl) hp
    · exact (batch_no a cap h hz hB hf hc rfl hl).mono fun _ _ hp => WP.no (by omega) hp
def cmdE (c : Cm) : Int := if isC c = true then 0 else 1
theorem cenc_any {c : Cm} (hc : CIn w c) (hf : CFit c) : ∃ (L : List Nat), (isC c = true → L = encC c) ∧ Calls Try.prog 64 #[.agg (cmA c)] w fun e w' => EnC w (cmdE c) L e w' := by
  by_cases hC : isC c = true
  · have e : cmdE c = 0 := by unfold cmdE; rw [if_pos hC]
    rw [e]
    exact ⟨encC c, fun _ => rfl, encode_ok hc hf hC⟩
  · have e : cmdE c = 1 := by unfold cmdE; rw [if_neg hC]
    rw [e]
    exact ⟨[], fun h => absurd h hC, encode_bad hc (by simpa using hC)⟩
set_option maxHeartbeats 8000000 in
theorem cmd_w {c : Cm} (h : Wq w0 N w b s) (hc : CIn w0 c) (hf : CFit c) (hl : s.1.length ≤ 35184372088832) :
    Calls Try.prog 45 #[.agg #[.pointer (some ⟨b, 0, none⟩)], .agg (cmA c)] w fun e w' => WP w0 N w b (cmdE c) (wB s (encC c)) e w' := by
  have hb0 := ((Below.refl w.heap.size w).alloc (Nat.le_refl _) (.cells #[.pointer (some ⟨b, 0, none⟩)] 77)).alloc (by simp) (.cells (cmA c) 34)
  have Q0 := hide (h.grow hb0)
  have HX := hide (heap_old (.cells (cmA c) 34) (heap_new w (.cells #[.pointer (some ⟨b, 0, none⟩)] 77)))
  have HB := hide (heap_new (w.alloc (.cells #[.pointer (some ⟨b, 0, none⟩)] 77)) (.cells (cmA c) 34))
  have hsz : (w.alloc (.cells #[.pointer (some ⟨b, 0, none⟩)] 77)).heap.size = w.heap.size + 1 := by simp
  rw [hsz] at HB
  have HN := hide h.old
  have HL := hide h.low
  have HB0 := hide hb0
  obtain ⟨L, hL, KE⟩ := cenc_any (w := (w.alloc (.cells #[.pointer (some ⟨b, 0, none⟩)] 77)).alloc (.cells (cmA c) 34)) (hc.later (h.base.trans (hb0.mono h.base.size))) hf
  have HKE := hide KE
  have HLL : Hid (cmdE c = 0 → encC c = L) := hide (fun e => by
    unfold cmdE at e
    split at e
    · rename_i hC; exact (hL hC).symm
    · cases e)
  clear h hb0 hsz hc hf hL KE
  generalize cmdE c = E at *
  generalize encC c = EC at *
  have e6 : cmA c = #[.int .i64 c.kd, .int .i64 c.nd, .int .i64 c.pt, .int .i64 c.ep, .int .i64 c.ve, .slice c.a c.l.length c.k] := rfl
  rw [e6] at HKE HX HB HB0 Q0 ⊢
  go_enter Try.func45, Try.ntmps45
  go_upto_region 1 with fail
  generalize (w.alloc (.cells #[.pointer (some ⟨b, 0, none⟩)] 77)).alloc (.cells #[.int .i64 c.kd, .int .i64 c.nd, .int .i64 c.pt, .int .i64 c.ep, .int .i64 c.ve, .slice c.a c.l.length c.k] 34) = W1 at *
  have y0 := cell_of (unhide HB) 0
  have y1 := cell_of (unhide HB) 1
  have y2 := cell_of (unhide HB) 2
  have y3 := cell_of (unhide HB) 3
  have y4 := cell_of (unhide HB) 4
  have y5 := cell_of (unhide HB) 5
  simp at y0 y1 y2 y3 y4 y5
  go_wp2_with fail
  refine (unhide HKE).mono ?_
  rintro e w2 ⟨vo, rfl, r2, n2, b2⟩
  obtain ⟨va, vc, rfl, vl, _, _, vn, vb⟩ := r2.parts
  have Q2 := hide ((unhide Q0).grow b2)
  have HX2 := hide (below_keep b2 (unhide HX))
  have VL := hide vl
  have NV : Hid (0 < L.length → ∀ x, va = some x → Gr (Gr N w W1) W1 w2 x.block) := hide (fun h0 x hx => by
    obtain ⟨b', o', e', hlt, _⟩ := vl 0 h0
    rw [hx] at e'
    cases e'
    exact .inr ⟨n2 _ (by rw [hx]; rfl), hlt⟩)
  have B2 := hide b2
  clear r2 n2 b2 vl vb y0 y1 y2 y3 y4 y5
  by_cases hE : E = 0
  · have eL := unhide HLL hE
    subst eL
    subst hE
    go_wp2_with fail
    refine (need_any 0 w2).mono ?_
    rintro e w3 ⟨rfl, he, _⟩
    obtain rfl := he rfl
    clear he
    have x0 := cell_of (unhide HX2) 0
    simp at x0
    go_wp2_with fail
    refine (bytes_q va vc EC (unhide Q2) (unhide VL) vn (unhide NV) (by omega)).mono ?_
    rintro e w4 ⟨rfl, q4, t4⟩
    have F1 := Wq.leave q4 (unhide B2) (unhide Q0).old (unhide Q0).low t4
    have FF := hide (Wq.leave F1.1 (unhide HB0) (unhide HN) (unhide HL) F1.2)
    clear q4 t4 F1
    go_wp2
    go_returns
    exact WP.ok rfl ⟨rfl, unhide FF⟩
  · have T2 := hide (Off.leave (N := N) (unhide HB0) (Touch.of_below (unhide B2)))
    have HE := hide hE
    clear hE
    go_wp2_with fail
    refine (need_any E w2).mono ?_
    rintro e w3 ⟨rfl, _, he⟩
    obtain rfl := he (unhide HE)
    clear he
    go_wp2
    exact ⟨rfl, WP.no (unhide HE) ⟨rfl, unhide T2⟩⟩
end
end Go.Proofs.Ytcekleconjmfjaa
