/-
  What the document lays of a message, in plain words; its writer beside boxes that stay. Conditions: the message as it lies, its lists and pieces at most 2^20 long.
-/
import Derived.Test.YtblmondkdcpkaaaZ34
import Derived.Test.YtblmondkdcpkaaaZ33
import Derived.Test.YtblmondkdcpkaaaZ13
import Derived.Test.YtblmondkdcpkaaaZ15
import Derived.Test.YtblmondkdcpkaaaZ19

/-
  penstockref17's Laid: batch, batches. Conditions: the batches as they lie, at most 2^20 of them.
-/
namespace Go.Proofs.Ytblmondkdcpkaaa
open Go.RowKit
set_option linter.unusedVariables false

def dK (s : Dv) (B : Bt) : Dv := if chk B ≠ 0 then dF (chk B : Int) s else s
theorem dK_l (s : Dv) (B : Bt) : (dK s B).l = s.l := by unfold dK; split; exact dF_l _ _; rfl
def dBa (s : Dv) (B : Bt) : Dv := if B.ctl = false ∧ B.vs.length = 0 then dB s [] else dB (dK s B) (outE B)
theorem dX_l (s : Dv) (x : List Nat) : (dX s x).l = s.l ++ x := rfl
theorem dB_len (s : Dv) (d : List Nat) (h : d.length ≤ 1099511627776) : (dB s d).l.length ≤ s.l.length + d.length + 10 := by
  unfold dB
  rw [dX_l, dG_l, List.length_append, List.length_append]
  have := enc_len10 (n := d.length) (by omega)
  omega
theorem outE_len {B : Bt} (hf : B.Fits) : (outE B).length ≤ 4096 := by
  unfold outE
  split
  · have := encB_len hf (by assumption)
    omega
  · simp
theorem dBa_len (s : Dv) {B : Bt} (hf : B.Fits) : (dBa s B).l.length ≤ s.l.length + 4106 := by
  unfold dBa
  split
  · have := dB_len s [] (by simp)
    simp at this
    omega
  · have := outE_len hf
    have h2 := dB_len (dK s B) (outE B) (by omega)
    rw [dK_l] at h2
    omega
section
variable {w0 w : World} {N : Nat → Prop} {b : Nat} {s : Dv}
set_option maxRecDepth 100000 in
set_option maxHeartbeats 8000000 in
theorem batch_d {B : Bt} (a : Option Addr) (cap : Nat) (h : Lq w0 N w b s) (hB : RAt w0 a B.vs) (hf : B.Fits) (hl : s.l.length ≤ 35184372088832) :
    Calls Try.prog 27 #[.pointer (some ⟨b, 0, none⟩), bv B a cap] w fun e w' => DD w0 N w b (dBa s B) e w' := by
  have HBX := hide (Box.new w B a cap)
  have hbl := h.lt
  obtain ⟨base, epoch, pid, pep, seq, txn, ctl, com, vs⟩ := B
  have hb0 := (Below.refl w.heap.size w).alloc (Nat.le_refl _) (.cells #[.int .i64 base, .int .i64 epoch, .int .u64 (pid : Int), .int .i64 pep, .int .i64 seq, .bool txn, .bool ctl, .bool com, .slice a vs.length cap] 38)
  have Q0 := hide (h.grow hb0)
  have KD := hide (docencode_any ⟨base, epoch, pid, pep, seq, txn, ctl, com, vs⟩ a cap (w.alloc (.cells #[.int .i64 base, .int .i64 epoch, .int .u64 (pid : Int), .int .i64 pep, .int .i64 seq, .bool txn, .bool ctl, .bool com, .slice a vs.length cap] 38)) (hB.later (h.base.trans (hb0.mono h.base.size))) hf)
  have HB0 := hide hb0
  have HN := hide h.old
  have HL := hide h.low
  have HLN := hide (outE_len hf)
  have HS := hide hl
  have hR : Hid (dBa s ⟨base, epoch, pid, pep, seq, txn, ctl, com, vs⟩ = if ctl = false ∧ vs.length = 0 then dB s [] else dB (dK s ⟨base, epoch, pid, pep, seq, txn, ctl, com, vs⟩) (outE ⟨base, epoch, pid, pep, seq, txn, ctl, com, vs⟩)) := hide rfl
  have hK : Hid (dK s ⟨base, epoch, pid, pep, seq, txn, ctl, com, vs⟩ = if chk ⟨base, epoch, pid, pep, seq, txn, ctl, com, vs⟩ ≠ 0 then dF (chk ⟨base, epoch, pid, pep, seq, txn, ctl, com, vs⟩ : Int) s else s) := hide rfl
  have KL : Hid ((dK s ⟨base, epoch, pid, pep, seq, txn, ctl, com, vs⟩).l = s.l) := hide (dK_l _ _)
  unfold EnPost bv at KD
  simp only at KD
  generalize dBa s ⟨base, epoch, pid, pep, seq, txn, ctl, com, vs⟩ = R at *
  generalize dK s ⟨base, epoch, pid, pep, seq, txn, ctl, com, vs⟩ = S2 at *
  generalize outE ⟨base, epoch, pid, pep, seq, txn, ctl, com, vs⟩ = X at *
  generalize chk ⟨base, epoch, pid, pep, seq, txn, ctl, com, vs⟩ = ck at *
  obtain ⟨k0, k1, k2, k3, k4, k5, k6, k7, k8⟩ := (unhide HBX).cells
  simp only at k0 k1 k2 k3 k4 k5 k6 k7 k8
  clear h hb0 hB hf hl HBX
  go_enter Try.func27, Try.ntmps27
  go_upto_region 1 with fail
  generalize w.alloc (.cells #[.int .i64 base, .int .i64 epoch, .int .u64 (pid : Int), .int .i64 pep, .int .i64 seq, .bool txn, .bool ctl, .bool com, .slice a vs.length cap] 38) = W1 at *
  by_cases hz : ctl = false ∧ vs.length = 0
  · have hRR := unhide hR
    rw [if_pos hz] at hRR
    have KB := hide (bytes_d none 0 [] (unhide Q0) (fun i hi => by simp at hi) (fun _ => rfl) (fun h0 => by simp at h0) (by simp) (by have := unhide HS; omega))
    obtain ⟨hz1, hz2⟩ := hz
    have hq : ((vs.length : Int) == 0) = true := by rw [hz2]; rfl
    subst hz1
    have HRR := hide hRR
    clear hRR hz2 hR hK KL KD
    generalize vs.length = n at *
    go_wp2_with fail
    refine (unhide KB).mono ?_
    rintro e w2 ⟨rfl, q2, t2⟩
    have FF : Hid (DD w0 N w b R (.returned (.tuple #[])) w2) := hide (by rw [unhide HRR]; exact ⟨rfl, Lq.leave q2 (unhide HB0) (unhide HN) (unhide HL) t2⟩)
    clear q2 t2
    go_wp2
    go_returns
    exact unhide FF
  · have HRR := unhide hR
    rw [if_neg hz] at HRR
    have HR2 := hide HRR
    have hg : ctl = true ∨ (ctl = false ∧ ((vs.length : Int) == 0) = false) := by
      cases hct : ctl
      · exact .inr ⟨rfl, beq_eq_false_iff_ne.2 (fun e => hz ⟨hct, by omega⟩)⟩
      · exact .inl rfl
    clear hz HRR hR
    have KK : ∀ P : Prop, (∀ (n : Nat) (w2 : World) (vo : Value), Hid (Fresh W1 w2 vo X) → P) → P → True := fun _ _ _ => trivial
    clear KK
    rcases hg with hct | ⟨hct, hq⟩
    all_goals
      subst hct
      generalize vs.length = n at *
      go_wp2_with fail
      refine (unhide KD).mono ?_
      rintro e w2 ⟨vo, rfl, f2⟩
      obtain ⟨ao, co, rfl, lo, _, _, zo, _, _⟩ := f2.1.parts
      have q2 := (unhide Q0).grow f2.2.2
      have HB2 := hide f2.2.2
      have NW := hide f2.2.1
      have LO := hide lo
      have bs2 := f2.2.2.size
      have LV : Hid (∀ (S : Dv) (w' : World), Lq w0 (Gr (Gr N w W1) W1 w2) w' b S → Touch (Off (Gr (Gr N w W1) W1 w2)) w2 w' → Lq w0 N w' b S ∧ Touch (Off N) w w') := hide (fun S w' q t => by
        obtain ⟨q', t'⟩ := Lq.leave q (unhide HB2) (unhide Q0).old (unhide Q0).low t
        exact Lq.leave q' (unhide HB0) (unhide HN) (unhide HL) t')
      have HN2 : Hid (0 < X.length → ∀ x, ao = some x → x.block ≠ b) := hide (fun h0 x hx e => by
        have hb1 : b < W1.heap.size := (unhide Q0).lt
        have := unhide NW x.block (by rw [hx]; rfl)
        omega)
      have QB := hide q2
      clear f2 lo q2 KD
      by_cases hc : ck = 0
      · have h2 := unhide hK
        rw [if_neg (by omega)] at h2
        have H2 := hide h2
        have hcq : ((ck : Int) == 0) = true := by rw [hc]; rfl
        clear h2 hK hc
        have KB := hide (bytes_d ao co X (unhide QB) (unhide LO) zo (unhide HN2) (by have := unhide HLN; omega) (by have := unhide HS; omega))
        go_wp2_with fail
        refine (unhide KB).mono ?_
        rintro e w3 ⟨rfl, q3, t3⟩
        have FF : Hid (DD w0 N w b R (.returned (.tuple #[])) w3) := hide (by rw [unhide HR2, unhide H2]; exact ⟨rfl, unhide LV _ _ q3 t3⟩)
        clear q3 t3
        go_wp2
        go_returns
        exact unhide FF
      · have h2 := unhide hK
        rw [if_pos hc] at h2
        have H2 := hide h2
        have hcq : ((ck : Int) == 0) = false := beq_eq_false_iff_ne.2 (by omega)
        clear h2 hK hc
        have KF := hide (fail_d (ck : Int) (unhide QB))
        go_wp2_with fail
        refine (unhide KF).mono ?_
        rintro e w3 ⟨rfl, q3, t3⟩
        have lo3 : LAt w3 ao X := (unhide LO).keep t3 (fun h0 x hx e => e (.inr ⟨unhide NW x.block (by rw [hx]; rfl), by
          obtain ⟨b', o', e1, e2, _⟩ := (unhide LO) 0 h0
          rw [hx] at e1
          cases e1
          exact e2⟩))
        have KB := hide (bytes_d ao co X q3 lo3 zo (unhide HN2) (by have := unhide HLN; omega) (by rw [dF_l]; have := unhide HS; omega))
        have T3 := hide t3
        clear q3 t3 lo3 KF QB
        go_wp2_with fail
        refine (unhide KB).mono ?_
        rintro e w4 ⟨rfl, q4, t4⟩
        have FF : Hid (DD w0 N w b R (.returned (.tuple #[])) w4) := hide (by rw [unhide HR2, unhide H2]; exact ⟨rfl, unhide LV _ _ q4 ((unhide T3).trans t4)⟩)
        clear q4 t4
        go_wp2
        go_returns
        exact unhide FF
def stepD (s : Dv) (o : Ba) : Dv := dBa s o.b
theorem foldD_len : ∀ (os : List Ba) (s : Dv) {W : World}, (∀ o ∈ os, BaIn W o) → (os.foldl stepD s).l.length ≤ s.l.length + 4106 * os.length
  | [], s, _, _ => by simp
  | o :: r, s, W, h => by
    have h1 := foldD_len r (stepD s o) (fun x hx => h x (by simp [hx]))
    have h2 : (stepD s o).l.length ≤ s.l.length + 4106 := dBa_len s (h o (by simp)).2
    rw [List.foldl_cons, List.length_cons]
    omega
theorem foldD_take {os : List Ba} {k : Nat} (hk : k < os.length) {o : Ba} (ho : os[k] = o) (s : Dv) : (os.take (k + 1)).foldl stepD s = stepD ((os.take k).foldl stepD s) o := by
  rw [List.take_succ_eq_append_getElem hk, List.foldl_append, ho]
  rfl
set_option maxRecDepth 100000 in
set_option maxHeartbeats 8000000 in
theorem batches_d {os : List Ba} {ao : Option Addr} {cap : Nat} (h : Lq w0 N w b s) (hr : RowsAt cellsBa 9 w0 ao os) (hin : ∀ o ∈ os, BaIn w0 o) (hm : os.length ≤ 1048576) (hl : s.l.length ≤ 17592186044416) :
    Calls Try.prog 22 #[.pointer (some ⟨b, 0, none⟩), .slice ao os.length cap] w fun e w' => DD w0 N w b (os.foldl stepD (dC s os.length)) e w' := by
  have KC := hide (count_d os.length h (by omega) (by omega))
  have HR := hide hr
  have HI := hide hin
  have hcl : (dC s os.length).l.length ≤ 17592186044426 := by
    unfold dC
    rw [dX_l, dN_l, List.length_append]
    have := enc_len10 (n := os.length) (by omega)
    omega
  clear h hr hin hl
  generalize dC s os.length = S0 at *
  go_enter Try.func22, Try.ntmps22
  go_wp2_with fail
  refine (unhide KC).mono ?_
  rintro e w1 ⟨rfl, q1, t1⟩
  have Q1 := hide q1
  have T1 := hide t1
  clear q1 t1 KC
  go_wp2_with fail
  go_loopw [4] (fun i wr => ∃ k : Nat, k ≤ os.length ∧ i = .int .i64 k ∧ Hid (Lq w0 N wr b ((os.take k).foldl stepD S0) ∧ Touch (Off N) w wr)) (fun i _ => os.length - (intOf i).toNat)
  case atStart => exact ⟨0, Nat.zero_le _, rfl, hide ⟨unhide Q1, unhide T1⟩⟩
  case round =>
    obtain ⟨k, hk, rfl, F⟩ := hrel
    by_cases hc : k < os.length
    · obtain ⟨o, ho⟩ : ∃ o, os[k] = o := ⟨_, rfl⟩
      have hoi : BaIn w0 o := unhide HI o (by rw [← ho]; exact List.getElem_mem hc)
      obtain ⟨q, t⟩ := unhide F
      obtain ⟨gb, off, ea, y0, y1, y2, y3, y4, y5, y6, y7, y8⟩ := (unhide HR).atBa q.base hc ho
      subst ea
      have HD := hide (foldD_take hc ho S0)
      have hfl := foldD_len (os.take k) S0 (fun x hx => unhide HI x (List.mem_of_mem_take hx))
      have hfl2 : ((os.take k).foldl stepD S0).l.length ≤ 35184372088832 := by rw [List.length_take] at hfl; omega
      have KB := hide (batch_d o.a o.c q hoi.1 hoi.2 hfl2)
      have T := hide t
      have hc' : (k : Int) < (os.length : Int) := by omega
      clear q t hfl hfl2 hoi F ho
      unfold bv at KB
      change Hid (Calls _ _ _ _ fun e w' => DD w0 N wr b (stepD _ o) e w') at KB
      rw [← unhide HD] at KB
      clear HD
      go_wp2_with fail
      refine (unhide KB).mono ?_
      rintro e w2 ⟨rfl, q2, t2⟩
      have FF : Hid (Lq w0 N w2 b ((os.take (k + 1)).foldl stepD S0) ∧ Touch (Off N) w w2) := hide ⟨q2, (unhide T).trans t2⟩
      clear q2 t2 KB y0 y1 y2 y3 y4 y5 y6 y7 y8
      go_wp2
      go_roundw
      case rel => exact ⟨k + 1, by omega, by go_num, FF⟩
      case measure => simp [intOf]; omega
    · obtain rfl : k = os.length := by omega
      have FF : Hid (DD w0 N w b (os.foldl stepD S0) (.returned (.tuple #[])) wr) := hide (by have := unhide F; rw [List.take_length] at this; exact ⟨rfl, this⟩)
      clear F
      go_wp2
      go_returns
      exact unhide FF
end
end Go.Proofs.Ytblmondkdcpkaaa


namespace Go.Proofs.Ytblmondkdcpkaaa
open Go.RowKit
set_option linter.unusedVariables false

/-- How long a message's lists and pieces are. -/
structure MgS (m : Mg) : Prop where
  en : m.en.length ≤ 1048576 ∧ ∀ o ∈ m.en, o.d.length ≤ 1048576
  sn : m.sn.length ≤ 1048576
  gb : m.gb.length ≤ 1048576
  c : m.c.l.length ≤ 1048576
  ms : m.ms.length ≤ 1048576
  bs : m.bs.length ≤ 1048576
  ab : m.ab.length ≤ 1048576
def stepDE (s : Dv) (o : En) : Dv := dB (dX s (encL [o.t])) o.d
def stepDA (s : Dv) (o : Ab) : Dv := dX (dX s (enc o.p)) (encL [o.f, o.l])
def outN (s : Dv) : Int := if s.e ≠ 0 then s.e else s.g
def outD (s : Dv) : List Nat := if outN s = 0 then s.l else []
/-- What DocEncode answers. -/
def DEP (w : World) (s : Dv) (e : Ending) (w' : World) : Prop := ∃ vo, e = .returned (.tuple #[vo, .int .i64 (outN s)]) ∧ Fresh w w' vo (outD s)
theorem encI_len {ls : List Int} {s s' : Dv} (e : dX s (encL ls) = s') (h : ∀ x ∈ ls, I64 x) : s'.l.length ≤ s.l.length + 10 * ls.length := by
  rw [← e, dX_l, List.length_append]
  have := encL_len ls h
  omega
theorem stepDE_len (s : Dv) {o : En} (ht : I64 o.t) (hd : o.d.length ≤ 1048576) : (stepDE s o).l.length ≤ s.l.length + 1048600 := by
  unfold stepDE
  have h1 := dB_len (dX s (encL [o.t])) o.d (by omega)
  have h2 := encI_len (s := s) (ls := [o.t]) rfl (by intro x hx; rw [List.mem_singleton] at hx; subst hx; exact ht)
  simp only [List.length_cons, List.length_nil] at h2
  omega
theorem foldDE_len : ∀ (os : List En) (s : Dv) {W : World}, (∀ o ∈ os, EnIn W o) → (∀ o ∈ os, o.d.length ≤ 1048576) → (os.foldl stepDE s).l.length ≤ s.l.length + 1048600 * os.length
  | [], s, _, _, _ => by simp
  | o :: r, s, W, h, h2 => by
    have h1 := foldDE_len r (stepDE s o) (fun x hx => h x (by simp [hx])) (fun x hx => h2 x (by simp [hx]))
    have h3 := stepDE_len s (h o (by simp)).2.2 (h2 o (by simp))
    rw [List.foldl_cons, List.length_cons]
    omega
theorem foldDE_take {os : List En} {k : Nat} (hk : k < os.length) {o : En} (ho : os[k] = o) (s : Dv) : (os.take (k + 1)).foldl stepDE s = stepDE ((os.take k).foldl stepDE s) o := by
  rw [List.take_succ_eq_append_getElem hk, List.foldl_append, ho]
  rfl
theorem stepDA_len (s : Dv) {W : World} {o : Ab} (h : AbIn W o) : (stepDA s o).l.length ≤ s.l.length + 30 := by
  unfold stepDA
  have h1 := encI_len (s := dX s (enc o.p)) (ls := [o.f, o.l]) rfl (by intro x hx; simp at hx; rcases hx with rfl | rfl; exact h.2.1; exact h.2.2)
  have h3 : (dX s (enc o.p)).l.length = s.l.length + (enc o.p).length := by rw [dX_l, List.length_append]
  have h2 := enc_len10 h.1
  simp only [List.length_cons, List.length_nil] at h1
  omega
theorem foldDA_len : ∀ (os : List Ab) (s : Dv) {W : World}, (∀ o ∈ os, AbIn W o) → (os.foldl stepDA s).l.length ≤ s.l.length + 30 * os.length
  | [], s, _, _ => by simp
  | o :: r, s, W, h => by
    have h1 := foldDA_len r (stepDA s o) (fun x hx => h x (by simp [hx]))
    have h3 := stepDA_len s (h o (by simp))
    rw [List.foldl_cons, List.length_cons]
    omega
theorem foldDA_take {os : List Ab} {k : Nat} (hk : k < os.length) {o : Ab} (ho : os[k] = o) (s : Dv) : (os.take (k + 1)).foldl stepDA s = stepDA ((os.take k).foldl stepDA s) o := by
  rw [List.take_succ_eq_append_getElem hk, List.foldl_append, ho]
  rfl
theorem dints_at {w0 w w1 : World} {N : Nat → Prop} {b : Nat} {s : Dv} (ls : List Int) (h : Lq w0 N w b s) (hb : Below w.heap.size w w1) (hs : w.heap.size < w1.heap.size) (hi : IAt w1 (some ⟨w.heap.size, 0, none⟩) ls) (hf : ∀ x ∈ ls, I64 x) (hl : s.l.length + 10 * ls.length ≤ 70368744177664) :
    Calls Try.prog 18 #[.pointer (some ⟨b, 0, none⟩), .slice (some ⟨w.heap.size, 0, none⟩) ls.length ls.length] w1 fun e w' => DD w0 N w b (dX s (encL ls)) e w' := by
  refine (ints_d ls (h.grow hb) hi (fun h0 x hx => ?_) hf hl).mono ?_
  · cases hx
    exact .inr ⟨Nat.le_refl _, hs⟩
  · rintro e w' ⟨he, q, t⟩
    exact ⟨he, Lq.leave q hb h.old h.low t⟩
theorem Gr.fresh {N : Nat → Prop} {w w1 : World} {k : Nat} (h1 : w.heap.size ≤ k) (h2 : k < w1.heap.size) : Gr N w w1 k := Or.inr ⟨h1, h2⟩
/-- The document's writer beside boxes that stay. -/
structure Dk (w : World) (N : Nat → Prop) (b : Nat) (K : List (Nat × Obj)) (wx : World) (s : Dv) : Prop where
  q : Lq w N wx b s
  kp : ∀ p ∈ K, N p.1 ∧ wx.heap[p.1]? = some p.2
section
variable {w wx w' : World} {N : Nat → Prop} {b : Nat} {K : List (Nat × Obj)} {s s' : Dv}
theorem Dk.step (h : Dk w N b K wx s) (q' : Lq w N w' b s') (t : Touch (Off N) wx w') : Dk w N b K w' s' :=
  ⟨q', fun p hp => ⟨(h.kp p hp).1, t.keep (h.kp p hp).2 (fun hn => hn (h.kp p hp).1)⟩⟩
theorem Dk.later (h : Dk w N b K wx s) (hb : Below wx.heap.size wx w') : Dk w N b K w' s :=
  ⟨h.q.later hb, fun p hp => ⟨(h.kp p hp).1, below_keep hb (h.kp p hp).2⟩⟩
theorem Dk.grow (h : Dk w N b K wx s) (hb : Below wx.heap.size wx w') : Dk w (Gr N wx w') b K w' s :=
  ⟨h.q.grow hb, fun p hp => ⟨.inl (h.kp p hp).1, below_keep hb (h.kp p hp).2⟩⟩
theorem Dk.more (h : Dk w N b K wx s) {k : Nat} {o : Obj} (hN : N k) (ho : wx.heap[k]? = some o) : Dk w N b ((k, o) :: K) wx s :=
  ⟨h.q, fun p hp => by
    rcases List.mem_cons.1 hp with e | e
    · rw [e]; exact ⟨hN, ho⟩
    · exact h.kp p e⟩
theorem Dk.at0 {k : Nat} {o : Obj} (h : Dk w N b ((k, o) :: K) wx s) : wx.heap[k]? = some o := (h.kp (k, o) (List.mem_cons_self ..)).2
theorem Dk.at1 {k : Nat} {o : Obj} {p : Nat × Obj} (h : Dk w N b (p :: (k, o) :: K) wx s) : wx.heap[k]? = some o := (h.kp (k, o) (List.mem_cons_of_mem _ (List.mem_cons_self ..))).2
theorem dk_start {W1 : World} {o : Obj} (hb : Below w.heap.size w W1) (hz : W1.heap.size = w.heap.size + 1) (H : W1.heap[w.heap.size]? = some o) :
    Dk w (fun k => k < W1.heap.size) W1.heap.size [(w.heap.size, o)] (W1.alloc (.cells #[.slice none 0 0, .int .i64 0, .int .i64 0] 60)) ⟨[], 0, 0⟩ := by
  have ba := (Below.refl W1.heap.size W1).alloc (Nat.le_refl _) (.cells #[.slice none 0 0, .int .i64 0, .int .i64 0] 60)
  refine ⟨⟨⟨.slice none 0 0, heap_new _ _, Row.nil _, fun k hk => by simp [Value.ownBlock] at hk⟩, Nat.lt_irrefl _, fun k hk => Nat.lt_of_lt_of_le hk ba.size, hb.trans (ba.mono hb.size), fun k hk => by omega⟩, fun p hp => ?_⟩
  rw [List.mem_singleton] at hp
  rw [hp]
  exact ⟨by show w.heap.size < W1.heap.size; omega, below_keep ba H⟩
/-- The bytes that are told at the end. -/
theorem Dk.done (h : Dk w N b K wx s) : ∃ v, wx.heap[b]? = some (.cells #[v, .int .i64 s.e, .int .i64 s.g] 60) ∧ (∃ a n c, v = .slice a n c) ∧ (s.e ≠ 0 → ∀ W, Below wx.heap.size wx W → DEP w s (.returned (.tuple #[.slice none 0 0, .int .i64 s.e])) W) ∧ (s.e = 0 → s.g ≠ 0 → ∀ W, Below wx.heap.size wx W → DEP w s (.returned (.tuple #[.slice none 0 0, .int .i64 s.g])) W) ∧ (s.e = 0 → s.g = 0 → DEP w s (.returned (.tuple #[v, .int .i64 0])) wx) := by
  obtain ⟨⟨v, h1, h2, h3⟩, h4, h5, h6, h7⟩ := h.q
  have hn : New w v := fun k hk => Nat.le_of_not_lt (fun g => (h3 k hk).1 (h7 k g))
  refine ⟨v, h1, h2.shape, fun e W hW => ⟨.slice none 0 0, ?_, ?_⟩, fun e g W hW => ⟨.slice none 0 0, ?_, ?_⟩, fun e g => ⟨v, ?_, ?_⟩⟩
  · unfold outN; rw [if_pos e]
  · have : outD s = [] := by unfold outD outN; rw [if_pos e, if_neg e]
    rw [this]
    exact ⟨Row.nil _, New.nil _, h6.trans (hW.mono h6.size)⟩
  · unfold outN; rw [if_neg (by omega)]
  · have : outD s = [] := by unfold outD outN; rw [if_neg (by omega : ¬ s.e ≠ 0), if_neg g]
    rw [this]
    exact ⟨Row.nil _, New.nil _, h6.trans (hW.mono h6.size)⟩
  · unfold outN; rw [if_neg (by omega), g]
  · have : outD s = s.l := by unfold outD outN; rw [if_neg (by omega : ¬ s.e ≠ 0), if_pos g]
    rw [this]
    exact ⟨h2, hn, h6⟩
theorem Lq.far (h : Lq w N wx b s) {a : Option Addr} {d : List Nat} (hd : LAt w a d) : 0 < d.length → ∀ x, a = some x → x.block ≠ b := fun h0 x hx e => by
  obtain ⟨b', o', e1, hlt, _⟩ := hd 0 h0
  rw [hx] at e1
  cases e1
  exact h.nb (by rw [← e]; exact h.low _ hlt)
end
theorem encC_len {c : Cm} (hf : CFit c) (hc : isC c = true) : (encC c).length ≤ 200 := by
  have h5 := isC_few hc
  have z := fun (i : Int) (h : I64 i) => enc_len10 (zig_lt h.1 h.2)
  have h1 := z _ hf.kd
  have h2 := z _ hf.nd
  have h3 := z _ hf.pt
  have h4 := z _ hf.ep
  have h6 := z _ hf.ve
  have h7 := enc_len10 (n := c.l.length) (by omega)
  have h8 := encL_len c.l hf.l
  unfold encC
  simp only [List.length_append]
  omega
/-- A struct of many cells is laid into a block of its own. -/
theorem store_box {ops : Array Oper} {rest : List Oper} {op : Oper} {a : Act} {w : World} {Q : Exit → Act → World → Prop} (T : TypeId) (hgd : op.guard = none) (x y : Operand) (ho : op.op = .store T x y)
    (g : Nat) (L : List Value) (hx : a.eval x = .pointer (some ⟨g, 0, none⟩)) (hy : a.eval y = .agg L.toArray) {cs : Array Value}
    (hg : w.heap[g]? = some (.cells cs T)) (hcs : cs.size = L.length) (hi : (Try.prog.info? T).map (·.size) = some L.length) (h1 : L.toArray.all (·.oneCell') = true)
    (h : ∀ W, W.heap[g]? = some (.cells L.toArray T) → Touch (· = g) w W → wpList Try.prog ops Q rest (a.put op.dst undef) W) : wpList Try.prog ops Q (op :: rest) a w := by
  refine wpList_store_mid hgd T x y ho g 0 _ hx hy (there_of hg (by simp [hcs])) (by rw [hi]; simp) h1 ?_
  obtain ⟨q1, q2⟩ := heap_setCells L 0 w _ hg
  rw [lay_all (by rw [hcs])] at q1
  exact h _ q1 q2
/-- A part of a message's cells. -/
theorem part_at {m : Mg} {o n : Nat} {L : List Value} (hL : L = ((mgL m).drop o).take n) : ∀ j v, L[j]? = some v → (mgL m)[o + j]? = some v := fun j v hv => by
  rw [hL, List.getElem?_take] at hv
  split at hv
  · rwa [List.getElem?_drop] at hv
  · cases hv
end Go.Proofs.Ytblmondkdcpkaaa
