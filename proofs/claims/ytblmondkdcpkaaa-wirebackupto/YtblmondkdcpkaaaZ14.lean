/-
  wire.Encode of any message, in plain words. Conditions: the message as it lies.
-/
import Derived.Test.YtblmondkdcpkaaaZ13

/-
  wire.Encode of any message, in plain words. Conditions: the message as it lies.
-/
namespace Go.Proofs.Ytblmondkdcpkaaa
open Go.RowKit
set_option linter.unusedVariables false

theorem wI_len (s : Ws) (ls : List Int) (h : ∀ x ∈ ls, I64 x) : (wX s (encL ls)).1.length ≤ s.1.length + 10 * ls.length := by
  have h1 := wX_len s (encL ls)
  have h2 := encL_len ls h
  omega
theorem wU_len (s : Ws) {n : Nat} (h : n < 18446744073709551616) : (wX s (enc n)).1.length ≤ s.1.length + 10 := by
  have h1 := wX_len s (enc n)
  have h2 := enc_len10 h
  omega
theorem wF_len (s : Ws) (q : Bool) : (wX s [q.toNat]).1.length ≤ s.1.length + 1 := wX_len s [q.toNat]
theorem rest_len {w : World} {m : Mg} (hm : MgIn w m) (s : Ws) (hE : restE m = 0) : (restS s m).1.length ≤ s.1.length + 20000000 := by
  unfold restE at hE
  unfold restS
  by_cases h1 : m.kd = 1
  · rw [if_pos h1] at hE ⊢
    have hc : cntE m.en.length = 0 := Decidable.byContradiction fun h => h ((fst0_hit hE h).symm ▸ rfl)
    have h5 := cnt_ok hc
    unfold raftS
    have a1 := wI_len s _ hm.rf
    have a2 := wF_len (wX s (encL [m.r1, m.r2, m.r3, m.r4, m.r5, m.r6, m.r7])) m.rj
    have a3 := wU_len (wX (wX s (encL [m.r1, m.r2, m.r3, m.r4, m.r5, m.r6, m.r7])) [m.rj.toNat]) (n := m.en.length) (by omega)
    have a4 := foldEn_len m.en (wX (wX (wX s (encL [m.r1, m.r2, m.r3, m.r4, m.r5, m.r6, m.r7])) [m.rj.toNat]) (enc m.en.length)) hm.ein
    have a5 := wB_len (m.en.foldl stepEn (wX (wX (wX s (encL [m.r1, m.r2, m.r3, m.r4, m.r5, m.r6, m.r7])) [m.rj.toNat]) (enc m.en.length))) m.sn
    simp only [List.length_cons, List.length_nil] at a1
    omega
  rw [if_neg h1] at hE ⊢
  by_cases h2 : m.kd = 2
  · rw [if_pos h2]
    have a1 := wI_len s _ hm.fe
    unfold fetchS
    simp only [List.length_cons, List.length_nil] at a1
    omega
  rw [if_neg h2] at hE ⊢
  by_cases h3 : m.kd = 3
  · rw [if_pos h3] at hE ⊢
    have hc : cntE m.gb.length = 0 := Decidable.byContradiction fun h => h ((fst0_hit hE h).symm ▸ rfl)
    have h5 := cnt_ok hc
    unfold fetchedS
    have a1 := wI_len s _ hm.ge
    have a2 := wF_len (wX s (encL [m.g1, m.g2, m.g3, m.g4, m.g5, m.g6, m.g7, m.g8])) m.gd
    have a3 := wU_len (wX (wX s (encL [m.g1, m.g2, m.g3, m.g4, m.g5, m.g6, m.g7, m.g8])) [m.gd.toNat]) (n := m.gb.length) (by omega)
    have a4 := foldBa_len m.gb (wX (wX (wX s (encL [m.g1, m.g2, m.g3, m.g4, m.g5, m.g6, m.g7, m.g8])) [m.gd.toNat]) (enc m.gb.length)) hm.gin
    simp only [List.length_cons, List.length_nil] at a1
    omega
  rw [if_neg h3] at hE ⊢
  by_cases h4 : m.kd = 4
  · rw [if_pos h4]
    have := wB_len s (encC m.c)
    omega
  rw [if_neg h4] at hE ⊢
  have c1 : cntE m.ms.length = 0 := Decidable.byContradiction fun h => h ((fst0_hit hE h).symm ▸ rfl)
  have e1 := fst0_pass hE c1
  have c2 : batE m.B = 0 := Decidable.byContradiction fun h => h ((fst0_hit e1 h).symm ▸ rfl)
  have e2 := fst0_pass e1 c2
  have c3 : cntE m.bs.length = 0 := Decidable.byContradiction fun h => h ((fst0_hit e2 h).symm ▸ rfl)
  have e3 := fst0_pass e2 c3
  have c4 : errs m.bs = 0 := Decidable.byContradiction fun h => h ((fst0_hit e3 h).symm ▸ rfl)
  have e4 := fst0_pass e3 c4
  have c5 : cntE m.ab.length = 0 := Decidable.byContradiction fun h => h ((fst0_hit e4 h).symm ▸ rfl)
  have d1 := cnt_ok c1
  have d3 := cnt_ok c3
  have d5 := cnt_ok c5
  unfold othersS
  have a1 := wI_len s _ hm.ot
  simp only [List.length_cons, List.length_nil] at a1
  generalize wX s (encL [m.o1, m.o2, m.o3, m.o4, m.o5, m.o6, m.o7, m.o8, m.o9]) = s1 at *
  have a2 := wU_len s1 hm.pid
  generalize wX s1 (enc m.pid) = s2 at *
  have a3 := wF_len s2 m.cm
  generalize wX s2 [m.cm.toNat] = s3 at *
  have a4 := wX_len s3 (enc m.ms.length ++ encL m.ms)
  have a4' := encL_len m.ms hm.msf
  have a4'' := enc_len10 (n := m.ms.length) (by omega)
  rw [List.length_append] at a4
  generalize wX s3 (enc m.ms.length ++ encL m.ms) = s4 at *
  have a5 := batS_len s4 m.B
  generalize batS s4 m.B = s5 at *
  have a6 := wU_len s5 (n := m.bs.length) (by omega)
  have a7 := foldBa_len m.bs (wX s5 (enc m.bs.length)) hm.bin
  generalize m.bs.foldl stepBa (wX s5 (enc m.bs.length)) = s6 at *
  have a8 := wU_len s6 (n := m.ab.length) (by omega)
  have a9 := foldAb_len m.ab (wX s6 (enc m.ab.length)) hm.ain
  omega
section
variable {w0 w : World} {N : Nat → Prop} {b : Nat} {s : Ws}
set_option maxHeartbeats 4000000 in
theorem enc1_any {m : Mg} {c mb : Nat} (h : Wq w0 N w b s) (hc : w.heap[c]? = some (.cells #[.pointer (some ⟨b, 0, none⟩)] 77)) (hmb : w.heap[mb]? = some (.cells (mgL m).toArray 41)) (hm : MgIn w0 m) (hl : s.1.length ≤ 1073741824) :
    Calls Try.prog 30 #[.pointer (some ⟨c, 0, none⟩), .pointer (some ⟨mb, 0, none⟩)] w fun e w' => WP w0 N w b (msgE m) (msgS s m) e w' := by
  have KA := hide (msg_w h hm hl)
  have HRG := hide (range_of (o := 0) (ds := mgL m) hmb (fun j v hv => by rw [Nat.zero_add]; exact hv))
  have z0 := cell_of hc 0
  simp at z0
  generalize msgE m = E at *
  generalize msgS s m = s' at *
  clear h hc hmb hm
  by_cases hz : E = 0
  · have HK := hide ((unhide KA).mono (R' := fun e w' => e = .returned (.tuple #[]) ∧ WP w0 N w b E s' e w') (fun e w' h => ⟨(h.2.1 hz).1, h⟩))
    clear KA hz
    go_enter Try.func30, Try.ntmps30
    go_wp2_with (with_reducible (show wpList _ _ _ (Oper.mk _ (Op.load _ _) _ _ _ _ :: _) _ _); refine wpList_load_mid rfl 41 (.tmp 1) rfl mb 0 rfl (mgL m) _ (unhide HRG) Try.underlying41 rfl (info_mg m) ?_)
    refine (unhide HK).mono ?_
    rintro e w4 ⟨rfl, h4⟩
    have F := hide h4
    clear h4
    go_wp2
    go_returns
    exact unhide F
  · have HK := hide ((unhide KA).mono (R' := fun e w' => e = gone E ∧ WP w0 N w b E s' e w') (fun e w' h => ⟨h.2.2 hz, h⟩))
    clear KA hz
    go_enter Try.func30, Try.ntmps30
    go_wp2_with (with_reducible (show wpList _ _ _ (Oper.mk _ (Op.load _ _) _ _ _ _ :: _) _ _); refine wpList_load_mid rfl 41 (.tmp 1) rfl mb 0 rfl (mgL m) _ (unhide HRG) Try.underlying41 rfl (info_mg m) ?_)
    refine (unhide HK).mono ?_
    rintro e w4 ⟨rfl, h4⟩
    have F := hide h4
    clear h4
    go_wp2
    exact ⟨rfl, unhide F⟩
end
/-- What Encode answers. -/
def finE (m : Mg) : Int := if msgE m ≠ 0 then msgE m else if (msgS ([], false) m).2 = true then 2 else 0
def finL (m : Mg) : List Nat := if finE m = 0 then (msgS ([], false) m).1 else []
def EnM (w : World) (E : Int) (L : List Nat) (e : Ending) (w' : World) : Prop := ∃ vo, e = .returned (.tuple #[vo, .int .i64 E]) ∧ Fresh w w' vo L
theorem Wq.wr {w0 w w' : World} {N : Nat → Prop} {b r : Nat} {s : Ws} (h : Wq w0 N w b s) (t : Touch (· = r) w w') (hr : N r) (h0 : w0.heap.size ≤ r) : (∃ v, WrAt w' b v s.1 s.2) ∧ Below w0.heap.size w0 w' := by
  obtain ⟨⟨v, h1, h2⟩, h3, h4, h5, h6⟩ := h
  have hv : WrV w (.pointer (some ⟨b, 0, none⟩)) v s.1 s.2 := .inr ⟨b, rfl, h1⟩
  refine ⟨⟨v, (hv.keep t (fun k hk e => ?_)).at⟩, below_touch h5 t h5.size (fun k hk => by omega)⟩
  subst e
  rcases hk with e | e
  · cases e; exact h3 hr
  · exact h2 _ e hr
end Go.Proofs.Ytblmondkdcpkaaa


namespace Go.Proofs.Ytblmondkdcpkaaa
open Go.RowKit
set_option linter.unusedVariables false

/-- The foreign blocks of Encode: all that there are when it tries, but the writer's own. -/
def Fo (W : World) (b k : Nat) : Prop := k < W.heap.size ∧ k ≠ b
theorem fo_wq {w W : World} {b : Nat} (h : WrAt W b (.slice none 0 0) [] false) (hb : Below w.heap.size w W) (hB : w.heap.size ≤ b) : Wq w (Fo W b) W b ([], false) :=
  ⟨⟨_, h, fun k hk => by simp [Value.ownBlock] at hk⟩, fun h => h.2 rfl, fun k hk => hk.1, hb, fun k hk => ⟨Nat.lt_of_lt_of_le hk hb.size, by omega⟩⟩
def EnR (w : World) (b : Nat) (S : Ws) (W4 : World) (u : World) : Prop := Wq w (Fo W4 b) u b S ∧ Touch (Off (Fo W4 b)) W4 u
def EnT (b : Nat) (W4 : World) (u : World) : Prop := Touch (Off (Fo W4 b)) W4 u
theorem msgE_zero {m : Mg} (h : msgE m = 0) : restE m = 0 := by
  unfold msgE at h
  by_cases hk : kndE m.kd ≠ 0
  · rw [if_pos hk] at h
    cases h
  · rw [if_neg hk] at h
    exact h
theorem enters_enc : ∀ args w, (callFunc 30 args).run Try.prog w = .ok (.enter 30 args) w := enters_of Try.func30 rfl rfl
set_option maxRecDepth 100000 in
set_option maxHeartbeats 8000000 in
theorem wencode_any {w : World} {m : Mg} (hm : MgIn w m) {E : Int} {L : List Nat} (hE : finE m = E) (hL : finL m = L) :
    Calls Try.prog 11 #[.agg (mgL m).toArray] w fun e w' => EnM w E L e w' := by
  have hmf : ∀ (fn : Fn) (first cap : Array Value) (w : World), (Instr.makeFunc fn first cap).run Try.prog w = .ok (.func fn first cap) w := fun _ _ _ _ => rfl
  have hb1 := (Below.refl w.heap.size w).alloc (Nat.le_refl _) (.cells (mgL m).toArray 41)
  have HM1 := hide (heap_new w (.cells (mgL m).toArray 41))
  have KN := hide (newwriter_any (w.alloc (.cells (mgL m).toArray 41)))
  have HB1 := hide hb1
  have HMI := hide hm
  have HE := hide hE
  have HL := hide hL
  have hs1 : (w.alloc (.cells (mgL m).toArray 41)).heap.size = w.heap.size + 1 := by simp
  clear hm hb1 hE hL
  go_enter Try.func11, Try.ntmps11
  go_upto_region 1 with fail
  generalize w.alloc (.cells (mgL m).toArray 41) = W1 at *
  go_wp2_with fail
  refine (unhide KN).mono ?_
  rintro e w2 ⟨rfl, h2, b2⟩
  rw [hs1] at h2 b2
  have bc := (Below.refl w2.heap.size w2).alloc (Nat.le_refl _) (.cells #[.pointer (some ⟨w.heap.size + 1, 0, none⟩)] 77)
  have b12 : Below w.heap.size w w2 := (unhide HB1).trans (b2.mono (by omega))
  have b13 : Below w.heap.size w (w2.alloc (.cells #[.pointer (some ⟨w.heap.size + 1, 0, none⟩)] 77)) := b12.alloc b12.size _
  have H3 := hide ((WrV.later (.inr ⟨_, rfl, h2⟩ : WrV w2 (.pointer (some ⟨w.heap.size + 1, 0, none⟩)) (.slice none 0 0) [] false) bc).at)
  have HC := hide (heap_new w2 (.cells #[.pointer (some ⟨w.heap.size + 1, 0, none⟩)] 77))
  have HMB := hide (below_keep bc (below_keep (b2.mono (by omega)) (unhide HM1)))
  have hc2 : w.heap.size + 1 < w2.heap.size := lt_of_heap h2.heap
  have B13 := hide b13
  rw [hs1]
  clear h2 b2 bc b12 b13 KN HM1
  go_upto_region 2 with fail
  generalize w2.alloc (.cells #[.pointer (some ⟨w.heap.size + 1, 0, none⟩)] 77) = W3 at *
  generalize w2.heap.size = c at *
  have hw3 : c < W3.heap.size := lt_of_heap (unhide HC)
  -- the world in which it is tried
  have b4 := (Below.refl W3.heap.size W3).alloc (Nat.le_refl _) (.cells #[.int .i64 0] 22)
  have b14 : Below w.heap.size w (W3.alloc (.cells #[.int .i64 0] 22)) := (unhide B13).alloc (unhide B13).size _
  have h4 := (WrV.later (.inr ⟨_, rfl, unhide H3⟩ : WrV W3 (.pointer (some ⟨w.heap.size + 1, 0, none⟩)) (.slice none 0 0) [] false) b4).at
  have Q4 := fo_wq h4 b14 (by omega)
  have HR4 := heap_new W3 (.cells #[.int .i64 0] 22)
  have KT := enc1_any (c := c) (mb := w.heap.size) Q4 (below_keep b4 (unhide HC)) (below_keep b4 (unhide HMB)) (unhide HMI) (by simp)
  have hz4 : (W3.alloc (.cells #[.int .i64 0] 22)).heap.size = W3.heap.size + 1 := by simp
  generalize hW4 : W3.alloc (.cells #[.int .i64 0] 22) = W4 at *
  have FR : Fo W4 (w.heap.size + 1) W3.heap.size := ⟨by omega, by omega⟩
  have FC : Fo W4 (w.heap.size + 1) c := ⟨by omega, by omega⟩
  by_cases hz : msgE m = 0
  · have KO : Calls Try.prog 29 #[.func (.func 30) #[] #[.pointer (some ⟨c, 0, none⟩), .pointer (some ⟨w.heap.size, 0, none⟩)]] W3 fun e w' => TD 0 (EnR w (w.heap.size + 1) (msgS ([], false) m) W4) W3.heap.size e w' :=
      tried_ok enters_enc (by rw [hW4]; exact KT.mono fun e w' h => ⟨(h.2.1 hz).1, h.1.keep HR4 (fun hn => hn FR), (h.2.1 hz).2, h.1⟩)
    have HKO := hide KO
    have hln : (msgS ([], false) m).1.length ≤ 30000000 := by
      have h9 := rest_len (unhide HMI) (headS ([], false) m) (msgE_zero hz)
      have h8 := wI_len ([], false) _ (unhide HMI).hd
      have h7 : (headS ([], false) m).1.length ≤ 50 := by
        unfold headS
        simp only [List.length_cons, List.length_nil] at h8
        omega
      unfold msgS
      omega
    have eF : finE m = if (msgS ([], false) m).2 = true then 2 else 0 := by unfold finE; rw [if_neg (by omega)]
    have HEF : Hid (E = if (msgS ([], false) m).2 = true then 2 else 0) := hide (by rw [← unhide HE, eF])
    have HLF : Hid (L = if E = 0 then (msgS ([], false) m).1 else []) := hide (by rw [← unhide HL, ← unhide HE]; rfl)
    have HC4 := hide (below_keep b4 (unhide HC))
    have HFC := hide FC
    have HFR := hide FR
    clear KO KT Q4 HR4 hz eF h4 b4 b14 FC FR hW4
    generalize hS : msgS ([], false) m = S at *
    clear hS
    go_wp2_with fail
    refine (unhide HKO).mono ?_
    rintro e w5 ⟨rfl, u, ⟨q5, t5⟩, t6⟩
    have C5 := hide (t6.keep (t5.keep (unhide HC4) (fun hn => hn (unhide HFC))) (by omega))
    have QW := hide (q5.wr t6 (unhide HFR) (by have := (unhide B13).size; omega))
    clear q5 t5 t6 HKO
    obtain ⟨⟨v, hv⟩, bw⟩ := unhide QW
    have HV := hide hv
    have BW := hide bw
    clear hv bw QW
    have c0 := cell_of (unhide C5) 0
    simp at c0
    obtain ⟨l, lg⟩ := S
    simp only at HEF HLF HV hln
    cases lg with
    | true =>
      have e2 : E = 2 := by rw [unhide HEF]; rfl
      have e3 : L = [] := by rw [unhide HLF, e2]; rfl
      subst e2 e3
      have KO := hide (out_long (w.heap.size + 1) v l w5 (unhide HV))
      go_wp2_with fail
      refine (unhide KO).mono ?_
      rintro e w6 ⟨rfl, rfl⟩
      go_wp2
      go_returns
      exact ⟨_, rfl, Row.nil _, New.nil _, unhide BW⟩
    | false =>
      have e2 : E = 0 := by rw [unhide HEF]; rfl
      have e3 : L = l := by rw [unhide HLF, e2]; rfl
      subst e2 e3
      have KO := hide (out_any (w.heap.size + 1) v L w5 (unhide HV) (by omega))
      go_wp2_with fail
      refine (unhide KO).mono ?_
      rintro e w6 ⟨vo, rfl, r6, n6, b6⟩
      have FF : Hid (Fresh w w6 vo L) := hide ⟨r6, n6.mono (unhide BW).size, (unhide BW).trans (b6.mono (unhide BW).size)⟩
      obtain ⟨ao, no, co, e9⟩ := r6.shape
      subst e9
      clear r6 n6 b6
      go_wp2
      go_returns
      exact ⟨_, rfl, unhide FF⟩
  · have KO : Calls Try.prog 29 #[.func (.func 30) #[] #[.pointer (some ⟨c, 0, none⟩), .pointer (some ⟨w.heap.size, 0, none⟩)]] W3 fun e w' => TD (msgE m) (EnT (w.heap.size + 1) W4) W3.heap.size e w' :=
      tried_no enters_enc (by rw [hW4]; exact KT.mono fun e w' h => ⟨h.2.2 hz, h.1.keep HR4 (fun hn => hn FR), h.1⟩)
    have HKO := hide KO
    have eF : E = msgE m := by rw [← unhide HE]; unfold finE; rw [if_pos hz]
    have eL : L = [] := by rw [← unhide HL]; unfold finL; rw [if_neg]; rw [unhide HE, eF]; exact hz
    rw [← eF] at HKO hz
    subst eL
    have hzb : (E == 0) = false := beq_eq_false_iff_ne.2 hz
    have B14 := hide b14
    clear KO KT Q4 HR4 eF h4 b4 b14 FC FR hW4
    go_wp2_with fail
    refine (unhide HKO).mono ?_
    rintro e w5 ⟨rfl, u, t5, t6⟩
    have BW : Hid (Below w.heap.size w w5) := hide (below_touch (below_touch (unhide B14) t5 (unhide B14).size (fun k hk => Nat.le_of_not_lt (fun h => hk ⟨Nat.lt_of_lt_of_le h (unhide B14).size, by omega⟩))) t6 (by have := (unhide B14).size; have := t5.size; omega) (fun k hk => by have := (unhide B13).size; omega))
    clear t5 t6 HKO
    go_wp2
    go_returns
    exact ⟨_, rfl, Row.nil _, New.nil _, unhide BW⟩
end Go.Proofs.Ytblmondkdcpkaaa
