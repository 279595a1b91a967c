/-
  Commands as bytes: Encode and the document's, in plain words. Conditions: the numbers are those of their type.
-/
import Derived.Test.YtblmondkdcpkaaaZ10
import Derived.Deep.CutBlock
import Derived.Test.YtblmondkdcpkaaaZ05

namespace Go.Proofs.Ytblmondkdcpkaaa
open Go.RowKit
set_option linter.unusedVariables false

structure CFit (c : Cm) : Prop where
  kd : I64 c.kd
  nd : I64 c.nd
  pt : I64 c.pt
  ep : I64 c.ep
  ve : I64 c.ve
  l : ∀ x ∈ c.l, -9223372036854775808 ≤ x ∧ x < 9223372036854775808
def encC (c : Cm) : List Nat := ((((enc (zig c.kd) ++ enc (zig c.nd)) ++ enc (zig c.pt)) ++ enc (zig c.ep)) ++ enc (zig c.ve)) ++ (enc c.l.length ++ encL c.l)
theorem isC_few {c : Cm} (h : isC c = true) : c.l.length ≤ 5 := by
  unfold isC at h
  simp only [Bool.and_eq_true, decide_eq_true_eq] at h
  exact h.2
def EnC (w : World) (E : Int) (l : List Nat) (e : Ending) (w' : World) : Prop := ∃ vo, e = .returned (.tuple #[vo, .int .i64 E]) ∧ Fresh w w' vo l
theorem ints_c {w0 w : World} {b : Nat} {v : Value} {l : List Nat} (ao : Option Addr) (c : Nat) (ls : List Int) (h : Wc w0 w b v l) (hb : IAt w0 ao ls) (hf : ∀ x ∈ ls, -9223372036854775808 ≤ x ∧ x < 9223372036854775808) (hls : ls.length ≤ 5) (hlen : l.length ≤ 1000) :
    Calls Try.prog 67 #[.pointer (some ⟨b, 0, none⟩), .slice ao ls.length c] w fun e w' => e = .returned (.tuple #[]) ∧ ∃ v', Wc w0 w' b v' (l ++ (enc ls.length ++ encL ls)) :=
  (wints_any _ v l false ao c ls w h.v (hb.later h.below) (fun h0 x hx hm => by
    have := h.mine _ hm
    obtain ⟨b', off, e, hlt, _⟩ := hb 0 h0
    rw [hx] at e
    cases e
    simp only at this
    omega) hf (by omega) (.inl (by omega))).mono fun _ _ ⟨he, v', hw, st⟩ => ⟨he, v', h.step hw st⟩
set_option maxHeartbeats 4000000 in
theorem encode_bad {w : World} {c : Cm} (hc : CIn w c) (hC : isC c = false) :
    Calls Try.prog 64 #[.agg (cmA c)] w fun e w' => EnC w 1 [] e w' := by
  have b0 := (Below.refl w.heap.size w).alloc (Nat.le_refl _) (.cells (cmA c) 34)
  have K := isCmd_any (w.alloc (.cells (cmA c) 34)) c hc.len
  rw [hC] at K
  have B0 := hide b0
  have HK := hide K
  obtain ⟨kd, nd, pt, ep, ve, a, k, l⟩ := c
  clear b0 K hc hC
  unfold cmA at *
  simp only at *
  generalize l.length = n at *
  go_enter Try.func64, Try.ntmps64
  go_wp2_with (go_at_call 86; refine (unhide HK).mono ?_; rintro e w1 ⟨rfl, b1⟩; have B1 := hide ((unhide B0).trans (b1.mono (unhide B0).size)); clear b1)
  go_returns
  exact ⟨_, rfl, Row.nil _, New.nil _, unhide B1⟩
set_option maxHeartbeats 4000000 in
theorem encode_ok {w : World} {c : Cm} (hc : CIn w c) (hf : CFit c) (hC : isC c = true) :
    Calls Try.prog 64 #[.agg (cmA c)] w fun e w' => EnC w 0 (encC c) e w' := by
  have h5 := isC_few hC
  have b0 := (Below.refl w.heap.size w).alloc (Nat.le_refl _) (.cells (cmA c) 34)
  have K := isCmd_any (w.alloc (.cells (cmA c) 34)) c hc.len
  rw [hC] at K
  have LI := hide (hc.li.later b0)
  have B0 := hide b0
  have HK := hide K
  have HF := hide hf
  have EC : Hid (encC c = encC c) := hide rfl
  unfold encC at EC
  obtain ⟨kd, nd, pt, ep, ve, a, k, l⟩ := c
  clear b0 K hc hC hf
  unfold cmA at *
  simp only at *
  have l0 := enc_len10 (zig_lt (unhide HF).kd.1 (unhide HF).kd.2)
  have l1 := enc_len10 (zig_lt (unhide HF).nd.1 (unhide HF).nd.2)
  have l2 := enc_len10 (zig_lt (unhide HF).pt.1 (unhide HF).pt.2)
  have l3 := enc_len10 (zig_lt (unhide HF).ep.1 (unhide HF).ep.2)
  have l4 := enc_len10 (zig_lt (unhide HF).ve.1 (unhide HF).ve.2)
  simp only at l0 l1 l2 l3 l4
  have HBX := hide (box6 w kd nd pt ep ve (.slice a l.length k) 34)
  go_enter Try.func64, Try.ntmps64
  go_wp2_with fail
  refine (unhide HK).mono ?_
  rintro e w1 ⟨rfl, b1⟩
  have B1 := hide ((unhide B0).trans (b1.mono (unhide B0).size))
  have HX := hide (below_keep b1 (unhide HBX))
  have L1 := hide ((unhide LI).later b1)
  clear b1 B0 HBX LI HK
  go_wp2_with fail
  refine (new_c w1).mono ?_
  rintro e x0 ⟨rfl, c0⟩
  have C0 := hide c0
  clear c0
  have hlt : w.heap.size < w1.heap.size := lt_of_heap (unhide HX)
  have k0 := cell_of (below_keep (unhide C0).below (unhide HX)) 0
  simp at k0
  go_wp2_with fail
  refine (int_c kd (unhide C0) (unhide HF).kd.1 (unhide HF).kd.2 (by first | (simp; done) | (simp only [List.length_append, List.length_nil]; omega))).mono ?_
  rintro e x1 ⟨rfl, v1, c1⟩
  have C1 := hide c1
  clear c1 k0
  have k1 := cell_of (below_keep (unhide C1).below (unhide HX)) 1
  simp at k1
  go_wp2_with fail
  refine (int_c nd (unhide C1) (unhide HF).nd.1 (unhide HF).nd.2 (by first | (simp; done) | (simp only [List.length_append, List.length_nil]; omega))).mono ?_
  rintro e x2 ⟨rfl, v2, c2⟩
  have C2 := hide c2
  clear c2 k1
  have k2 := cell_of (below_keep (unhide C2).below (unhide HX)) 2
  simp at k2
  go_wp2_with fail
  refine (int_c pt (unhide C2) (unhide HF).pt.1 (unhide HF).pt.2 (by first | (simp; done) | (simp only [List.length_append, List.length_nil]; omega))).mono ?_
  rintro e x3 ⟨rfl, v3, c3⟩
  have C3 := hide c3
  clear c3 k2
  have k3 := cell_of (below_keep (unhide C3).below (unhide HX)) 3
  simp at k3
  go_wp2_with fail
  refine (int_c ep (unhide C3) (unhide HF).ep.1 (unhide HF).ep.2 (by first | (simp; done) | (simp only [List.length_append, List.length_nil]; omega))).mono ?_
  rintro e x4 ⟨rfl, v4, c4⟩
  have C4 := hide c4
  clear c4 k3
  have k4 := cell_of (below_keep (unhide C4).below (unhide HX)) 4
  simp at k4
  go_wp2_with fail
  refine (int_c ve (unhide C4) (unhide HF).ve.1 (unhide HF).ve.2 (by first | (simp; done) | (simp only [List.length_append, List.length_nil]; omega))).mono ?_
  rintro e x5 ⟨rfl, v5, c5⟩
  have C5 := hide c5
  clear c5 k4
  have k5 := cell_of (below_keep (unhide C5).below (unhide HX)) 5
  simp at k5
  go_wp2_with fail
  refine (ints_c a k l (unhide C5) (unhide L1) (unhide HF).l h5 (by simp only [List.length_append, List.length_nil]; omega)).mono ?_
  rintro e x6 ⟨rfl, v6, c6⟩
  have C6 := hide c6
  clear c6 k5
  have l5 := enc_len10 (n := l.length) (by omega)
  have l6 := encL_len l (unhide HF).l
  go_wp2_with fail
  refine (out_c (unhide C6) (by simp only [List.length_append, List.length_nil]; omega)).mono ?_
  rintro e x7 ⟨vo, rfl, q1, q2, q3, q4⟩
  have Q2 := hide q2
  have Q3 := hide q3
  have Q4 := hide q4
  clear q1 q2 q3 q4
  obtain ⟨ao, no, co, rfl⟩ := (unhide Q2).shape
  go_wp2
  go_returns
  have b6 := (unhide B1).trans ((unhide C6).below.mono (unhide B1).size)
  refine ⟨_, rfl, ?_, (unhide Q3).mono b6.size, b6.trans ((unhide Q4).mono b6.size)⟩
  have := unhide Q2
  simp only [List.nil_append] at this
  exact this
set_option maxHeartbeats 4000000 in
theorem docencode_bad {w : World} {c : Cm} (hc : CIn w c) (hC : isC c = false) :
    Calls Try.prog 23 #[.agg (cmA c)] w fun e w' => EnC w 1 [] e w' := by
  have hl := hc.len
  obtain ⟨kd, nd, pt, ep, ve, a, k, l⟩ := c
  have B0 := hide ((Below.refl w.heap.size w).alloc (Nat.le_refl _) (.cells #[.int .i64 kd, .int .i64 nd, .int .i64 pt, .int .i64 ep, .int .i64 ve, .slice a l.length k] 34))
  have hc3 : kd < 1 ∨ (1 ≤ kd ∧ 5 < kd) ∨ (1 ≤ kd ∧ kd ≤ 5 ∧ 5 < l.length) := by
    unfold isC at hC
    simp only [Bool.and_eq_false_iff, decide_eq_false_iff_not] at hC
    omega
  clear hc hC
  unfold cmA
  simp only at hl ⊢
  have hb : l.length ≤ 9223372036854775807 := by unfold maxLen at hl; omega
  clear hl
  generalize l.length = n at *
  rcases hc3 with h1 | ⟨h1, h2⟩ | ⟨h1, h2, h3⟩
  · go_enter Try.func23, Try.ntmps23
    go_wp2
    go_returns
    exact ⟨_, rfl, Row.nil _, New.nil _, unhide B0⟩
  · have h1' : ¬ kd < 1 := by omega
    go_enter Try.func23, Try.ntmps23
    go_wp2
    go_returns
    exact ⟨_, rfl, Row.nil _, New.nil _, unhide B0⟩
  · have h1' : ¬ kd < 1 := by omega
    have h2' : ¬ 5 < kd := by omega
    have h3' : (5 : Int) < (n : Int) := by omega
    go_enter Try.func23, Try.ntmps23
    go_wp2
    go_returns
    exact ⟨_, rfl, Row.nil _, New.nil _, unhide B0⟩
def five (c : Cm) : List Int := [c.kd, c.nd, c.pt, c.ep, c.ve]
theorem five_at {c : Cm} (hf : CFit c) {i : Nat} (hi : i < 5) : I64 ((five c).getD i 0) := by
  have : i = 0 ∨ i = 1 ∨ i = 2 ∨ i = 3 ∨ i = 4 := by omega
  rcases this with rfl | rfl | rfl | rfl | rfl
  · exact hf.kd
  · exact hf.nd
  · exact hf.pt
  · exact hf.ep
  · exact hf.ve
theorem encL_snoc (l : List Int) (x : Int) : encL (l ++ [x]) = encL l ++ enc (zig x) := by simp [encL]
theorem encC_five (c : Cm) : encL (five c) ++ (enc c.l.length ++ encL c.l) = encC c := by simp [encC, encL, five]
theorem five_take {c : Cm} {i : Nat} (hi : i < 5) : encL ((five c).take (i + 1)) = encL ((five c).take i) ++ enc (zig ((five c).getD i 0)) := by
  rw [take_snoc (by simpa [five] using hi), encL_snoc]
theorem encL_few (l : List Int) (h : ∀ x ∈ l, I64 x) (h5 : l.length ≤ 5) : (encL l).length ≤ 50 := by
  have := encL_len l h
  omega
set_option maxHeartbeats 4000000 in
theorem docencode_ok {w : World} {c : Cm} (hc : CIn w c) (hf : CFit c) (hC : isC c = true) :
    Calls Try.prog 23 #[.agg (cmA c)] w fun e w' => EnC w 0 (encC c) e w' := by
  have h5 := isC_few hC
  have HF := hide hf
  have H5 := hide (fun (i : Nat) (hi : i < 5) => five_at hf hi)
  have HT := hide (fun (i : Nat) (hi : i < 5) => five_take (c := c) hi)
  have HL := hide (fun (i : Nat) => encL_few ((five c).take i) (fun x hx => by
    have hm := List.mem_of_mem_take hx
    simp only [five, List.mem_cons, List.not_mem_nil, or_false] at hm
    rcases hm with rfl | rfl | rfl | rfl | rfl
    · exact hf.kd
    · exact hf.nd
    · exact hf.pt
    · exact hf.ep
    · exact hf.ve) (by rw [List.length_take]; simp [five]; omega))
  have HE := hide (encC_five c)
  have hkk : 1 ≤ c.kd ∧ c.kd ≤ 5 := by
    unfold isC at hC
    simp only [Bool.and_eq_true, decide_eq_true_eq] at hC
    exact hC.1
  have LI := hide (hc.li)
  have FV : Hid (five c = [c.kd, c.nd, c.pt, c.ep, c.ve]) := hide rfl
  generalize five c = V at *
  generalize encC c = EC at *
  obtain ⟨kd, nd, pt, ep, ve, a, k, l⟩ := c
  have HBX := hide (box6 w kd nd pt ep ve (.slice a l.length k) 34)
  have b0 := (Below.refl w.heap.size w).alloc (Nat.le_refl _) (.cells #[.int .i64 kd, .int .i64 nd, .int .i64 pt, .int .i64 ep, .int .i64 ve, .slice a l.length k] 34)
  have B0 := hide b0
  unfold cmA
  simp only at h5 hkk FV HE LI ⊢
  have h1' : ¬ kd < 1 := by omega
  have h2' : ¬ 5 < kd := by omega
  have h3' : ¬ (5 : Int) < (l.length : Int) := by omega
  clear hc hC hf hkk b0
  go_enter Try.func23, Try.ntmps23
  go_wp2_with fail
  have VA : Hid (IAt ((w.alloc (.cells #[.int .i64 kd, .int .i64 nd, .int .i64 pt, .int .i64 ep, .int .i64 ve, .slice a l.length k] 34)).alloc (.cells #[.int .i64 kd, .int .i64 nd, .int .i64 pt, .int .i64 ep, .int .i64 ve] 3)) (some ⟨w.heap.size + 1, 0, none⟩) V) := hide (by
    rw [unhide FV]
    intro i hi
    have hn := heap_new (w.alloc (.cells #[.int .i64 kd, .int .i64 nd, .int .i64 pt, .int .i64 ep, .int .i64 ve, .slice a l.length k] 34)) (.cells #[.int .i64 kd, .int .i64 nd, .int .i64 pt, .int .i64 ep, .int .i64 ve] 3)
    have e1 : (w.alloc (.cells #[.int .i64 kd, .int .i64 nd, .int .i64 pt, .int .i64 ep, .int .i64 ve, .slice a l.length k] 34)).heap.size = w.heap.size + 1 := by simp
    rw [e1] at hn
    refine ⟨w.heap.size + 1, 0, rfl, lt_of_heap hn, ?_⟩
    rw [Nat.zero_add, cell_of hn]
    have hi' : i < 5 := by simpa using hi
    have : i = 0 ∨ i = 1 ∨ i = 2 ∨ i = 3 ∨ i = 4 := by omega
    rcases this with rfl | rfl | rfl | rfl | rfl <;> rfl)
  have B1 := hide ((unhide B0).alloc (unhide B0).size (.cells #[.int .i64 kd, .int .i64 nd, .int .i64 pt, .int .i64 ep, .int .i64 ve] 3))
  have HX := hide (heap_old (.cells #[.int .i64 kd, .int .i64 nd, .int .i64 pt, .int .i64 ep, .int .i64 ve] 3) (unhide HBX))
  generalize (w.alloc (.cells #[.int .i64 kd, .int .i64 nd, .int .i64 pt, .int .i64 ep, .int .i64 ve, .slice a l.length k] 34)).alloc (.cells #[.int .i64 kd, .int .i64 nd, .int .i64 pt, .int .i64 ep, .int .i64 ve] 3) = X at *
  have VL : Hid (V.length = 5) := hide (by rw [unhide FV]; rfl)
  clear B0 HBX FV
  go_loopg [4, 6, 33] 5 (fun gg s4 _ s33 wr => ∃ i : Nat, i ≤ 5 ∧ 5 - i ≤ gg ∧ s33 = .int .i64 i ∧ Hid (Fresh X wr s4 (encL (V.take i))))
  case atStart => exact ⟨0, Nat.zero_le _, by omega, rfl, hide ⟨Row.nil _, New.nil _, Below.refl _ _⟩⟩
  case round =>
    obtain ⟨i, hi, hg, rfl, T⟩ := hrel
    by_cases hlt : i < 5
    · have hltz : (i : Int) < 5 := by omega
      obtain ⟨b', off', ea, hbl, hcell⟩ := ((unhide VA).later (unhide T).2.2) i (by rw [unhide VL]; exact hlt)
      cases ea
      simp only [Nat.zero_add] at hcell
      have KI := hide (eint_any (V.getD i 0) wr (unhide H5 i hlt).1 (unhide H5 i hlt).2)
      have TL := unhide HL i
      have TT := hide (unhide HT i hlt)
      have l0 := enc_len10 (zig_lt (unhide H5 i hlt).1 (unhide H5 i hlt).2)
      obtain ⟨az, nz, cz, es⟩ := (unhide T).1.shape
      subst es
      generalize V.getD i 0 = y at *
      generalize encL (V.take i) = L at *
      generalize enc (zig y) = Y at *
      go_wp2_with (first
        | (go_at_call 17; refine (unhide KI).mono ?_; rintro e w2 ⟨v2, rfl, f2⟩; obtain ⟨a2, c2, rfl, q2, _, _, z2, _⟩ := f2.1.parts; have R2 := hide ((unhide T).1.later f2.2.2); have Q2 := hide q2; have B2 := hide f2.2.2; clear f2 q2)
        | (at_builtin; refine wpList_row _ rfl (.tmp 37) (.tmp 39) rfl _ L rfl (unhide R2) a2 c2 Y rfl (unhide Q2) z2 (by omega) ?_; intro v3 w3 r3 t3 m3; have F3 := hide (fresh_app (unhide T) (unhide B2) r3 t3 m3); obtain ⟨a3, n3, c3, e3⟩ := r3.shape; subst e3; clear r3 t3 m3))
      go_roundg (5 - (i + 1))
      case measure => omega
      case rel => exact ⟨i + 1, by omega, by omega, congrArg (Value.int .i64) (by omega), by rw [unhide TT]; exact F3⟩
    · have hltz : ¬ (i : Int) < 5 := by omega
      have e : i = 5 := by omega
      have T5 := unhide T
      rw [e, ← unhide VL, List.take_length] at T5
      have T6 := hide T5
      have TL := unhide HL 5
      rw [← unhide VL, List.take_length] at TL
      clear T T5 e
      obtain ⟨az, nz, cz, es⟩ := (unhide T6).1.shape
      subst es
      have k5 := cell_of (below_keep (unhide T6).2.2 (unhide HX)) 5
      simp at k5
      have KL := hide (eints_any a k l wr ((unhide LI).later ((unhide B1).trans ((unhide T6).2.2.mono (unhide B1).size))) (unhide HF).l (by omega))
      have l5 := enc_len10 (n := l.length) (by omega)
      have l6 := encL_len l (unhide HF).l
      generalize encL V = L at *
      have l7 : (enc l.length ++ encL l).length ≤ 60 := by rw [List.length_append]; omega
      generalize enc l.length ++ encL l = Y at *
      go_wp2_with (first
        | (go_at_call 26; refine (unhide KL).mono ?_; rintro e w2 ⟨v2, rfl, f2⟩; obtain ⟨a2, c2, rfl, q2, _, _, z2, _⟩ := f2.1.parts; have R2 := hide ((unhide T6).1.later f2.2.2); have Q2 := hide q2; have B2 := hide f2.2.2; clear f2 q2)
        | (at_builtin; refine wpList_row _ rfl (.tmp 42) (.tmp 45) rfl _ L rfl (unhide R2) a2 c2 Y rfl (unhide Q2) z2 (by omega) ?_; intro v3 w3 r3 t3 m3; have F3 := hide (fresh_app (unhide T6) (unhide B2) r3 t3 m3); obtain ⟨a3, n3, c3, e3⟩ := r3.shape; subst e3; clear r3 t3 m3))
      go_returns
      obtain ⟨q1, q2, q3⟩ := unhide F3
      refine ⟨_, rfl, by rw [← unhide HE]; exact q1, q2.mono (unhide B1).size, (unhide B1).trans (q3.mono (unhide B1).size)⟩
end Go.Proofs.Ytblmondkdcpkaaa
