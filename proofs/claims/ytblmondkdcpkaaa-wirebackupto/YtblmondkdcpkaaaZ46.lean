/-
  penstockref17.SameMsg of two messages that have bytes: true just where these are alike. Conditions: the messages as they lie, their lists and pieces at most 2^20 long.
-/
import Derived.Test.YtblmondkdcpkaaaZ21
import Derived.Test.YtblmondkdcpkaaaZ42
import Derived.Test.YtblmondkdcpkaaaZ30

/-
  penstockref03's Same and penstockref07's Same at any two: true just where both are alike. Conditions: lengths are below 2^63.
-/
namespace Go.Proofs.Ytblmondkdcpkaaa
open Go.RowKit
set_option linter.unusedVariables false

theorem list_eq_of {l m : List Nat} (hn : l.length = m.length) (h : ∀ j, j < l.length → l.getD j 0 = m.getD j 0) : l = m := by
  apply List.ext_getElem hn
  intro i h1 h2
  have := h i h1
  simpa [List.getD, h1, h2] using this
theorem vlist_eq_of {l m : List (List Nat)} (hn : l.length = m.length) (h : ∀ j, j < l.length → l.getD j [] = m.getD j []) : l = m := by
  apply List.ext_getElem hn
  intro i h1 h2
  have := h i h1
  simpa [List.getD, h1, h2] using this
def SameP (w : World) (p : Prop) (e : Ending) (w' : World) : Prop := ∃ (q : Bool) (n : Nat), e = .returned (.bool q) ∧ (q = true ↔ p) ∧ w' = w.drewN n
theorem SameP.mk {w : World} {p : Prop} {q : Bool} {n : Nat} (h : q = true ↔ p) : SameP w p (.returned (.bool q)) (w.drewN n) := ⟨q, n, rfl, h, rfl⟩
theorem iff_no {p : Prop} (h : ¬ p) : (false = true ↔ p) := ⟨(fun e => by cases e), fun e => absurd e h⟩
theorem iff_yes {p : Prop} (h : p) : (true = true ↔ p) := ⟨fun _ => h, fun _ => rfl⟩

set_option maxRecDepth 100000 in
set_option maxHeartbeats 2000000 in
theorem same_gen (w : World) (a c : Option Addr) (ca cc : Nat) (l m : List Nat) (ha : LAt w a l) (hc : LAt w c m) (hl : l.length ≤ 9223372036854775807) :
    Calls Try.prog 12 #[.slice a l.length ca, .slice c m.length cc] w fun e w' => SameP w (l = m) e w' := by
  have HA := hide ha
  have HC := hide hc
  clear ha hc
  by_cases hlen : l.length = m.length
  · have LE := hide (list_eq_of hlen)
    have HL := hide hlen
    have HC2 : Hid (BytesAt w c l.length (fun i => m.getD i 0)) := by rw [hlen]; exact unhide HC
    rw [← hlen]
    clear hlen HC
    go_enter Try.func12, Try.ntmps12
    go_wp2_with fail
    go_loopw [5] (fun i wr => ∃ k n : Nat, k ≤ l.length ∧ i = .int .i64 k ∧ wr = w.drewN n ∧ ∀ j, j < k → l.getD j 0 = m.getD j 0) (fun i _ => l.length - (intOf i).toNat)
    case atStart => exact ⟨0, 0, Nat.zero_le _, rfl, rfl, fun j hj => by omega⟩
    case round =>
      obtain ⟨k, n, hk, rfl, rfl, hall⟩ := hrel
      have ALL := hide hall
      clear hall
      by_cases h8 : k < l.length
      · obtain ⟨b1, o1, rfl, _, e1, _⟩ := (unhide HA).cell h8
        obtain ⟨b2, o2, rfl, _, e2, _⟩ := (unhide HC2) k h8
        simp only at e2
        have h8' : (k : Int) < (l.length : Int) := by omega
        by_cases hx : l.getD k 0 = m.getD k 0
        · have ALL2 : Hid (∀ j, j < k + 1 → l.getD j 0 = m.getD j 0) := fun j hj => by
            by_cases e : j = k
            · subst e; exact hx
            · exact unhide ALL j (by omega)
          rw [hx] at e1
          clear hx
          generalize m.getD k 0 = x at *
          go_wp2_with fail
          go_quiet (fail)
          go_wp2
          go_roundw
          case rel => exact ⟨k + 1, n + nq, by omega, by go_num, by simp, unhide ALL2⟩
          case measure => simp [intOf]; omega
        · have NE : Hid (¬ l = m) := fun e => hx (by rw [e])
          generalize l.getD k 0 = x at *
          generalize m.getD k 0 = y at *
          have hxy : ¬ (x : Int) = (y : Int) := by omega
          go_wp2_with fail
          go_quiet (fail)
          go_wp2
          go_returns
          refine ⟨_, n + nq, rfl, ?_, by simp⟩
          exact iff_no (unhide NE)
      · obtain rfl : k = l.length := by omega
        have EQ := hide (unhide LE (unhide ALL))
        go_wp2
        go_returns
        exact SameP.mk (iff_yes (unhide EQ))
  · have NE : Hid (¬ l = m) := fun e => hlen (by rw [e])
    have hlen' : ¬ (l.length : Int) = (m.length : Int) := by omega
    clear HA HC hlen
    generalize l.length = x at *
    generalize m.length = y at *
    go_enter Try.func12, Try.ntmps12
    go_wp2
    go_returns
    exact ⟨_, 0, rfl, iff_no (unhide NE), rfl⟩

end Go.Proofs.Ytblmondkdcpkaaa


namespace Go.Proofs.Ytblmondkdcpkaaa
open Go.RowKit
set_option linter.unusedVariables false

theorem boxes2 (w : World) (A B : Array Value) : Below w.heap.size w ((w.alloc (.cells A 41)).alloc (.cells B 41)) ∧ ((w.alloc (.cells A 41)).alloc (.cells B 41)).heap[w.heap.size]? = some (.cells A 41) ∧ ((w.alloc (.cells A 41)).alloc (.cells B 41)).heap[w.heap.size + 1]? = some (.cells B 41) := by
  have hz : (w.alloc (.cells A 41)).heap.size = w.heap.size + 1 := by simp
  have h := heap_new (w.alloc (.cells A 41)) (.cells B 41)
  rw [hz] at h
  exact ⟨((Below.refl w.heap.size w).alloc (Nat.le_refl _) _).alloc (by simp) _, heap_old _ (heap_new w _), h⟩
def SgP (w : World) (p : Prop) (e : Ending) (w' : World) : Prop := ∃ q : Bool, e = .returned (.bool q) ∧ (q = true ↔ p) ∧ Below w.heap.size w w'
set_option maxRecDepth 100000 in
set_option maxHeartbeats 8000000 in
theorem samemsg17 (DOC : DocAll) {w : World} {a b : Mg} (ha : MgIn w a) (sa : MgS a) (hb : MgIn w b) (sb : MgS b) (hE : finE a = 0) (hF : finE b = 0) :
    Calls Try.prog 14 #[.agg (mgL a).toArray, .agg (mgL b).toArray] w fun e w' => SgP w (finL a = finL b) e w' := by
  obtain ⟨b0, h1, h2⟩ := boxes2 w (mgL a).toArray (mgL b).toArray
  have KD : Hid (∀ W, Below w.heap.size w W → Calls Try.prog 9 #[.agg (mgL a).toArray] W fun e w' => EnM W 0 (finL a) e w') := hide (fun W hW => by have := DOC (ha.later hW) sa; rw [hE] at this; exact this)
  have KE : Hid (∀ W, Below w.heap.size w W → Calls Try.prog 9 #[.agg (mgL b).toArray] W fun e w' => EnM W 0 (finL b) e w') := hide (fun W hW => by have := DOC (hb.later hW) sb; rw [hF] at this; exact this)
  have HLN := hide (fin_len ha hE).2
  have HIA := hide (info_mg a)
  have HIB := hide (info_mg b)
  have B0 := hide b0
  have HA := hide h1
  have HB := hide h2
  have RG : Hid (∀ (m : Mg) (k : Nat) (W : World), W.heap[k]? = some (.cells (mgL m).toArray 41) → W.rangeAt k 0 (mgL m)) := hide (fun m k W h => range_of (o := 0) (ds := mgL m) h (fun j v hv => by rw [Nat.zero_add]; exact hv))
  clear ha sa hb sb hE hF b0 h1 h2 DOC
  go_enter Try.func14, Try.ntmps14
  go_upto_region 1 with fail
  change Code.wp _ _ _ _ ((w.alloc (.cells (mgL a).toArray 41)).alloc (.cells (mgL b).toArray 41))
  generalize (w.alloc (.cells (mgL a).toArray 41)).alloc (.cells (mgL b).toArray 41) = W2 at *
  have RA := hide (unhide RG a w.heap.size)
  have RB := hide (unhide RG b (w.heap.size + 1))
  clear RG
  generalize hTA : finL a = TA at KD HLN
  generalize hTB : finL b = TB at KE
  have HTA := hide hTA
  have HTB := hide hTB
  clear hTA hTB
  generalize mgL a = LA at *
  generalize mgL b = LB at *
  have R1 := hide (unhide RA W2 (unhide HA))
  have K1 := hide (unhide KD W2 (unhide B0))
  go_wp2_with (first
    | (with_reducible (show wpList _ _ _ (Oper.mk _ (Op.load _ _) _ _ _ _ :: _) _ _); refine wpList_load_mid rfl 41 (.tmp 2) rfl w.heap.size 0 rfl LA _ (unhide R1) Try.underlying41 rfl (unhide HIA) ?_)
    | (go_at_call 9; refine (unhide K1).mono ?_))
  rintro e w3 ⟨v3, rfl, r3, n3, b3⟩
  obtain ⟨a3, c3, ev, l3, _, _, _, _, _⟩ := r3.parts
  subst ev
  have L3 := hide l3
  have B3 := hide ((unhide B0).trans (b3.mono (unhide B0).size))
  have HB3 := hide (below_keep b3 (unhide HB))
  clear r3 n3 b3 l3 K1 R1 HA HB B0 KD HIA RA
  have R2 := hide (unhide RB w3 (unhide HB3))
  have K2 := hide (unhide KE w3 (unhide B3))
  go_wp2_with (first
    | (with_reducible (show wpList _ _ _ (Oper.mk _ (Op.load _ _) _ _ _ _ :: _) _ _); refine wpList_load_mid rfl 41 (.tmp 3) rfl (w.heap.size + 1) 0 rfl LB _ (unhide R2) Try.underlying41 rfl (unhide HIB) ?_)
    | (go_at_call 9; refine (unhide K2).mono ?_))
  rintro e w4 ⟨v4, rfl, r4, n4, b4⟩
  obtain ⟨a4, c4, ev, l4, _, _, _, _, _⟩ := r4.parts
  subst ev
  have L3' := hide ((unhide L3).later b4)
  have B4 := hide ((unhide B3).trans (b4.mono (unhide B3).size))
  have SM := hide (same_gen w4 a3 a4 c3 c4 TA TB (unhide L3') l4 (by have := unhide HLN; omega))
  clear r4 n4 b4 l4 K2 R2 L3 L3' B3 HB3 KE HIB RB
  go_wp2_with (go_at_call 12; refine (unhide SM).mono ?_; rintro e w5 ⟨q, n5, rfl, hq, rfl⟩)
  have FF : Hid (SgP w (finL a = finL b) (.returned (.bool q)) (w4.drewN n5)) := hide ⟨q, rfl, by rw [unhide HTA, unhide HTB]; exact hq, below_drewN' (unhide B4) n5⟩
  clear hq SM
  go_returns
  exact unhide FF
/-- Where two messages' bytes are alike their heads are. -/
theorem head_same {w : World} {a b : Mg} (ha : MgIn w a) (hb : MgIn w b) (hE : finE a = 0) (hF : finE b = 0) (h : finL a = finL b) : a.kd = b.kd ∧ a.fr = b.fr ∧ a.tt = b.tt ∧ a.co = b.co := by
  obtain ⟨_, l1⟩ := fine_of ha hE
  obtain ⟨_, l2⟩ := fine_of hb hF
  have hd : ∀ (m : Mg), (∀ x ∈ [m.kd, m.fr, m.tt, m.co, m.er], I64 x) → ∀ r t, t = encL [m.kd, m.fr, m.tt, m.co, m.er] ++ r → (rI t ⟨0, 0⟩).1 = m.kd ∧ (rI t (nI t 1 ⟨0, 0⟩)).1 = m.fr ∧ (rI t (nI t 2 ⟨0, 0⟩)).1 = m.tt ∧ (rI t (nI t 3 ⟨0, 0⟩)).1 = m.co := by
    intro m hx r t ht
    have a0 : Ahead t ⟨0, 0⟩ (enc (zig m.kd) ++ (enc (zig m.fr) ++ (enc (zig m.tt) ++ (enc (zig m.co) ++ (enc (zig m.er) ++ r))))) := by
      have := Ahead.start t
      have e : t = enc (zig m.kd) ++ (enc (zig m.fr) ++ (enc (zig m.tt) ++ (enc (zig m.co) ++ (enc (zig m.er) ++ r)))) := by rw [ht]; simp [encL]
      rw [← e]
      exact this
    obtain ⟨y1, a1⟩ := a0.I (hx m.kd (by simp))
    obtain ⟨y2, a2⟩ := a1.I (hx m.fr (by simp))
    obtain ⟨y3, a3⟩ := a2.I (hx m.tt (by simp))
    obtain ⟨y4, _⟩ := a3.I (hx m.co (by simp))
    exact ⟨y1, y2, y3, y4⟩
  obtain ⟨p1, p2, p3, p4⟩ := hd a ha.hd _ _ l1
  obtain ⟨q1, q2, q3, q4⟩ := hd b hb.hd _ _ (h.trans l2)
  exact ⟨p1.symm.trans q1, p2.symm.trans q2, p3.symm.trans q3, p4.symm.trans q4⟩
end Go.Proofs.Ytblmondkdcpkaaa
