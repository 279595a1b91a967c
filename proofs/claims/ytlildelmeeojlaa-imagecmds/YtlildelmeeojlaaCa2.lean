/-
  A command's own copy, two commands held against each other, and what was written read again. Conditions: as each says.
-/
import Derived.Test.YtlildelmeeojlaaCa1
import Derived.Test.YtlildelmeeojlaaPay13
namespace Go.Proofs.Ytlildelmeeojlaa
open Go.RowKit
set_option linter.unusedVariables false

theorem dec_both {t : List Nat} (hl : t.length ≤ 140737488355328) : ∃ (y1 y2 y3 y4 y5 : Int) (ly : List Int) (E : Int), ly.length ≤ 5 ∧
    (∀ (w : World) (a : Option Addr) (cap : Nat), LAt w a t → (a = none → cap = 0) → t.length ≤ cap → Calls Try.prog 14 #[.slice a t.length cap] w fun e w' => DeC w y1 y2 y3 y4 y5 ly E e w') ∧
    (∀ (w : World) (a : Option Addr) (cap : Nat), LAt w a t → (a = none → cap = 0) → t.length ≤ cap → Calls Try.prog 8 #[.slice a t.length cap] w fun e w' => DeC w y1 y2 y3 y4 y5 ly E e w') := by
  obtain ⟨x1, s1, e1⟩ : ∃ x s, rI t ⟨0, 0⟩ = (x, s) := ⟨_, _, rfl⟩
  obtain ⟨x2, s2, e2⟩ : ∃ x s, rI t s1 = (x, s) := ⟨_, _, rfl⟩
  obtain ⟨x3, s3, e3⟩ : ∃ x s, rI t s2 = (x, s) := ⟨_, _, rfl⟩
  obtain ⟨x4, s4, e4⟩ : ∃ x s, rI t s3 = (x, s) := ⟨_, _, rfl⟩
  obtain ⟨x5, s5, e5⟩ : ∃ x s, rI t s4 = (x, s) := ⟨_, _, rfl⟩
  obtain ⟨l, s6, e6⟩ : ∃ x s, rL t s5 = (x, s) := ⟨_, _, rfl⟩
  obtain ⟨n, e7⟩ : ∃ n, rE t s6 = n := ⟨_, rfl⟩
  have K1 := fun (w : World) (a : Option Addr) (cap : Nat) (h1 : LAt w a t) (h2 : a = none → cap = 0) (h3 : t.length ≤ cap) => decode_any h1 h2 h3 hl e1 e2 e3 e4 e5 e6 e7
  have K2 := fun (w : World) (a : Option Addr) (cap : Nat) (h1 : LAt w a t) (h2 : a = none → cap = 0) (h3 : t.length ≤ cap) => docdecode_any h1 h2 h3 hl e1 e2 e3 e4 e5 e6 e7
  by_cases hn : n = 0
  · cases hC : isC ⟨x1, x2, x3, x4, x5, none, 0, l⟩ with
    | false => exact ⟨0, 0, 0, 0, 0, [], 1, by simp, fun w a cap h1 h2 h3 => (K1 w a cap h1 h2 h3).mono fun e w' h => h.2.1 hn hC, fun w a cap h1 h2 h3 => (K2 w a cap h1 h2 h3).mono fun e w' h => h.2.1 hn hC⟩
    | true => exact ⟨x1, x2, x3, x4, x5, l, 0, isC_few hC, fun w a cap h1 h2 h3 => (K1 w a cap h1 h2 h3).mono fun e w' h => h.2.2 hn hC, fun w a cap h1 h2 h3 => (K2 w a cap h1 h2 h3).mono fun e w' h => h.2.2 hn hC⟩
  · exact ⟨0, 0, 0, 0, 0, [], (n : Int), by simp, fun w a cap h1 h2 h3 => (K1 w a cap h1 h2 h3).mono fun e w' h => h.1 hn, fun w a cap h1 h2 h3 => (K2 w a cap h1 h2 h3).mono fun e w' h => h.1 hn⟩
theorem rL_enc {t u : List Nat} {l : List Int} {s : Rst} (h0 : s.er = 0) (hd : t.drop s.pl = enc l.length ++ encL l ++ u) (hl : l.length ≤ 4096) (hf : ∀ x ∈ l, -9223372036854775808 ≤ x ∧ x < 9223372036854775808) : rL t s = (l, ⟨s.pl + (enc l.length ++ encL l).length, 0⟩) := by
  rw [List.append_assoc] at hd
  have hU := rU_enc h0 hd (n := l.length) (by omega)
  have hC : rC t s = rU t s := by unfold rC; rw [hU, if_neg (by simp only; omega)]
  rw [rL_C, hC, hU]
  simp only [if_true]
  have hd2 := drop_next hd
  have := rNs_enc (t := t) (u := u) l (s := ⟨s.pl + (enc l.length).length, 0⟩) [] rfl hd2 hf
  rw [this]
  simp only [List.nil_append, List.length_append]
  congr 2
  omega
theorem dec_enc {c : Cm} (hf : CFit c) (hC : isC c = true) {w : World} {a : Option Addr} {cap : Nat} (h1 : LAt w a (encC c)) (h2 : a = none → cap = 0) (h3 : (encC c).length ≤ cap) (hl : (encC c).length ≤ 140737488355328) :
    Calls Try.prog 14 #[.slice a (encC c).length cap] w fun e w' => DeC w c.kd c.nd c.pt c.ep c.ve c.l 0 e w' := by
  have hl5 := isC_few hC
  obtain ⟨T, hT⟩ : ∃ T, T = encC c := ⟨_, rfl⟩
  have hd : T.drop 0 = enc (zig c.kd) ++ (enc (zig c.nd) ++ (enc (zig c.pt) ++ (enc (zig c.ep) ++ (enc (zig c.ve) ++ (enc c.l.length ++ encL c.l))))) := by rw [hT]; simp [encC]
  have e1 := rI_enc (t := T) (s := ⟨0, 0⟩) rfl hd hf.kd.1 hf.kd.2
  have d1 := drop_next hd
  have e2 := rI_enc (t := T) (s := ⟨0 + (enc (zig c.kd)).length, 0⟩) rfl d1 hf.nd.1 hf.nd.2
  have d2 := drop_next d1
  have e3 := rI_enc (t := T) (s := ⟨0 + (enc (zig c.kd)).length + (enc (zig c.nd)).length, 0⟩) rfl d2 hf.pt.1 hf.pt.2
  have d3 := drop_next d2
  have e4 := rI_enc (t := T) (s := ⟨0 + (enc (zig c.kd)).length + (enc (zig c.nd)).length + (enc (zig c.pt)).length, 0⟩) rfl d3 hf.ep.1 hf.ep.2
  have d4 := drop_next d3
  have e5 := rI_enc (t := T) (s := ⟨0 + (enc (zig c.kd)).length + (enc (zig c.nd)).length + (enc (zig c.pt)).length + (enc (zig c.ep)).length, 0⟩) rfl d4 hf.ve.1 hf.ve.2
  have d5 := drop_next d4
  have e6 := rL_enc (t := T) (u := []) (l := c.l) (s := ⟨0 + (enc (zig c.kd)).length + (enc (zig c.nd)).length + (enc (zig c.pt)).length + (enc (zig c.ep)).length + (enc (zig c.ve)).length, 0⟩) rfl (by rw [List.append_nil]; exact d5) (by omega) hf.l
  have e7 : rE T ⟨0 + (enc (zig c.kd)).length + (enc (zig c.nd)).length + (enc (zig c.pt)).length + (enc (zig c.ep)).length + (enc (zig c.ve)).length + (enc c.l.length ++ encL c.l).length, 0⟩ = 0 := by
    unfold rE
    rw [if_neg]
    simp only [true_and, Nat.not_lt]
    rw [hT]
    simp only [encC, List.length_append]
    omega
  rw [← hT] at h1 h3 hl ⊢
  refine (decode_any h1 h2 h3 hl e1 e2 e3 e4 e5 e6 e7).mono fun e w' h => ?_
  exact h.2.2 rfl (by rw [← hC]; rfl)
section
variable {w : World}
set_option maxHeartbeats 4000000 in
theorem sameCmd_any {kd nd pt ep ve : Int} {l : List Int} {a b : Option Addr} {k j : Nat} (ha : IAt w a l) (hb : IAt w b l) (hl : l.length ≤ maxLen) :
    Calls Try.prog 13 #[.agg #[.int .i64 kd, .int .i64 nd, .int .i64 pt, .int .i64 ep, .int .i64 ve, .slice a l.length k], .agg #[.int .i64 kd, .int .i64 nd, .int .i64 pt, .int .i64 ep, .int .i64 ve, .slice b l.length j]] w fun e w' => e = .returned (.bool true) ∧ Below w.heap.size w w' := by
  have b1 := (Below.refl w.heap.size w).alloc (Nat.le_refl _) (.cells #[.int .i64 kd, .int .i64 nd, .int .i64 pt, .int .i64 ep, .int .i64 ve, .slice a l.length k] 24)
  have b2 := b1.alloc b1.size (.cells #[.int .i64 kd, .int .i64 nd, .int .i64 pt, .int .i64 ep, .int .i64 ve, .slice b l.length j] 24)
  have K := hide (sameints_any _ a b k j l (ha.later b2) (hb.later b2) (by unfold maxLen at hl; omega))
  have B2 := hide b2
  clear ha hb b1 b2 hl
  generalize l.length = n at *
  go_enter Try.func13, Try.ntmps13
  go_wp2_with fail
  refine (unhide K).mono ?_
  rintro e w2 ⟨rfl, nq, rfl⟩
  go_wp2
  go_returns
  exact ⟨rfl, below_drewN' (unhide B2) _⟩
set_option maxHeartbeats 4000000 in
theorem own_any {c : Cm} (hc : CGot w c) :
    Calls Try.prog 10 #[.agg (cmA c)] w fun e w' => ∃ a k, e = .returned (.agg #[.int .i64 c.kd, .int .i64 c.nd, .int .i64 c.pt, .int .i64 c.ep, .int .i64 c.ve, .slice a c.l.length k]) ∧ IL w' (.slice a c.l.length k) c.l ∧ New w (.slice a c.l.length k) ∧ Below w.heap.size w w' := by
  have HC := hide hc
  have hlen := hc.len
  have hcap := hc.cap
  have LI := hide hc.cin.li
  obtain ⟨kd, nd, pt, ep, ve, a, k, l⟩ := c
  unfold cmA
  simp only at hlen hcap LI ⊢
  clear hc HC
  go_enter Try.func10, Try.ntmps10
  have b1 := (Below.refl w.heap.size w).alloc (Nat.le_refl _) (.cells #[.int .i64 kd, .int .i64 nd, .int .i64 pt, .int .i64 ep, .int .i64 ve, .slice a l.length k] 24)
  have b2 := b1.alloc b1.size (.cells #[.int .i64 0, .int .i64 0, .int .i64 0, .int .i64 0, .int .i64 0, .slice none 0 0] 24)
  have b3 := b2.alloc b2.size (.cells #[] 3)
  have B3 := hide b3
  have HB : Hid ((((w.alloc (.cells #[.int .i64 kd, .int .i64 nd, .int .i64 pt, .int .i64 ep, .int .i64 ve, .slice a l.length k] 24)).alloc (.cells #[.int .i64 0, .int .i64 0, .int .i64 0, .int .i64 0, .int .i64 0, .slice none 0 0] 24)).alloc (.cells #[] 3)).heap[w.heap.size]? = some (.cells #[.int .i64 kd, .int .i64 nd, .int .i64 pt, .int .i64 ep, .int .i64 ve, .slice a l.length k] 24)) := hide (heap_old _ (heap_old _ (heap_new _ _)))
  have HZ : Hid ((((w.alloc (.cells #[.int .i64 kd, .int .i64 nd, .int .i64 pt, .int .i64 ep, .int .i64 ve, .slice a l.length k] 24)).alloc (.cells #[.int .i64 0, .int .i64 0, .int .i64 0, .int .i64 0, .int .i64 0, .slice none 0 0] 24)).alloc (.cells #[] 3)).heap[w.heap.size + 1]? = some (.cells #[.int .i64 0, .int .i64 0, .int .i64 0, .int .i64 0, .int .i64 0, .slice none 0 0] 24)) := hide (heap_old _ (by have := heap_new (w.alloc (.cells #[.int .i64 kd, .int .i64 nd, .int .i64 pt, .int .i64 ep, .int .i64 ve, .slice a l.length k] 24)) (.cells #[.int .i64 0, .int .i64 0, .int .i64 0, .int .i64 0, .int .i64 0, .slice none 0 0] 24); simpa using this))
  have HL : Hid (IL (((w.alloc (.cells #[.int .i64 kd, .int .i64 nd, .int .i64 pt, .int .i64 ep, .int .i64 ve, .slice a l.length k] 24)).alloc (.cells #[.int .i64 0, .int .i64 0, .int .i64 0, .int .i64 0, .int .i64 0, .slice none 0 0] 24)).alloc (.cells #[] 3)) (.slice (some ⟨w.heap.size + 2, 0, none⟩) 0 0) []) := hide (by
    have := World.ownsRow_lit (base := 0) (e := 3) (size := 1) ((w.alloc (.cells #[.int .i64 kd, .int .i64 nd, .int .i64 pt, .int .i64 ep, .int .i64 ve, .slice a l.length k] 24)).alloc (.cells #[.int .i64 0, .int .i64 0, .int .i64 0, .int .i64 0, .int .i64 0, .slice none 0 0] 24)) #[] 0 (Nat.zero_le _) (by simp) rfl
    have e1 : ((w.alloc (.cells #[.int .i64 kd, .int .i64 nd, .int .i64 pt, .int .i64 ep, .int .i64 ve, .slice a l.length k] 24)).alloc (.cells #[.int .i64 0, .int .i64 0, .int .i64 0, .int .i64 0, .int .i64 0, .slice none 0 0] 24)).heap.size = w.heap.size + 2 := by simp
    rw [e1] at this
    exact this)
  have LX := hide ((unhide LI).later b3)
  clear b1 b2 b3 LI
  go_wp2_with (at_builtin; refine wpList_ints _ rfl (.tmp 3) (.tmp 5) rfl _ [] rfl (unhide HL) a k l rfl (unhide LX) hcap (by simp; omega) ?_; intro v3 w3 r3 t3 m3; obtain ⟨a3, k3, e3, _⟩ := r3.iat; simp only [List.nil_append] at e3 r3; subst e3; have T3 := hide t3; have M3 := hide m3; have R3 := hide r3; have H3 := hide (t3.keep (unhide HB) (fun e => absurd (Option.some.inj e : w.heap.size + 2 = w.heap.size) (by omega))); have Z3 := hide (t3.keep (unhide HZ) (fun e => absurd (Option.some.inj e : w.heap.size + 2 = w.heap.size + 1) (by omega))); have g0 := cell_of (unhide H3) 0; have g1 := cell_of (unhide H3) 1; have g2 := cell_of (unhide H3) 2; have g3 := cell_of (unhide H3) 3; have g4 := cell_of (unhide H3) 4; have g5 := cell_of (unhide H3) 5; have gf := frozen_of (unhide H3) 5; have j0 := cell_of (unhide Z3) 0; have j1 := cell_of (unhide Z3) 1; have j2 := cell_of (unhide Z3) 2; have j3 := cell_of (unhide Z3) 3; have j4 := cell_of (unhide Z3) 4; have j5 := cell_of (unhide Z3) 5; have jf := fun j => frozen_of (unhide Z3) j; simp at g0 g1 g2 g3 g4 g5 j0 j1 j2 j3 j4 j5; clear r3 t3 m3)
  have t4 := touch_set w3 w.heap.size 5 (.slice a3 l.length k3)
  obtain ⟨S1, S2⟩ := set6 (.int .i64 kd) (.int .i64 nd) (.int .i64 pt) (.int .i64 ep) (.int .i64 ve) (.slice a3 l.length k3) (t4.keep (unhide Z3) (by omega))
  have NB : ∀ k, (Value.slice a3 l.length k3).ownBlock = some k → w.heap.size + 2 ≤ k := fun k hk => by
    rcases unhide M3 k hk with e | e
    · have : w.heap.size + 2 = k := Option.some.inj e
      omega
    · simp at e
      omega
  have R4 := hide (((unhide R3).keep t4 (fun k hk e => by have := NB k hk; omega)).keep S2 (fun k hk e => by have := NB k hk; omega))
  have hs3 := (unhide T3).size
  have B4 := hide (below_touch (below_touch (below_touch (unhide B3) (unhide T3) (unhide B3).size (fun k hk => by have : w.heap.size + 2 = k := Option.some.inj hk; omega)) t4 (by have := (unhide B3).size; omega) (fun k hk => by omega)) S2 (by have := (unhide B3).size; have := t4.size; omega) (fun k hk => by omega))
  generalize (((((((w3.setCell ⟨w.heap.size, 5, none⟩ (.slice a3 l.length k3)).setCell ⟨w.heap.size + 1, 0, none⟩ (.int .i64 kd)).setCell ⟨w.heap.size + 1, 1, none⟩ (.int .i64 nd)).setCell ⟨w.heap.size + 1, 2, none⟩ (.int .i64 pt)).setCell ⟨w.heap.size + 1, 3, none⟩ (.int .i64 ep)).setCell ⟨w.heap.size + 1, 4, none⟩ (.int .i64 ve)).setCell ⟨w.heap.size + 1, 5, none⟩ (.slice a3 l.length k3)) = Y at *
  have w0 := cell_of S1 0
  have w1 := cell_of S1 1
  have w2 := cell_of S1 2
  have w4 := cell_of S1 3
  have w5 := cell_of S1 4
  have w6 := cell_of S1 5
  simp at w0 w1 w2 w4 w5 w6
  refine bodyPost_ret (by simp [results, Try.results10, go_sem, w0, w1, w2, w4, w5, w6]; try rfl) rfl ?_
  exact ⟨a3, k3, rfl, unhide R4, fun k hk => by have := NB k hk; omega, unhide B4⟩
end
end Go.Proofs.Ytlildelmeeojlaa
