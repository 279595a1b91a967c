/-
  A record's own copy, two records held against each other, and what was written read again. Conditions: as each says.
-/
import Derived.Test.YtbbcbmlkbdmdfaaCrg1
import Derived.Deep.CutBlock
namespace Go.Proofs.Ytbbcbmlkbdmdfaa
open Go.RowKit
set_option linter.unusedVariables false

theorem dec_both {t : List Nat} (hl : t.length ≤ 140737488355328) : ∃ (ykd : Int) (ygr : Int) (ygen : Int) (yl : List Int) (ypt : Int) (yoff : Int) (E : Int), yl.length ≤ 8 ∧
    (∀ (w : World) (a : Option Addr) (cap : Nat), LAt w a t → (a = none → cap = 0) → t.length ≤ cap → Calls Try.prog 11 #[.slice a t.length cap] w fun e w' => DeR w ykd ygr ygen yl ypt yoff E e w') ∧
    (∀ (w : World) (a : Option Addr) (cap : Nat), LAt w a t → (a = none → cap = 0) → t.length ≤ cap → Calls Try.prog 5 #[.slice a t.length cap] w fun e w' => DeR w ykd ygr ygen yl ypt yoff E e w') := by
  obtain ⟨kd, s1, e1⟩ : ∃ x s, rI t ⟨0, 0⟩ = (x, s) := ⟨_, _, rfl⟩
  obtain ⟨gr, s2, e2⟩ : ∃ x s, rI t s1 = (x, s) := ⟨_, _, rfl⟩
  obtain ⟨gen, s3, e3⟩ : ∃ x s, rI t s2 = (x, s) := ⟨_, _, rfl⟩
  obtain ⟨pt, s4, e4⟩ : ∃ x s, rI t s3 = (x, s) := ⟨_, _, rfl⟩
  obtain ⟨off, s5, e5⟩ : ∃ x s, rI t s4 = (x, s) := ⟨_, _, rfl⟩
  obtain ⟨l, s6, e6⟩ : ∃ x s, rL t s5 = (x, s) := ⟨_, _, rfl⟩
  obtain ⟨n, e7⟩ : ∃ n, rE t s6 = n := ⟨_, rfl⟩
  have K1 := fun (w : World) (a : Option Addr) (cap : Nat) (h1 : LAt w a t) (h2 : a = none → cap = 0) (h3 : t.length ≤ cap) => decode_any h1 h2 h3 hl e1 e2 e3 e4 e5 e6 e7
  have K2 := fun (w : World) (a : Option Addr) (cap : Nat) (h1 : LAt w a t) (h2 : a = none → cap = 0) (h3 : t.length ≤ cap) => docdecode_any h1 h2 h3 hl e1 e2 e3 e4 e5 e6 e7
  by_cases hn : n = 0
  · cases hC : isR ⟨kd, gr, gen, l, pt, off⟩ with
    | false => exact ⟨0, 0, 0, [], 0, 0, 1, by simp, fun w a cap h1 h2 h3 => (K1 w a cap h1 h2 h3).mono fun e w' h => h.2.1 hn hC, fun w a cap h1 h2 h3 => (K2 w a cap h1 h2 h3).mono fun e w' h => h.2.1 hn hC⟩
    | true => exact ⟨kd, gr, gen, l, pt, off, 0, isR_few hC, fun w a cap h1 h2 h3 => (K1 w a cap h1 h2 h3).mono fun e w' h => h.2.2 hn hC, fun w a cap h1 h2 h3 => (K2 w a cap h1 h2 h3).mono fun e w' h => h.2.2 hn hC⟩
  · exact ⟨0, 0, 0, [], 0, 0, (n : Int), by simp, fun w a cap h1 h2 h3 => (K1 w a cap h1 h2 h3).mono fun e w' h => h.1 hn, fun w a cap h1 h2 h3 => (K2 w a cap h1 h2 h3).mono fun e w' h => h.1 hn⟩
theorem rL_enc {t u : List Nat} {l : List Int} {s : Rst} (h0 : s.er = 0) (hd : t.drop s.pl = (enc l.length ++ encL l) ++ u) (hl : l.length ≤ 4096) (hf : ∀ x ∈ l, -9223372036854775808 ≤ x ∧ x < 9223372036854775808) : rL t s = (l, ⟨s.pl + (enc l.length ++ encL l).length, 0⟩) := by
  rw [List.append_assoc] at hd
  have hU := rU_enc h0 hd (n := l.length) (by omega)
  have hC : rC t s = rU t s := by unfold rC; rw [hU, if_neg (by simp only; omega)]
  rw [rL_C, hC, hU]
  simp only [if_true]
  have hd2 := drop_next hd
  have := rNs_enc (t := t) (u := u) l (s := ⟨s.pl + (enc l.length).length, 0⟩) [] rfl hd2 hf
  rw [this]
  simp only [List.nil_append, List.length_append]
  congr 2
  omega
theorem rF_enc {t u : List Nat} {q : Bool} {s : Rst} (h0 : s.er = 0) (hd : t.drop s.pl = [q.toNat] ++ u) : rF t s = (q, ⟨s.pl + [q.toNat].length, 0⟩) := by
  have e1 : [q.toNat] = enc q.toNat := flag_enc q
  rw [e1] at hd ⊢
  have hU := rU_enc h0 hd (n := q.toNat) (by cases q <;> simp)
  unfold rF
  rw [hU]
  cases q <;> simp
theorem dec_enc {r : Rx} (hf : RFit r) (hC : isR r = true) {w : World} {a : Option Addr} {cap : Nat} (h1 : LAt w a (encR r)) (h2 : a = none → cap = 0) (h3 : (encR r).length ≤ cap) (hl : (encR r).length ≤ 140737488355328) :
    Calls Try.prog 11 #[.slice a (encR r).length cap] w fun e w' => DeR w r.kd r.gr r.gen r.l r.pt r.off 0 e w' := by
  have hl5 := isR_few hC
  obtain ⟨T, hT⟩ : ∃ T, T = encR r := ⟨_, rfl⟩
  have d0 : T.drop 0 = enc (zig r.kd) ++ (enc (zig r.gr) ++ (enc (zig r.gen) ++ (enc (zig r.pt) ++ (enc (zig r.off) ++ ((enc r.l.length ++ encL r.l) ++ (([] : List Nat))))))) := by rw [hT]; simp [encR]
  have e1 := rI_enc (t := T) (s := ⟨0, 0⟩) rfl d0 hf.kd.1 hf.kd.2
  have d1 := drop_next d0
  have e2 := rI_enc (t := T) (s := ⟨0 + (enc (zig r.kd)).length, 0⟩) rfl d1 hf.gr.1 hf.gr.2
  have d2 := drop_next d1
  have e3 := rI_enc (t := T) (s := ⟨0 + (enc (zig r.kd)).length + (enc (zig r.gr)).length, 0⟩) rfl d2 hf.gen.1 hf.gen.2
  have d3 := drop_next d2
  have e4 := rI_enc (t := T) (s := ⟨0 + (enc (zig r.kd)).length + (enc (zig r.gr)).length + (enc (zig r.gen)).length, 0⟩) rfl d3 hf.pt.1 hf.pt.2
  have d4 := drop_next d3
  have e5 := rI_enc (t := T) (s := ⟨0 + (enc (zig r.kd)).length + (enc (zig r.gr)).length + (enc (zig r.gen)).length + (enc (zig r.pt)).length, 0⟩) rfl d4 hf.off.1 hf.off.2
  have d5 := drop_next d4
  have e6 := rL_enc (t := T) (s := ⟨0 + (enc (zig r.kd)).length + (enc (zig r.gr)).length + (enc (zig r.gen)).length + (enc (zig r.pt)).length + (enc (zig r.off)).length, 0⟩) rfl d5 (by omega) hf.l
  have d6 := drop_next d5
  have e7 : rE T ⟨0 + (enc (zig r.kd)).length + (enc (zig r.gr)).length + (enc (zig r.gen)).length + (enc (zig r.pt)).length + (enc (zig r.off)).length + ((enc r.l.length ++ encL r.l)).length, 0⟩ = 0 := by
    unfold rE
    rw [if_neg]
    simp only [true_and, Nat.not_lt]
    rw [hT]
    simp only [encR, List.length_append]
    omega
  rw [← hT] at h1 h3 hl ⊢
  refine (decode_any h1 h2 h3 hl e1 e2 e3 e4 e5 e6 e7).mono fun e w' h => ?_
  exact h.2.2 rfl (by rw [← hC])
section
variable {w : World}
set_option maxHeartbeats 4000000 in
theorem sameRec_any {kd : Int} {gr : Int} {gen : Int} {l : List Int} {pt : Int} {off : Int} {a b : Option Addr} {k j : Nat} (ha : IAt w a l) (hb : IAt w b l) (hl : l.length ≤ maxLen) :
    Calls Try.prog 10 #[.agg #[.int .i64 kd, .int .i64 gr, .int .i64 gen, .slice a l.length k, .int .i64 pt, .int .i64 off], .agg #[.int .i64 kd, .int .i64 gr, .int .i64 gen, .slice b l.length j, .int .i64 pt, .int .i64 off]] w fun e w' => e = .returned (.bool true) ∧ Below w.heap.size w w' := by
  have b1 := (Below.refl w.heap.size w).alloc (Nat.le_refl _) (.cells #[.int .i64 kd, .int .i64 gr, .int .i64 gen, .slice a l.length k, .int .i64 pt, .int .i64 off] 24)
  have b2 := b1.alloc b1.size (.cells #[.int .i64 kd, .int .i64 gr, .int .i64 gen, .slice b l.length j, .int .i64 pt, .int .i64 off] 24)
  have KK := hide (sameints_any _ a b k j l (ha.later b2) (hb.later b2) (by unfold maxLen at hl; omega))
  have B2 := hide b2
  clear ha hb b1 b2 hl
  generalize l.length = n at *
  go_enter Try.func10, Try.ntmps10
  go_wp2_with fail
  refine (unhide KK).mono ?_
  rintro e w2 ⟨rfl, nq, rfl⟩
  go_wp2
  go_returns
  exact ⟨rfl, below_drewN' (unhide B2) _⟩
set_option maxHeartbeats 4000000 in
theorem own_any {kd : Int} {gr : Int} {gen : Int} {l : List Int} {pt : Int} {off : Int} {a : Option Addr} {k : Nat} (hr : IAt w a l) (hcap : a = none → k = 0) (hlen : l.length ≤ 17592186044416) :
    Calls Try.prog 7 #[.agg #[.int .i64 kd, .int .i64 gr, .int .i64 gen, .slice a l.length k, .int .i64 pt, .int .i64 off]] w fun e w' => ∃ a k, e = .returned (.agg #[.int .i64 kd, .int .i64 gr, .int .i64 gen, .slice a l.length k, .int .i64 pt, .int .i64 off]) ∧ IL w' (.slice a l.length k) l ∧ New w (.slice a l.length k) ∧ Below w.heap.size w w' := by
  have LI := hide hr
  clear hr
  go_enter Try.func7, Try.ntmps7
  have b1 := (Below.refl w.heap.size w).alloc (Nat.le_refl _) (.cells #[.int .i64 kd, .int .i64 gr, .int .i64 gen, .slice a l.length k, .int .i64 pt, .int .i64 off] 24)
  have b2 := b1.alloc b1.size (.cells #[.int .i64 0, .int .i64 0, .int .i64 0, .slice none 0 0, .int .i64 0, .int .i64 0] 24)
  have b3 := b2.alloc b2.size (.cells #[] 3)
  have B3 := hide b3
  have HB : Hid ((((w.alloc (.cells #[.int .i64 kd, .int .i64 gr, .int .i64 gen, .slice a l.length k, .int .i64 pt, .int .i64 off] 24)).alloc (.cells #[.int .i64 0, .int .i64 0, .int .i64 0, .slice none 0 0, .int .i64 0, .int .i64 0] 24)).alloc (.cells #[] 3)).heap[w.heap.size]? = some (.cells #[.int .i64 kd, .int .i64 gr, .int .i64 gen, .slice a l.length k, .int .i64 pt, .int .i64 off] 24)) := hide (heap_old _ (heap_old _ (heap_new _ _)))
  have HZ : Hid ((((w.alloc (.cells #[.int .i64 kd, .int .i64 gr, .int .i64 gen, .slice a l.length k, .int .i64 pt, .int .i64 off] 24)).alloc (.cells #[.int .i64 0, .int .i64 0, .int .i64 0, .slice none 0 0, .int .i64 0, .int .i64 0] 24)).alloc (.cells #[] 3)).heap[w.heap.size + 1]? = some (.cells #[.int .i64 0, .int .i64 0, .int .i64 0, .slice none 0 0, .int .i64 0, .int .i64 0] 24)) := hide (heap_old _ (by have := heap_new (w.alloc (.cells #[.int .i64 kd, .int .i64 gr, .int .i64 gen, .slice a l.length k, .int .i64 pt, .int .i64 off] 24)) (.cells #[.int .i64 0, .int .i64 0, .int .i64 0, .slice none 0 0, .int .i64 0, .int .i64 0] 24); simpa using this))
  have HL : Hid (IL (((w.alloc (.cells #[.int .i64 kd, .int .i64 gr, .int .i64 gen, .slice a l.length k, .int .i64 pt, .int .i64 off] 24)).alloc (.cells #[.int .i64 0, .int .i64 0, .int .i64 0, .slice none 0 0, .int .i64 0, .int .i64 0] 24)).alloc (.cells #[] 3)) (.slice (some ⟨w.heap.size + 2, 0, none⟩) 0 0) []) := hide (by
    have := World.ownsRow_lit (base := 0) (e := 3) (size := 1) ((w.alloc (.cells #[.int .i64 kd, .int .i64 gr, .int .i64 gen, .slice a l.length k, .int .i64 pt, .int .i64 off] 24)).alloc (.cells #[.int .i64 0, .int .i64 0, .int .i64 0, .slice none 0 0, .int .i64 0, .int .i64 0] 24)) #[] 0 (Nat.zero_le _) (by simp) rfl
    have e1 : ((w.alloc (.cells #[.int .i64 kd, .int .i64 gr, .int .i64 gen, .slice a l.length k, .int .i64 pt, .int .i64 off] 24)).alloc (.cells #[.int .i64 0, .int .i64 0, .int .i64 0, .slice none 0 0, .int .i64 0, .int .i64 0] 24)).heap.size = w.heap.size + 2 := by simp
    rw [e1] at this
    exact this)
  have LX := hide ((unhide LI).later b3)
  clear b1 b2 b3 LI
  go_wp2_with (at_builtin; refine wpList_ints _ rfl (.tmp 3) (.tmp 5) rfl _ [] rfl (unhide HL) a k l rfl (unhide LX) hcap (by simp; omega) ?_; intro v3 w3 r3 t3 m3; obtain ⟨a3, k3, e3, _⟩ := r3.iat; simp only [List.nil_append] at e3 r3; subst e3; have T3 := hide t3; have M3 := hide m3; have R3 := hide r3; have H3 := hide (t3.keep (unhide HB) (fun e => absurd (Option.some.inj e : w.heap.size + 2 = w.heap.size) (by omega))); have Z3 := hide (t3.keep (unhide HZ) (fun e => absurd (Option.some.inj e : w.heap.size + 2 = w.heap.size + 1) (by omega))); have g0 := cell_of (unhide H3) 0; have g1 := cell_of (unhide H3) 1; have g2 := cell_of (unhide H3) 2; have g3 := cell_of (unhide H3) 3; have g4 := cell_of (unhide H3) 4; have g5 := cell_of (unhide H3) 5; have gf := frozen_of (unhide H3) 3; have j0 := cell_of (unhide Z3) 0; have j1 := cell_of (unhide Z3) 1; have j2 := cell_of (unhide Z3) 2; have j3 := cell_of (unhide Z3) 3; have j4 := cell_of (unhide Z3) 4; have j5 := cell_of (unhide Z3) 5; have jf := fun j => frozen_of (unhide Z3) j; simp at g0 j0 g1 j1 g2 j2 g3 j3 g4 j4 g5 j5; clear r3 t3 m3)
  have t4 := touch_set w3 w.heap.size 3 (.slice a3 l.length k3)
  obtain ⟨S1, S2⟩ := stR (.int .i64 kd) (.int .i64 gr) (.int .i64 gen) (.slice a3 l.length k3) (.int .i64 pt) (.int .i64 off) (t4.keep (unhide Z3) (by omega))
  have NB : ∀ k, (Value.slice a3 l.length k3).ownBlock = some k → w.heap.size + 2 ≤ k := fun k hk => by
    rcases unhide M3 k hk with e | e
    · have : w.heap.size + 2 = k := Option.some.inj e
      omega
    · simp at e
      omega
  have R4 := hide (((unhide R3).keep t4 (fun k hk e => by have := NB k hk; omega)).keep S2 (fun k hk e => by have := NB k hk; omega))
  have hs3 := (unhide T3).size
  have B4 := hide (below_touch (below_touch (below_touch (unhide B3) (unhide T3) (unhide B3).size (fun k hk => by have : w.heap.size + 2 = k := Option.some.inj hk; omega)) t4 (by have := (unhide B3).size; omega) (fun k hk => by omega)) S2 (by have := (unhide B3).size; have := t4.size; omega) (fun k hk => by omega))
  generalize (((((((w3.setCell ⟨w.heap.size, 3, none⟩ (.slice a3 l.length k3)).setCell ⟨w.heap.size + 1, 0, none⟩ (.int .i64 kd)).setCell ⟨w.heap.size + 1, 1, none⟩ (.int .i64 gr)).setCell ⟨w.heap.size + 1, 2, none⟩ (.int .i64 gen)).setCell ⟨w.heap.size + 1, 3, none⟩ (.slice a3 l.length k3)).setCell ⟨w.heap.size + 1, 4, none⟩ (.int .i64 pt)).setCell ⟨w.heap.size + 1, 5, none⟩ (.int .i64 off)) = Y at *
  have p0 := cell_of S1 0
  have p1 := cell_of S1 1
  have p2 := cell_of S1 2
  have p3 := cell_of S1 3
  have p4 := cell_of S1 4
  have p5 := cell_of S1 5
  simp at p0 p1 p2 p3 p4 p5
  refine bodyPost_ret (by simp [results, Try.results7, go_sem, p0, p1, p2, p3, p4, p5]; try rfl) rfl ?_
  exact ⟨a3, k3, rfl, unhide R4, fun k hk => by have := NB k hk; omega, unhide B4⟩
end
theorem enc_both {r : Rx} (hf : RFit r) : ∃ (E : Int) (L : List Nat), L.length ≤ 1000 ∧ (E = 0 → isR r = true ∧ L = encR r) ∧
    (∀ (w : World) (a : Option Addr) (k : Nat), IAt w a r.l → r.l.length ≤ maxLen → Calls Try.prog 4 #[.agg #[.int .i64 r.kd, .int .i64 r.gr, .int .i64 r.gen, .slice a r.l.length k, .int .i64 r.pt, .int .i64 r.off]] w fun e w' => EnR w E L e w') ∧
    (∀ (w : World) (a : Option Addr) (k : Nat), IAt w a r.l → r.l.length ≤ maxLen → Calls Try.prog 8 #[.agg #[.int .i64 r.kd, .int .i64 r.gr, .int .i64 r.gen, .slice a r.l.length k, .int .i64 r.pt, .int .i64 r.off]] w fun e w' => EnR w E L e w') := by
  cases hC : isR r with
  | false => exact ⟨1, [], by simp, fun h => by simp at h, fun w a k h1 h2 => docencode_bad h1 h2 hC, fun w a k h1 h2 => encode_bad h1 h2 hC⟩
  | true =>
    have hl : (encR r).length ≤ 1000 := by
      have h5 := isR_few hC
      have l0 := enc_len10 (zig_lt hf.kd.1 hf.kd.2)
      have l1 := enc_len10 (zig_lt hf.gr.1 hf.gr.2)
      have l2 := enc_len10 (zig_lt hf.gen.1 hf.gen.2)
      have l3 := enc_len10 (zig_lt hf.pt.1 hf.pt.2)
      have l4 := enc_len10 (zig_lt hf.off.1 hf.off.2)
      have l5 := enc_len10 (n := r.l.length) (by omega)
      have l5L := encL_len r.l hf.l
      unfold encR
      (repeat rw [List.length_append])
      (try rw [List.length_cons, List.length_nil])
      omega
    exact ⟨0, encR r, hl, fun _ => ⟨rfl, rfl⟩, fun w a k h1 h2 => docencode_ok h1 h2 hf hC, fun w a k h1 h2 => encode_ok h1 h2 hf hC⟩
end Go.Proofs.Ytbbcbmlkbdmdfaa
