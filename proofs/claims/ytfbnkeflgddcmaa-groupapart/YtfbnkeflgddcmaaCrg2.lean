/-
  A record's own copy, two records held against each other, and what was written read again. Conditions: as each says.
-/
import Derived.Test.YtfbnkeflgddcmaaCrg1
import Derived.Deep.CutBlock
namespace Go.Proofs.Ytfbnkeflgddcmaa
open Go.RowKit
set_option linter.unusedVariables false

theorem rL_enc {t u : List Nat} {l : List Int} {s : Rst} (h0 : s.er = 0) (hd : t.drop s.pl = (enc l.length ++ encL l) ++ u) (hl : l.length ≤ 4096) (hf : ∀ x ∈ l, -9223372036854775808 ≤ x ∧ x < 9223372036854775808) : rL t s = (l, ⟨s.pl + (enc l.length ++ encL l).length, 0⟩) := by
  rw [List.append_assoc] at hd
  have hU := rU_enc h0 hd (n := l.length) (by omega)
  have hC : rC t s = rU t s := by unfold rC; rw [hU, if_neg (by simp only; omega)]
  rw [rL_C, hC, hU]
  simp only [if_true]
  have hd2 := drop_next hd
  have := rNs_enc (t := t) (u := u) l (s := ⟨s.pl + (enc l.length).length, 0⟩) [] rfl hd2 hf
  rw [this]
  simp only [List.nil_append, List.length_append]
  congr 2
  omega
theorem rF_enc {t u : List Nat} {q : Bool} {s : Rst} (h0 : s.er = 0) (hd : t.drop s.pl = [q.toNat] ++ u) : rF t s = (q, ⟨s.pl + [q.toNat].length, 0⟩) := by
  have e1 : [q.toNat] = enc q.toNat := flag_enc q
  rw [e1] at hd ⊢
  have hU := rU_enc h0 hd (n := q.toNat) (by cases q <;> simp)
  unfold rF
  rw [hU]
  cases q <;> simp
theorem dec_enc {r : Rx} (hf : RFit r) (hC : isR r = true) {w : World} {a : Option Addr} {cap : Nat} (h1 : LAt w a (encR r)) (h2 : a = none → cap = 0) (h3 : (encR r).length ≤ cap) (hl : (encR r).length ≤ 140737488355328) :
    Calls Try.prog 28 #[.slice a (encR r).length cap] w fun e w' => DeR w r.kd r.gr r.gen r.l r.pt r.off 0 e w' := by
  have hl5 := isR_few hC
  obtain ⟨T, hT⟩ : ∃ T, T = encR r := ⟨_, rfl⟩
  have d0 : T.drop 0 = enc (zig r.kd) ++ (enc (zig r.gr) ++ (enc (zig r.gen) ++ (enc (zig r.pt) ++ (enc (zig r.off) ++ ((enc r.l.length ++ encL r.l) ++ (([] : List Nat))))))) := by rw [hT]; simp [encR]
  have e1 := rI_enc (t := T) (s := ⟨0, 0⟩) rfl d0 hf.kd.1 hf.kd.2
  have d1 := drop_next d0
  have e2 := rI_enc (t := T) (s := ⟨0 + (enc (zig r.kd)).length, 0⟩) rfl d1 hf.gr.1 hf.gr.2
  have d2 := drop_next d1
  have e3 := rI_enc (t := T) (s := ⟨0 + (enc (zig r.kd)).length + (enc (zig r.gr)).length, 0⟩) rfl d2 hf.gen.1 hf.gen.2
  have d3 := drop_next d2
  have e4 := rI_enc (t := T) (s := ⟨0 + (enc (zig r.kd)).length + (enc (zig r.gr)).length + (enc (zig r.gen)).length, 0⟩) rfl d3 hf.pt.1 hf.pt.2
  have d4 := drop_next d3
  have e5 := rI_enc (t := T) (s := ⟨0 + (enc (zig r.kd)).length + (enc (zig r.gr)).length + (enc (zig r.gen)).length + (enc (zig r.pt)).length, 0⟩) rfl d4 hf.off.1 hf.off.2
  have d5 := drop_next d4
  have e6 := rL_enc (t := T) (s := ⟨0 + (enc (zig r.kd)).length + (enc (zig r.gr)).length + (enc (zig r.gen)).length + (enc (zig r.pt)).length + (enc (zig r.off)).length, 0⟩) rfl d5 (by omega) hf.l
  have d6 := drop_next d5
  have e7 : rE T ⟨0 + (enc (zig r.kd)).length + (enc (zig r.gr)).length + (enc (zig r.gen)).length + (enc (zig r.pt)).length + (enc (zig r.off)).length + ((enc r.l.length ++ encL r.l)).length, 0⟩ = 0 := by
    unfold rE
    rw [if_neg]
    simp only [true_and, Nat.not_lt]
    rw [hT]
    simp only [encR, List.length_append]
    omega
  rw [← hT] at h1 h3 hl ⊢
  refine (decode_any h1 h2 h3 hl e1 e2 e3 e4 e5 e6 e7).mono fun e w' h => ?_
  exact h.2.2 rfl (by rw [← hC])
section
variable {w : World}
set_option maxHeartbeats 4000000 in
theorem own_any {kd : Int} {gr : Int} {gen : Int} {l : List Int} {pt : Int} {off : Int} {a : Option Addr} {k : Nat} (hr : IAt w a l) (hcap : a = none → k = 0) (hlen : l.length ≤ 17592186044416) :
    Calls Try.prog 11 #[.agg #[.int .i64 kd, .int .i64 gr, .int .i64 gen, .slice a l.length k, .int .i64 pt, .int .i64 off]] w fun e w' => ∃ a k, e = .returned (.agg #[.int .i64 kd, .int .i64 gr, .int .i64 gen, .slice a l.length k, .int .i64 pt, .int .i64 off]) ∧ IL w' (.slice a l.length k) l ∧ New w (.slice a l.length k) ∧ Below w.heap.size w w' := by
  have LI := hide hr
  clear hr
  go_enter Try.func11, Try.ntmps11
  have b1 := (Below.refl w.heap.size w).alloc (Nat.le_refl _) (.cells #[.int .i64 kd, .int .i64 gr, .int .i64 gen, .slice a l.length k, .int .i64 pt, .int .i64 off] 29)
  have b2 := b1.alloc b1.size (.cells #[.int .i64 0, .int .i64 0, .int .i64 0, .slice none 0 0, .int .i64 0, .int .i64 0] 29)
  have b3 := b2.alloc b2.size (.cells #[] 3)
  have B3 := hide b3
  have HB : Hid ((((w.alloc (.cells #[.int .i64 kd, .int .i64 gr, .int .i64 gen, .slice a l.length k, .int .i64 pt, .int .i64 off] 29)).alloc (.cells #[.int .i64 0, .int .i64 0, .int .i64 0, .slice none 0 0, .int .i64 0, .int .i64 0] 29)).alloc (.cells #[] 3)).heap[w.heap.size]? = some (.cells #[.int .i64 kd, .int .i64 gr, .int .i64 gen, .slice a l.length k, .int .i64 pt, .int .i64 off] 29)) := hide (heap_old _ (heap_old _ (heap_new _ _)))
  have HZ : Hid ((((w.alloc (.cells #[.int .i64 kd, .int .i64 gr, .int .i64 gen, .slice a l.length k, .int .i64 pt, .int .i64 off] 29)).alloc (.cells #[.int .i64 0, .int .i64 0, .int .i64 0, .slice none 0 0, .int .i64 0, .int .i64 0] 29)).alloc (.cells #[] 3)).heap[w.heap.size + 1]? = some (.cells #[.int .i64 0, .int .i64 0, .int .i64 0, .slice none 0 0, .int .i64 0, .int .i64 0] 29)) := hide (heap_old _ (by have := heap_new (w.alloc (.cells #[.int .i64 kd, .int .i64 gr, .int .i64 gen, .slice a l.length k, .int .i64 pt, .int .i64 off] 29)) (.cells #[.int .i64 0, .int .i64 0, .int .i64 0, .slice none 0 0, .int .i64 0, .int .i64 0] 29); simpa using this))
  have HL : Hid (IL (((w.alloc (.cells #[.int .i64 kd, .int .i64 gr, .int .i64 gen, .slice a l.length k, .int .i64 pt, .int .i64 off] 29)).alloc (.cells #[.int .i64 0, .int .i64 0, .int .i64 0, .slice none 0 0, .int .i64 0, .int .i64 0] 29)).alloc (.cells #[] 3)) (.slice (some ⟨w.heap.size + 2, 0, none⟩) 0 0) []) := hide (by
    have := World.ownsRow_lit (base := 0) (e := 3) (size := 1) ((w.alloc (.cells #[.int .i64 kd, .int .i64 gr, .int .i64 gen, .slice a l.length k, .int .i64 pt, .int .i64 off] 29)).alloc (.cells #[.int .i64 0, .int .i64 0, .int .i64 0, .slice none 0 0, .int .i64 0, .int .i64 0] 29)) #[] 0 (Nat.zero_le _) (by simp) rfl
    have e1 : ((w.alloc (.cells #[.int .i64 kd, .int .i64 gr, .int .i64 gen, .slice a l.length k, .int .i64 pt, .int .i64 off] 29)).alloc (.cells #[.int .i64 0, .int .i64 0, .int .i64 0, .slice none 0 0, .int .i64 0, .int .i64 0] 29)).heap.size = w.heap.size + 2 := by simp
    rw [e1] at this
    exact this)
  have LX := hide ((unhide LI).later b3)
  clear b1 b2 b3 LI
  go_wp2_with (at_builtin; refine wpList_ints _ rfl (.tmp 3) (.tmp 5) rfl _ [] rfl (unhide HL) a k l rfl (unhide LX) hcap (by simp; omega) ?_; intro v3 w3 r3 t3 m3; obtain ⟨a3, k3, e3, _⟩ := r3.iat; simp only [List.nil_append] at e3 r3; subst e3; have T3 := hide t3; have M3 := hide m3; have R3 := hide r3; have H3 := hide (t3.keep (unhide HB) (fun e => absurd (Option.some.inj e : w.heap.size + 2 = w.heap.size) (by omega))); have Z3 := hide (t3.keep (unhide HZ) (fun e => absurd (Option.some.inj e : w.heap.size + 2 = w.heap.size + 1) (by omega))); have g0 := cell_of (unhide H3) 0; have g1 := cell_of (unhide H3) 1; have g2 := cell_of (unhide H3) 2; have g3 := cell_of (unhide H3) 3; have g4 := cell_of (unhide H3) 4; have g5 := cell_of (unhide H3) 5; have gf := frozen_of (unhide H3) 3; have j0 := cell_of (unhide Z3) 0; have j1 := cell_of (unhide Z3) 1; have j2 := cell_of (unhide Z3) 2; have j3 := cell_of (unhide Z3) 3; have j4 := cell_of (unhide Z3) 4; have j5 := cell_of (unhide Z3) 5; have jf := fun j => frozen_of (unhide Z3) j; simp at g0 j0 g1 j1 g2 j2 g3 j3 g4 j4 g5 j5; clear r3 t3 m3)
  have t4 := touch_set w3 w.heap.size 3 (.slice a3 l.length k3)
  obtain ⟨S1, S2⟩ := stR (.int .i64 kd) (.int .i64 gr) (.int .i64 gen) (.slice a3 l.length k3) (.int .i64 pt) (.int .i64 off) (t4.keep (unhide Z3) (by omega))
  have NB : ∀ k, (Value.slice a3 l.length k3).ownBlock = some k → w.heap.size + 2 ≤ k := fun k hk => by
    rcases unhide M3 k hk with e | e
    · have : w.heap.size + 2 = k := Option.some.inj e
      omega
    · simp at e
      omega
  have R4 := hide (((unhide R3).keep t4 (fun k hk e => by have := NB k hk; omega)).keep S2 (fun k hk e => by have := NB k hk; omega))
  have hs3 := (unhide T3).size
  have B4 := hide (below_touch (below_touch (below_touch (unhide B3) (unhide T3) (unhide B3).size (fun k hk => by have : w.heap.size + 2 = k := Option.some.inj hk; omega)) t4 (by have := (unhide B3).size; omega) (fun k hk => by omega)) S2 (by have := (unhide B3).size; have := t4.size; omega) (fun k hk => by omega))
  generalize (((((((w3.setCell ⟨w.heap.size, 3, none⟩ (.slice a3 l.length k3)).setCell ⟨w.heap.size + 1, 0, none⟩ (.int .i64 kd)).setCell ⟨w.heap.size + 1, 1, none⟩ (.int .i64 gr)).setCell ⟨w.heap.size + 1, 2, none⟩ (.int .i64 gen)).setCell ⟨w.heap.size + 1, 3, none⟩ (.slice a3 l.length k3)).setCell ⟨w.heap.size + 1, 4, none⟩ (.int .i64 pt)).setCell ⟨w.heap.size + 1, 5, none⟩ (.int .i64 off)) = Y at *
  have p0 := cell_of S1 0
  have p1 := cell_of S1 1
  have p2 := cell_of S1 2
  have p3 := cell_of S1 3
  have p4 := cell_of S1 4
  have p5 := cell_of S1 5
  simp at p0 p1 p2 p3 p4 p5
  refine bodyPost_ret (by simp [results, Try.results11, go_sem, p0, p1, p2, p3, p4, p5]; try rfl) rfl ?_
  exact ⟨a3, k3, rfl, unhide R4, fun k hk => by have := NB k hk; omega, unhide B4⟩
end
end Go.Proofs.Ytfbnkeflgddcmaa
