/-
  CodecNumbers walked: it answers true. No conditions.
-/
import Derived.Test.YtnhociggoagpoaaWc
namespace Go.Proofs.Ytnhociggoagpoaa
open Go.RowKit
set_option linter.unusedVariables false

set_option maxRecDepth 100000 in
set_option maxHeartbeats 4000000 in
theorem codecNumbers_walk (n m : Nat) (i : Int) (w : World) (hn : n < 18446744073709551616) (hm : m < 18446744073709551616) (h1 : -9223372036854775808 ≤ i) (h2 : i < 9223372036854775808) :
    Calls Try.prog 6 #[.int .u64 n, .int .u64 m, .int .i64 i] w fun e w' => e = .returned (.bool true) ∧ Below w.heap.size w w' := by
  have ln := enc_len10 hn
  have lm := enc_len10 hm
  have lz := enc_len10 (zig_lt h1 h2)
  have pn := enc_pos n
  have mono : n ≤ m → (enc n).length ≤ (enc m).length := fun h => enc_mono n m h
  have few := enc_few n
  have FIN : Hid ((((((enc n).length : Nat) : Int) == 1) || decide (IntKind.u64.wrap (2 ^ (7 * ((enc n).length - 1))) ≤ (n : Int))) = true) := by
    show _ = true
    generalize (enc n).length = L at *
    by_cases h : L = 1
    · subst h; rfl
    · obtain ⟨k, rfl⟩ : ∃ k, L = k + 2 := ⟨L - 2, by omega⟩
      have f := few k rfl
      have e : (2 : Int) ^ (7 * (k + 2 - 1)) = ((128 ^ (k + 1) : Nat) : Int) := by
        rw [← pow7, show k + 2 - 1 = k + 1 by omega]; simp
      rw [e, IntKind.wrap_u64]
      generalize 128 ^ (k + 1) = y at *
      have : ((y : Nat) : Int) % 18446744073709551616 ≤ (n : Int) := by omega
      rw [decide_eq_true this, Bool.or_true]
  obtain ⟨t, ht⟩ : ∃ t, t = enc n ++ (enc m ++ enc (zig i)) := ⟨_, rfl⟩
  have r1 : rU t ⟨0, 0⟩ = (n, ⟨(enc n).length, 0⟩) := by
    have := rU_enc (t := t) (s := ⟨0, 0⟩) (n := n) (u := enc m ++ enc (zig i)) rfl (by rw [ht]; rfl) hn
    simpa using this
  have d1 : t.drop (enc n).length = enc m ++ enc (zig i) := by rw [ht]; exact List.drop_left
  have r2 : rU t ⟨(enc n).length, 0⟩ = (m, ⟨(enc n).length + (enc m).length, 0⟩) := rU_enc (s := ⟨(enc n).length, 0⟩) rfl d1 hm
  have d2 : t.drop ((enc n).length + (enc m).length) = enc (zig i) ++ [] := by rw [drop_next d1]; simp
  have r3 : rI t ⟨(enc n).length + (enc m).length, 0⟩ = (i, ⟨(enc n).length + (enc m).length + (enc (zig i)).length, 0⟩) := rI_enc (s := ⟨(enc n).length + (enc m).length, 0⟩) rfl d2 h1 h2
  have tl : t.length = (enc n).length + (enc m).length + (enc (zig i)).length := by rw [ht]; simp; omega
  have r4 : rE t ⟨(enc n).length + (enc m).length + (enc (zig i)).length, 0⟩ = 0 := by unfold rE; rw [if_neg]; simp; omega
  have R1 := hide r1
  have R2 := hide r2
  have R3 := hide r3
  have R4 := hide r4
  have HT := hide ht
  have tl' : t.length ≤ 40 := by omega
  clear r1 r2 r3 r4 d1 d2 ht tl
  generalize hla : (enc n).length = L at *
  generalize hlb : (enc m).length = M at *
  generalize hlz : (enc (zig i)).length = Z at *
  have HA := hide hla
  have HB := hide hlb
  have HZ := hide hlz
  clear hla hlb hlz
  go_enter Try.func6, Try.ntmps6
  go_wp2_with fail
  refine (new_c w).mono ?_
  rintro e w1 ⟨rfl, a⟩
  have C := hide a
  clear a
  go_wp2_with fail
  refine (awake_c (unhide C)).mono ?_
  rintro e w2 ⟨rfl, a⟩
  have C := hide a
  clear a
  go_wp2_with fail
  refine (uint_c n (unhide C) hn (by simp)).mono ?_
  rintro e w3 ⟨rfl, v3, a⟩
  rw [List.nil_append] at a
  have C := hide a
  clear a
  go_wp2_with fail
  refine (out_c (unhide C) (by rw [unhide HA]; omega)).mono ?_
  rintro e w4 ⟨vo4, rfl, a, r, _, _⟩
  have C := hide a
  obtain ⟨x4, y4, rfl, _⟩ := r.parts
  rw [unhide HA]
  clear a r
  go_wp2_with fail
  refine (uint_c m (unhide C) hm (by rw [unhide HA]; omega)).mono ?_
  rintro e w5 ⟨rfl, v5, a⟩
  have C := hide a
  clear a
  go_wp2_with fail
  refine (out_c (unhide C) (by rw [List.length_append, unhide HA, unhide HB]; omega)).mono ?_
  rintro e w6 ⟨vo6, rfl, a, r, _, _⟩
  have C := hide a
  obtain ⟨x6, y6, rfl, _⟩ := r.parts
  rw [List.length_append, unhide HA, unhide HB]
  clear a r
  go_wp2_with fail
  refine (int_c i (unhide C) h1 h2 (by rw [List.length_append, unhide HA, unhide HB]; omega)).mono ?_
  rintro e w7 ⟨rfl, v7, a⟩
  rw [List.append_assoc, ← unhide HT] at a
  have C := hide a
  clear a
  go_wp2_with fail
  refine (out_c (unhide C) (by omega)).mono ?_
  rintro e w8 ⟨vo8, rfl, a, r, _, _⟩
  obtain ⟨x8, y8, rfl, l8, _, _, n8, _⟩ := r.parts
  have RC := hide (reader_c a.below x8 y8 t l8 n8 (by omega))
  clear a r l8 C
  go_wp2_with fail
  refine (unhide RC).mono ?_
  rintro e w9 ⟨b9, a9, c9, rfl, a, _⟩
  have C := hide a
  clear a RC
  have hL1 : ¬ (L : Int) < 1 := by omega
  have hL10 : ¬ (10 : Int) < (L : Int) := by omega
  have hmono : (n : Int) ≤ (m : Int) → ¬ ((L : Int) + (M : Int) - (L : Int)) < (L : Int) := fun h => by have := mono (by omega); omega
  by_cases hnm : n ≤ m
  all_goals
    first
      | (have hnm' : (n : Int) ≤ (m : Int) := by omega
         have hc := hmono hnm')
      | (have hnm' : ¬ (n : Int) ≤ (m : Int) := by omega)
    go_wp2_with fail
    refine (ruint_c (unhide C) (unhide R1)).mono ?_
    rintro e w10 ⟨rfl, a⟩
    have C := hide a
    clear a
    go_wp2_with fail
    refine (ruint_c (unhide C) (unhide R2)).mono ?_
    rintro e w11 ⟨rfl, a⟩
    have C := hide a
    clear a
    go_wp2_with fail
    refine (rint_c (unhide C) (unhide R3)).mono ?_
    rintro e w12 ⟨rfl, a⟩
    have C := hide a
    clear a
    go_wp2_with fail
    refine (end_c (unhide C) (unhide R4)).mono ?_
    rintro e w13 ⟨rfl, a⟩
    have BB := hide a.below
    clear a C
    go_wp2_with fail
    all_goals
      go_returns
      refine ⟨?_, unhide BB⟩
      first
        | rfl
        | (show Ending.returned (Value.bool _) = _; rw [unhide FIN])
end Go.Proofs.Ytnhociggoagpoaa
