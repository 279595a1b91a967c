/-
  codec.Reader's Fixed, Bytes, Ints, State, End, and NewReader. Conditions: the bytes are at most 2^47.
-/
import Derived.Test.YtfccddcoindnlaaRd2
namespace Go.Proofs.Ytfccddcoindnlaa
open Go.RowKit
set_option linter.unusedVariables false

set_option maxRecDepth 100000 in
theorem fix_or {x0 x1 x2 x3 : Nat} (h0 : x0 < 256) (h1 : x1 < 256) (h2 : x2 < 256) (h3 : x3 < 256) :
    bits BinOp.or IntKind.u32 (bits BinOp.or IntKind.u32 (bits BinOp.or IntKind.u32 (x0 : Int) ((x1 : Int) * 256)) ((x2 : Int) * 65536)) ((x3 : Int) * 16777216) = ((x0 + 256 * x1 + 65536 * x2 + 16777216 * x3 : Nat) : Int) := by
  have e1 := u32_or_nat x0 (x1 * 256) (by omega) (by omega)
  have e2 := u32_or_nat (x0 + 256 * x1) (x2 * 65536) (by omega) (by omega)
  have e3 := u32_or_nat (x0 + 256 * x1 + 65536 * x2) (x3 * 16777216) (by omega) (by omega)
  have j1 := nat_join 8 (x1 * 256) x0 (by omega) (by omega)
  have j2 := nat_join 16 (x2 * 65536) (x0 + 256 * x1) (by omega) (by omega)
  have j3 := nat_join 24 (x3 * 16777216) (x0 + 256 * x1 + 65536 * x2) (by omega) (by omega)
  have s1 : x0 ||| x1 * 256 = x0 + 256 * x1 := by rw [Nat.or_comm, j1]; omega
  have s2 : (x0 + 256 * x1) ||| x2 * 65536 = x0 + 256 * x1 + 65536 * x2 := by rw [Nat.or_comm, j2]; omega
  have s3 : (x0 + 256 * x1 + 65536 * x2) ||| x3 * 16777216 = x0 + 256 * x1 + 65536 * x2 + 16777216 * x3 := by rw [Nat.or_comm, j3]; omega
  rw [s1] at e1
  rw [s2] at e2
  rw [s3] at e3
  have c1 : ((x1 * 256 : Nat) : Int) = (x1 : Int) * 256 := by simp
  have c2 : ((x2 * 65536 : Nat) : Int) = (x2 : Int) * 65536 := by simp
  have c3 : ((x3 * 16777216 : Nat) : Int) = (x3 : Int) * 16777216 := by simp
  rw [c1] at e1
  rw [c2] at e2
  rw [c3] at e3
  rw [e1, e2, e3]

theorem cut_none {a : Option Addr} {k cap : Nat} (hn : a = none → cap = 0) (h : cut a k cap = none) : cap - k = 0 := by
  unfold cut at h
  split at h
  · omega
  · cases a with
    | none => have := hn rfl; omega
    | some x => simp at h
theorem cut_block {a : Option Addr} {k cap : Nat} {x : Addr} (h : cut a k cap = some x) : ∃ y, a = some y ∧ x.block = y.block := by
  unfold cut at h
  split at h
  · exact ⟨x, h, rfl⟩
  · cases a with
    | none => simp at h
    | some y =>
      simp only [Option.map_some, Option.some.injEq] at h
      subst h
      refine ⟨y, rfl, ?_⟩
      unfold Addr.add
      split <;> rfl

section
variable {a : Option Addr} {cap b : Nat} {t : List Nat} {s : Rst}

theorem touch_below {S : Nat → Prop} {w w1 w2 : World} (t1 : Touch S w w1) (hb : Below w1.heap.size w1 w2) : Touch S w w2 := t1.trans (Touch.of_below hb)

set_option maxRecDepth 100000 in
theorem rbytes_any (w : World) (h : RdAt 78 w b a cap t s) :
    Calls Try.prog 43 #[.pointer (some ⟨b, 0, none⟩)] w fun e w' => ∃ v, e = .returned v ∧ Row w' v (rB t s).1 ∧ New w v ∧ RdAt 78 w' b a cap t (rB t s).2 ∧ Touch (· = b) w w' := by
  have K := hide (count_any w h)
  have hB := rB_C t s
  clear h
  generalize rB t s = R at *
  generalize rC t s = q at *
  obtain ⟨n, q⟩ := q
  by_cases he : q.er = 0
  · rw [if_pos he] at hB
    by_cases hk : q.pl + n ≤ t.length
    · rw [if_pos hk] at hB
      subst hB
      go_enter Try.func43, Try.ntmps43
      go_wp2_with fail
      refine (unhide K).mono ?_
      rintro e w1 ⟨rfl, h1, t1⟩
      have T1 := hide t1
      have H1 := hide h1
      clear K h1 t1
      go_wp2_with fail
      refine (take_ok w1 n (unhide H1) he hk).mono ?_
      rintro e w2 ⟨rfl, h2, t2⟩
      have hl : ((t.drop q.pl).take n).length = n := by rw [List.length_take, List.length_drop]; omega
      have C := clone_any (cut a q.pl cap) ((t.drop q.pl).take n) (cap - q.pl) w2 ((h2.text.drop h2.hcap q.pl).take n) (cut_none h2.nil) (by rw [hl]; have := h2.len; omega)
      rw [hl] at C
      have CC := hide C
      have H2 := hide h2
      have T2 := hide t2
      clear C h2 t2 hl
      go_wp2_with fail
      refine (unhide CC).mono ?_
      rintro e w3 ⟨v, rfl, r3, n3, b3⟩
      have F := hide (And.intro r3 (And.intro (n3.mono (Nat.le_trans (unhide T1).size (unhide T2).size)) (And.intro ((unhide H2).later b3) (touch_below ((unhide T1).trans (unhide T2)) b3))))
      clear r3 n3 b3 CC
      go_wp2
      go_returns
      exact ⟨_, rfl, unhide F⟩
    · rw [if_neg hk] at hB
      subst hB
      go_enter Try.func43, Try.ntmps43
      go_wp2_with fail
      refine (unhide K).mono ?_
      rintro e w1 ⟨rfl, h1, t1⟩
      have T1 := hide t1
      have H1 := hide h1
      clear K h1 t1
      go_wp2_with fail
      refine (take_few w1 n (unhide H1) he hk).mono ?_
      rintro e w2 ⟨rfl, h2, t2⟩
      have CC := hide (clone_any none [] 0 w2 (fun i hi => by cases hi) (fun _ => rfl) (by simp))
      have H2 := hide h2
      have T2 := hide t2
      clear h2 t2
      go_wp2_with fail
      refine (unhide CC).mono ?_
      rintro e w3 ⟨v, rfl, r3, n3, b3⟩
      have F := hide (And.intro r3 (And.intro (n3.mono (Nat.le_trans (unhide T1).size (unhide T2).size)) (And.intro ((unhide H2).later b3) (touch_below ((unhide T1).trans (unhide T2)) b3))))
      clear r3 n3 b3 CC
      go_wp2
      go_returns
      exact ⟨_, rfl, unhide F⟩
  · rw [if_neg he] at hB
    subst hB
    go_enter Try.func43, Try.ntmps43
    go_wp2_with fail
    refine (unhide K).mono ?_
    rintro e w1 ⟨rfl, h1, t1⟩
    have T1 := hide t1
    have H1 := hide h1
    clear K h1 t1
    go_wp2_with fail
    refine (take_stop w1 n (unhide H1) he).mono ?_
    rintro e w2 ⟨rfl, rfl⟩
    have CC := hide (clone_any none [] 0 w2 (fun i hi => by cases hi) (fun _ => rfl) (by simp))
    go_wp2_with fail
    refine (unhide CC).mono ?_
    rintro e w3 ⟨v, rfl, r3, n3, b3⟩
    have F := hide (And.intro r3 (And.intro (n3.mono (unhide T1).size) (And.intro ((unhide H1).later b3) (touch_below (unhide T1) b3))))
    clear r3 n3 b3 CC
    go_wp2
    go_returns
    exact ⟨_, rfl, unhide F⟩

theorem rL_N (t : List Nat) (s : Rst) : rL t s = rNs t (rC t s).1 (rC t s).2 [] := by
  rw [rL_C]
  by_cases h : (rC t s).2.er = 0
  · rw [if_pos h]
  · rw [if_neg h, rC_zero h]; rfl

end
end Go.Proofs.Ytfccddcoindnlaa
