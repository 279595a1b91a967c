/-
  The statements' own 'take': it answers true, and both readers go on alike. Conditions: the bytes are at most 2^47.
-/
import Derived.Test.YtnhociggoagpoaaLaw3
import Derived.Test.YtnhociggoagpoaaRf3
namespace Go.Proofs.Ytnhociggoagpoaa
open Go.RowKit
set_option linter.unusedVariables false

/-- The two readers lie apart. -/
structure Apart (t : List Nat) (b1 : Nat) (a1 : Option Addr) (b2 : Nat) (a2 : Option Addr) : Prop where
  ne : b1 ≠ b2
  l : 0 < t.length → ∀ x, a1 = some x → x.block ≠ b2
  r : 0 < t.length → ∀ x, a2 = some x → x.block ≠ b1
/-- The two readers, alike. -/
structure Both (w : World) (b1 : Nat) (a1 : Option Addr) (c1 : Nat) (b2 : Nat) (a2 : Option Addr) (c2 : Nat) (t : List Nat) (s : Rst) : Prop where
  l : RdAt 74 w b1 a1 c1 t s
  r : RdAt 41 w b2 a2 c2 t s
  ap : Apart t b1 a1 b2 a2
def One2 (b1 b2 k : Nat) : Prop := k = b1 ∨ k = b2
theorem both_step {w w1 w2 : World} {b1 : Nat} {a1 : Option Addr} {c1 b2 : Nat} {a2 : Option Addr} {c2 : Nat} {t : List Nat} {s : Rst} (ap : Apart t b1 a1 b2 a2)
    (h1 : RdAt 74 w1 b1 a1 c1 t s) (t1 : Touch (· = b1) w w1) (h2 : RdAt 41 w2 b2 a2 c2 t s) (t2 : Touch (· = b2) w1 w2) : Both w2 b1 a1 c1 b2 a2 c2 t s ∧ Touch (One2 b1 b2) w w2 :=
  ⟨⟨h1.keep t2 ap.ne (fun h0 x hx => ap.l h0 x hx), h2, ap⟩, (t1.mono (fun _ h => .inl h)).trans (t2.mono (fun _ h => .inr h))⟩
theorem right_later {w w1 : World} {b1 : Nat} {a1 : Option Addr} {c1 b2 : Nat} {a2 : Option Addr} {c2 : Nat} {t : List Nat} {s : Rst} (h : Both w b1 a1 c1 b2 a2 c2 t s) (t1 : Touch (· = b1) w w1) : RdAt 41 w1 b2 a2 c2 t s :=
  h.r.keep t1 (fun e => h.ap.ne e.symm) (fun h0 x hx => h.ap.r h0 x hx)
theorem Both.drewN {w : World} {b1 : Nat} {a1 : Option Addr} {c1 b2 : Nat} {a2 : Option Addr} {c2 : Nat} {t : List Nat} {s : Rst} (h : Both w b1 a1 c1 b2 a2 c2 t s) (n : Nat) : Both (w.drewN n) b1 a1 c1 b2 a2 c2 t s := ⟨h.l.drewN n, h.r.drewN n, h.ap⟩

section
variable {b1 : Nat} {a1 : Option Addr} {c1 b2 : Nat} {a2 : Option Addr} {c2 : Nat} {t : List Nat} {s : Rst}

set_option maxRecDepth 100000 in
set_option maxHeartbeats 1000000 in
theorem take3_any (w : World) (k : Int) (h : Both w b1 a1 c1 b2 a2 c2 t s) :
    Calls Try.prog 15 #[.pointer (some ⟨b1, 0, none⟩), .pointer (some ⟨b2, 0, none⟩), .int .i64 k] w fun e w' => e = .returned (.bool true) ∧ Both w' b1 a1 c1 b2 a2 c2 t (rK t k s) ∧ Touch (One2 b1 b2) w w' := by
  have H := hide h
  have hlt2 := h.r.lt
  have hlen := h.l.len
  clear h
  by_cases k0 : k = 0
  · subst k0
    have E : rK t 0 s = (rU t s).2 := by unfold rK; rw [if_pos rfl]
    rw [E]
    go_enter Try.func15, Try.ntmps15
    go_wp2_with fail
    refine (ruint_any w (unhide H).l).mono ?_
    rintro e w1 ⟨rfl, h1, t1⟩
    have K := hide (fuint_any w1 (right_later (unhide H) t1))
    have H1 := hide h1
    have T1 := hide t1
    clear h1 t1
    go_wp2_with fail
    refine (unhide K).mono ?_
    rintro e w2 ⟨rfl, h2, t2⟩
    have F := hide (both_step (unhide H).ap (unhide H1) (unhide T1) h2 t2)
    clear h2 t2 K E
    go_wp2
    go_returns
    exact ⟨by simp, unhide F⟩
  by_cases k1 : k = 1
  · subst k1
    have E : rK t 1 s = (rI t s).2 := by unfold rK; rw [if_neg (by decide), if_pos rfl]
    rw [E]
    go_enter Try.func15, Try.ntmps15
    go_wp2_with fail
    refine (rint_any w (unhide H).l).mono ?_
    rintro e w1 ⟨rfl, h1, t1⟩
    have K := hide (fint_any w1 (right_later (unhide H) t1))
    have H1 := hide h1
    have T1 := hide t1
    clear h1 t1
    go_wp2_with fail
    refine (unhide K).mono ?_
    rintro e w2 ⟨rfl, h2, t2⟩
    have F := hide (both_step (unhide H).ap (unhide H1) (unhide T1) h2 t2)
    clear h2 t2 K E
    go_wp2
    go_returns
    exact ⟨by simp, unhide F⟩
  by_cases k2 : k = 2
  · subst k2
    have E : rK t 2 s = (rF t s).2 := by unfold rK; rw [if_neg (by decide), if_neg (by decide), if_pos rfl]
    rw [E]
    go_enter Try.func15, Try.ntmps15
    go_wp2_with fail
    refine (rflag_any w (unhide H).l).mono ?_
    rintro e w1 ⟨rfl, h1, t1⟩
    have K := hide (fflag_any w1 (right_later (unhide H) t1))
    have H1 := hide h1
    have T1 := hide t1
    clear h1 t1
    go_wp2_with fail
    refine (unhide K).mono ?_
    rintro e w2 ⟨rfl, h2, t2⟩
    have F := hide (both_step (unhide H).ap (unhide H1) (unhide T1) h2 t2)
    clear h2 t2 K E
    go_wp2
    go_returns
    exact ⟨by simp, unhide F⟩
  by_cases k3 : k = 3
  · subst k3
    have E : rK t 3 s = (rX t s).2 := by unfold rK; rw [if_neg (by decide), if_neg (by decide), if_neg (by decide), if_pos rfl]
    rw [E]
    go_enter Try.func15, Try.ntmps15
    go_wp2_with fail
    refine (rfixed_any w (unhide H).l).mono ?_
    rintro e w1 ⟨rfl, h1, t1⟩
    have K := hide (ffixed_any w1 (right_later (unhide H) t1))
    have H1 := hide h1
    have T1 := hide t1
    clear h1 t1
    go_wp2_with fail
    refine (unhide K).mono ?_
    rintro e w2 ⟨rfl, h2, t2⟩
    have F := hide (both_step (unhide H).ap (unhide H1) (unhide T1) h2 t2)
    clear h2 t2 K E
    go_wp2
    go_returns
    exact ⟨by simp, unhide F⟩
  by_cases k4 : k = 4
  · subst k4
    have E : rK t 4 s = (rB t s).2 := by unfold rK; rw [if_neg (by decide), if_neg (by decide), if_neg (by decide), if_neg (by decide), if_pos rfl]
    have hl4 : (rB t s).1.length ≤ 140737488355328 := by
      unfold rB
      split
      · split
        · simp
        · split
          · simp only [List.length_take, List.length_drop]; omega
          · simp
      · simp
    rw [E]
    go_enter Try.func15, Try.ntmps15
    go_wp2_with fail
    refine (rbytes_any w (unhide H).l).mono ?_
    rintro e w1 ⟨v1, rfl, r1, n1, h1, t1⟩
    have K := hide (fbytes_any w1 (right_later (unhide H) t1))
    have H1 := hide h1
    have T1 := hide t1
    have R1 := hide r1
    have N1 := hide n1
    clear h1 t1 r1 n1
    go_wp2_with fail
    refine (unhide K).mono ?_
    rintro e w2 ⟨v2, rfl, r2, n2, h2, t2⟩
    have F := hide (both_step (unhide H).ap (unhide H1) (unhide T1) h2 t2)
    obtain ⟨x1, y1, rfl, l1, _⟩ := ((unhide R1).keep t2 (fun k hk e => by have := unhide N1 k hk; omega)).parts
    obtain ⟨x2, y2, rfl, l2, _⟩ := r2.parts
    have SM := hide (same_any w2 x1 x2 y1 y2 _ l1 l2 (by omega))
    clear h2 t2 K E r2 n2 R1 N1 l1 l2
    go_wp2_with fail
    refine (unhide SM).mono ?_
    rintro e w3 ⟨rfl, n, rfl⟩
    go_wp2
    go_returns
    exact ⟨rfl, (unhide F).1.drewN n, (unhide F).2.trans (touch_drewN _ _)⟩
  · have E : rK t k s = (rL t s).2 := by unfold rK; rw [if_neg k0, if_neg k1, if_neg k2, if_neg k3, if_neg k4]
    rw [E]
    clear E
    have hl4 : (rL t s).1.length ≤ 9223372036854775807 := by
      have hN : ∀ (j : Nat) (p : Rst) (acc : List Int), (rNs t j p acc).1.length ≤ acc.length + j := by
        intro j
        induction j with
        | zero => intro p acc; simp [rNs]
        | succ j ih =>
          intro p acc
          rw [rNs]; split
          · have := ih (rI t p).2 (acc ++ [(rI t p).1]); simp at this; omega
          · simp
      rw [rL_N]
      have := hN (rC t s).1 (rC t s).2 []
      have := rC_le t s
      simp at *
      omega
    go_enter Try.func15, Try.ntmps15
    go_wp2_with fail
    refine (rints_any w (unhide H).l).mono ?_
    rintro e w1 ⟨v1, rfl, r1, n1, h1, t1⟩
    have K := hide (fints_any w1 (right_later (unhide H) t1))
    have H1 := hide h1
    have T1 := hide t1
    have R1 := hide r1
    have N1 := hide n1
    clear h1 t1 r1 n1
    go_wp2_with fail
    refine (unhide K).mono ?_
    rintro e w2 ⟨v2, rfl, r2, n2, h2, t2⟩
    have F := hide (both_step (unhide H).ap (unhide H1) (unhide T1) h2 t2)
    obtain ⟨x1, y1, rfl, l1, _⟩ := ((unhide R1).keep t2 (fun k hk e => by have := unhide N1 k hk; omega)).parts
    obtain ⟨x2, y2, rfl, l2, _⟩ := IRow.parts r2
    have SM := hide (sameints_any w2 x1 x2 y1 y2 _ l1 l2 hl4)
    clear h2 t2 K r2 n2 R1 N1 l1 l2
    go_wp2_with fail
    refine (unhide SM).mono ?_
    rintro e w3 ⟨rfl, n, rfl⟩
    go_wp2
    go_returns
    exact ⟨rfl, (unhide F).1.drewN n, (unhide F).2.trans (touch_drewN _ _)⟩
end
end Go.Proofs.Ytnhociggoagpoaa
