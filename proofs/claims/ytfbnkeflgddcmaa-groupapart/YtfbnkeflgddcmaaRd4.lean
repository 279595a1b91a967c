/-
  codec.Reader's State and End, NewReader, what there isn't; and penstockref03's Same and SameInts of equal lists. Conditions: the bytes are at most 2^47.
-/
import Derived.Test.YtfbnkeflgddcmaaRd3
namespace Go.Proofs.Ytfbnkeflgddcmaa
open Go.RowKit
set_option linter.unusedVariables false

/-- What End answers. -/
def rE (t : List Nat) (s : Rst) : Nat := if s.er = 0 ∧ s.pl < t.length then 6 else s.er

section
variable {a : Option Addr} {cap b : Nat} {t : List Nat} {s : Rst}

set_option maxRecDepth 100000 in
theorem state_any (w : World) (h : RdAt 87 w b a cap t s) :
    Calls Try.prog 47 #[.pointer (some ⟨b, 0, none⟩)] w fun e w' => e = .returned (.tuple #[.int .i64 (s.pl : Nat), .int .i64 ((t.length - s.pl : Nat) : Int), .int .i64 (s.er : Nat)]) ∧ ∃ n, w' = w.drewN n := by
  have c0 := h.c0
  have c1 := h.c1
  have c2 := h.c2
  have hpl := h.pl
  have hlen := h.len
  clear h
  have hsub : (t.length : Int) - (s.pl : Int) = ((t.length - s.pl : Nat) : Int) := by omega
  go_enter Try.func47, Try.ntmps47
  go_wp2_with fail
  go_quiet (fail)
  go_wp2
  go_returns
  exact ⟨by rw [← hsub]; rfl, _, rfl⟩

set_option maxRecDepth 100000 in
theorem end_any (w : World) (h : RdAt 87 w b a cap t s) :
    Calls Try.prog 39 #[.pointer (some ⟨b, 0, none⟩)] w fun e w' => e = .returned (.int .i64 (rE t s : Nat)) ∧ ∃ n, w' = w.drewN n := by
  have K := hide (state_any w h)
  have hpl := h.pl
  clear h
  by_cases he : s.er = 0
  · have he' : ((s.er : Nat) : Int) = 0 := by omega
    by_cases hl : s.pl < t.length
    · have E : Hid (rE t s = 6) := by show _ = _; unfold rE; rw [if_pos ⟨he, hl⟩]
      obtain ⟨d, hd, hd0⟩ : ∃ d : Nat, t.length - s.pl = d ∧ (0 : Int) < (d : Int) := ⟨_, rfl, by omega⟩
      rw [hd, he] at K
      go_enter Try.func39, Try.ntmps39
      go_wp2_with fail
      refine (unhide K).mono ?_
      rintro e w' ⟨rfl, n, rfl⟩
      go_wp2
      go_returns
      exact ⟨by rw [unhide E]; rfl, _, rfl⟩
    · have E : Hid (rE t s = 0) := by show _ = _; unfold rE; rw [if_neg (by omega), he]
      have hd : t.length - s.pl = 0 := by omega
      rw [hd, he] at K
      go_enter Try.func39, Try.ntmps39
      go_wp2_with fail
      refine (unhide K).mono ?_
      rintro e w' ⟨rfl, n, rfl⟩
      go_wp2
      go_returns
      exact ⟨by rw [unhide E]; rfl, _, rfl⟩
  · have E : Hid (rE t s = s.er) := by show _ = _; unfold rE; rw [if_neg (by omega)]
    generalize s.er = z at *
    have he' : ¬ ((z : Nat) : Int) = 0 := by omega
    generalize t.length - s.pl = d at *
    go_enter Try.func39, Try.ntmps39
    go_wp2_with fail
    refine (unhide K).mono ?_
    rintro e w' ⟨rfl, n, rfl⟩
    go_wp2
    go_returns
    exact ⟨by rw [unhide E]; rfl, _, rfl⟩
end

set_option maxRecDepth 100000 in
theorem newreader_any (w : World) (a : Option Addr) (cap : Nat) (t : List Nat) (h : LAt w a t) (hn : a = none → cap = 0) (hl : t.length ≤ 140737488355328) :
    Calls Try.prog 36 #[.slice a t.length cap] w fun e w' => ∃ b a' cap', e = .returned (.pointer (some ⟨b, 0, none⟩)) ∧ RdAt 87 w' b a' cap' t ⟨0, 0⟩ ∧ Below w.heap.size w w' ∧ w.heap.size ≤ b ∧ ∀ x, a' = some x → w.heap.size ≤ x.block := by
  have K := hide (clone_any a t cap w h hn hl)
  clear h
  go_enter Try.func36, Try.ntmps36
  go_wp2_with fail
  refine (unhide K).mono ?_
  rintro e w1 ⟨v, rfl, r, n, bl⟩
  have hlt := r.lt
  obtain ⟨a', cap', rfl, hr, hc, hm, hn', ho, _⟩ := r.parts
  have F : Hid (RdAt 87 (w1.alloc (.cells #[.slice a' t.length cap', .int .i64 0, .int .i64 0] 87)) w1.heap.size a' cap' t ⟨0, 0⟩ ∧ Below w.heap.size w (w1.alloc (.cells #[.slice a' t.length cap', .int .i64 0, .int .i64 0] 87)) ∧ w.heap.size ≤ w1.heap.size ∧ ∀ x, a' = some x → w.heap.size ≤ x.block) := by
    refine ⟨⟨heap_new _ _, hr.keep ((Touch.refl (fun _ => False) w1).alloc _) (fun _ _ _ h => h), fun _ x hx => ?_, hc, hn', Nat.zero_le _, by simp, hl⟩, bl.alloc bl.size _, bl.size, fun x hx => n x.block (ho x hx)⟩
    have := hlt x.block (ho x hx)
    omega
  clear r n bl hlt hr ho K
  go_wp2
  go_returns
  exact ⟨_, _, _, rfl, unhide F⟩

theorem state_nil (w : World) :
    Calls Try.prog 47 #[.pointer none] w fun e w' => e = .returned (.tuple #[.int .i64 0, .int .i64 0, .int .i64 5]) ∧ w' = w := by
  go_enter Try.func47, Try.ntmps47
  go_wp2
  go_returns
  exact ⟨rfl, rfl⟩

set_option maxRecDepth 100000 in
theorem sameints_any (w : World) (a c : Option Addr) (ca cc : Nat) (l : List Int) (ha : IAt w a l) (hc : IAt w c l) (hl : l.length ≤ 9223372036854775807) :
    Calls Try.prog 13 #[.slice a l.length ca, .slice c l.length cc] w fun e w' => e = .returned (.bool true) ∧ ∃ n, w' = w.drewN n := by
  have HA := hide ha
  have HC := hide hc
  clear ha hc
  go_enter Try.func13, Try.ntmps13
  go_wp2_with fail
  go_loopw [5] (fun i wr => ∃ k n : Nat, k ≤ l.length ∧ i = .int .i64 k ∧ wr = w.drewN n) (fun i _ => l.length - (intOf i).toNat)
  case atStart => exact ⟨0, 0, Nat.zero_le _, rfl, rfl⟩
  case round =>
    obtain ⟨k, n, hk, rfl, rfl⟩ := hrel
    by_cases h8 : k < l.length
    · obtain ⟨b1, o1, rfl, _, e1⟩ := (unhide HA) k h8
      obtain ⟨b2, o2, rfl, _, e2⟩ := (unhide HC) k h8
      generalize l.getD k 0 = x at *
      have h8' : (k : Int) < (l.length : Int) := by omega
      go_wp2_with fail
      go_quiet (fail)
      go_wp2
      go_roundw
      case rel => exact ⟨k + 1, n + nq, by omega, by go_num, by simp⟩
      case measure => simp [intOf]; omega
    · obtain rfl : k = l.length := by omega
      go_wp2
      go_returns
      exact ⟨rfl, n, rfl⟩
end Go.Proofs.Ytfbnkeflgddcmaa
