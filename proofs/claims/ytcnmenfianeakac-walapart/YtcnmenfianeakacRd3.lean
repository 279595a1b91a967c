/-
  codec.Reader's Fixed, Bytes, Ints, State, End, and NewReader. Conditions: the bytes are at most 2^47.
-/
import Derived.Test.YtcnmenfianeakacRd2
namespace Go.Proofs.Ytcnmenfianeakac
open Go.RowKit
set_option linter.unusedVariables false

set_option maxRecDepth 100000 in
theorem fix_or {x0 x1 x2 x3 : Nat} (h0 : x0 < 256) (h1 : x1 < 256) (h2 : x2 < 256) (h3 : x3 < 256) :
    bits BinOp.or IntKind.u32 (bits BinOp.or IntKind.u32 (bits BinOp.or IntKind.u32 (x0 : Int) ((x1 : Int) * 256)) ((x2 : Int) * 65536)) ((x3 : Int) * 16777216) = ((x0 + 256 * x1 + 65536 * x2 + 16777216 * x3 : Nat) : Int) := by
  have e1 := u32_or_nat x0 (x1 * 256) (by omega) (by omega)
  have e2 := u32_or_nat (x0 + 256 * x1) (x2 * 65536) (by omega) (by omega)
  have e3 := u32_or_nat (x0 + 256 * x1 + 65536 * x2) (x3 * 16777216) (by omega) (by omega)
  have j1 := nat_join 8 (x1 * 256) x0 (by omega) (by omega)
  have j2 := nat_join 16 (x2 * 65536) (x0 + 256 * x1) (by omega) (by omega)
  have j3 := nat_join 24 (x3 * 16777216) (x0 + 256 * x1 + 65536 * x2) (by omega) (by omega)
  have s1 : x0 ||| x1 * 256 = x0 + 256 * x1 := by rw [Nat.or_comm, j1]; omega
  have s2 : (x0 + 256 * x1) ||| x2 * 65536 = x0 + 256 * x1 + 65536 * x2 := by rw [Nat.or_comm, j2]; omega
  have s3 : (x0 + 256 * x1 + 65536 * x2) ||| x3 * 16777216 = x0 + 256 * x1 + 65536 * x2 + 16777216 * x3 := by rw [Nat.or_comm, j3]; omega
  rw [s1] at e1
  rw [s2] at e2
  rw [s3] at e3
  have c1 : ((x1 * 256 : Nat) : Int) = (x1 : Int) * 256 := by simp
  have c2 : ((x2 * 65536 : Nat) : Int) = (x2 : Int) * 65536 := by simp
  have c3 : ((x3 * 16777216 : Nat) : Int) = (x3 : Int) * 16777216 := by simp
  rw [c1] at e1
  rw [c2] at e2
  rw [c3] at e3
  rw [e1, e2, e3]

theorem cut_none {a : Option Addr} {k cap : Nat} (hn : a = none → cap = 0) (h : cut a k cap = none) : cap - k = 0 := by
  unfold cut at h
  split at h
  · omega
  · cases a with
    | none => have := hn rfl; omega
    | some x => simp at h
theorem cut_block {a : Option Addr} {k cap : Nat} {x : Addr} (h : cut a k cap = some x) : ∃ y, a = some y ∧ x.block = y.block := by
  unfold cut at h
  split at h
  · exact ⟨x, h, rfl⟩
  · cases a with
    | none => simp at h
    | some y =>
      simp only [Option.map_some, Option.some.injEq] at h
      subst h
      refine ⟨y, rfl, ?_⟩
      unfold Addr.add
      split <;> rfl

section
variable {a : Option Addr} {cap b : Nat} {t : List Nat} {s : Rst}

set_option maxRecDepth 100000 in
set_option maxHeartbeats 1000000 in
theorem rfixed_any (w : World) (h : RdAt 115 w b a cap t s) :
    Calls Try.prog 51 #[.pointer (some ⟨b, 0, none⟩)] w fun e w' => e = .returned (.int .u32 ((rX t s).1 : Nat)) ∧ RdAt 115 w' b a cap t (rX t s).2 ∧ Touch (· = b) w w' := by
  by_cases he : s.er = 0
  · by_cases hk : s.pl + 4 ≤ t.length
    · have K := hide (take_ok w 4 h he hk)
      have hx : rX t s = (unfix t s.pl, ⟨s.pl + 4, 0⟩) := by unfold rX; rw [if_pos he, if_pos hk]
      have hcp := h.hcap
      have hy := h.text.bytes
      rw [hx]
      clear h hx
      go_enter Try.func51, Try.ntmps51
      go_wp2_with fail
      refine (unhide K).mono ?_
      rintro e w1 ⟨rfl, h1, t1⟩
      have cells : ∀ i, i < 4 → ∃ cb off, cut a s.pl cap = some ⟨cb, off, none⟩ ∧ w1.cell? ⟨cb, off + i, none⟩ = some (.int .u8 (t.getD (s.pl + i) 0 : Nat)) := by
        intro i hi
        obtain ⟨cb, off, e1, _, e3, _⟩ := (h1.text.drop hcp s.pl).cell (i := i) (by rw [List.length_drop]; omega)
        have e : (t.drop s.pl).getD i 0 = t.getD (s.pl + i) 0 := by simp [List.getD]
        rw [e] at e3
        exact ⟨cb, off, e1, e3⟩
      obtain ⟨cb, off, ec, q0⟩ := cells 0 (by omega)
      obtain ⟨cb1, off1, ec1, q1⟩ := cells 1 (by omega)
      obtain ⟨cb2, off2, ec2, q2⟩ := cells 2 (by omega)
      obtain ⟨cb3, off3, ec3, q3⟩ := cells 3 (by omega)
      rw [ec] at ec1 ec2 ec3
      cases ec1
      cases ec2
      cases ec3
      rw [ec]
      have b0 : t.getD s.pl 0 < 256 := hy _ (getD_mem (by omega))
      have b1 : t.getD (s.pl + 1) 0 < 256 := hy _ (getD_mem (by omega))
      have b2 : t.getD (s.pl + 2) 0 < 256 := hy _ (getD_mem (by omega))
      have b3 : t.getD (s.pl + 3) 0 < 256 := hy _ (getD_mem (by omega))
      have hu : Hid (unfix t s.pl = t.getD s.pl 0 + 256 * t.getD (s.pl + 1) 0 + 65536 * t.getD (s.pl + 2) 0 + 16777216 * t.getD (s.pl + 3) 0) := rfl
      rw [Nat.add_zero, Nat.add_zero] at q0
      generalize t.getD s.pl 0 = x0 at *
      generalize t.getD (s.pl + 1) 0 = x1 at *
      generalize t.getD (s.pl + 2) 0 = x2 at *
      generalize t.getD (s.pl + 3) 0 = x3 at *
      have hor := fix_or b0 b1 b2 b3
      have H1 : Hid (∀ n, RdAt 115 (w1.drewN n) b a cap t ⟨s.pl + 4, 0⟩ ∧ Touch (· = b) w (w1.drewN n)) := fun n => ⟨h1.drewN n, t1.trans (touch_drewN w1 n)⟩
      clear h1 t1 K cells ec hy
      generalize cap - s.pl = cc at *
      go_wp2_with fail
      go_quiet (fail)
      go_wp2
      go_returns
      exact ⟨by rw [unhide hu]; simp, unhide H1 _⟩
    · have K := hide (take_few w 4 h he hk)
      have hx : rX t s = (0, ⟨s.pl, 6⟩) := by unfold rX; rw [if_pos he, if_neg hk]
      rw [hx]
      clear h hx
      go_enter Try.func51, Try.ntmps51
      go_wp2_with fail
      refine (unhide K).mono ?_
      rintro e w' ⟨rfl, h1⟩
      have H1 := hide h1
      clear h1 K
      go_wp2
      go_returns
      exact ⟨rfl, unhide H1⟩
  · have K := hide (take_stop w 4 h he)
    rw [rX_stop he]
    have H := hide h
    clear h
    go_enter Try.func51, Try.ntmps51
    go_wp2_with fail
    refine (unhide K).mono ?_
    rintro e w' ⟨rfl, rfl⟩
    go_wp2
    go_returns
    exact ⟨rfl, unhide H, Touch.refl _ _⟩

theorem touch_below {S : Nat → Prop} {w w1 w2 : World} (t1 : Touch S w w1) (hb : Below w1.heap.size w1 w2) : Touch S w w2 := t1.trans (Touch.of_below hb)

theorem rL_N (t : List Nat) (s : Rst) : rL t s = rNs t (rC t s).1 (rC t s).2 [] := by
  rw [rL_C]
  by_cases h : (rC t s).2.er = 0
  · rw [if_pos h]
  · rw [if_neg h, rC_zero h]; rfl

end
end Go.Proofs.Ytcnmenfianeakac
