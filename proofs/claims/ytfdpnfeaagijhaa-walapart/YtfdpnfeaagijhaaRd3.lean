/-
  codec.Reader's Fixed, Bytes, Ints, State, End, and NewReader. Conditions: the bytes are at most 2^47.
-/
import Derived.Test.YtfdpnfeaagijhaaRd

/-
  codec.Reader's other calls. Conditions: the bytes are at most 2^47.
-/
namespace Go.Proofs.Ytfdpnfeaagijhaa
open Go.RowKit
set_option linter.unusedVariables false

/-- Rows of whole numbers with a sign. -/
def ivals (l : List Int) : List Value := l.map (fun x : Int => Value.int .i64 x)
def IRow (w : World) (v : Value) (l : List Int) : Prop := Own w 3 v (ivals l)
theorem ivals_len (l : List Int) : (ivals l).length = l.length := by simp [ivals]
theorem ivals_at {l : List Int} {j : Nat} (h : j < l.length) : (ivals l)[j]? = some (.int .i64 (l.getD j 0)) := by simp [ivals, List.getD, h]
theorem IRow.nil (w : World) : IRow w (.slice none 0 0) [] := Own.nil _ _
theorem IRow.keep {w w' : World} {v : Value} {l : List Int} {S : Nat → Prop} (h : IRow w v l) (t : Touch S w w') (hs : ∀ k, v.ownBlock = some k → ¬ S k) : IRow w' v l := Own.keep h t hs
theorem IRow.later {w w' : World} {v : Value} {l : List Int} (h : IRow w v l) (hb : Below w.heap.size w w') : IRow w' v l := Own.later h hb
theorem IRow.parts {w : World} {v : Value} {l : List Int} (h : IRow w v l) : ∃ a cap, v = .slice a l.length cap ∧ IAt w a l ∧ l.length ≤ cap ∧ cap ≤ maxLen ∧ (a = none → cap = 0) ∧ (∀ x, a = some x → v.ownBlock = some x.block) ∧ (∀ i, i < l.length → ∃ g, a = some ⟨g, 0, none⟩ ∧ w.frozen? ⟨g, i, none⟩ = false) := by
  obtain ⟨a, cap, e1, e2, e3, e4, e5, e6⟩ := Own.parts h
  rw [ivals_len] at e1 e2
  refine ⟨a, cap, e1, fun i hi => ?_, e2, e3, e4, e5, fun i hi => ?_⟩
  · obtain ⟨g, ha, hg, hc, _⟩ := e6 i (by rw [ivals_len]; exact hi)
    exact ⟨g, 0, ha, hg, by rw [Nat.zero_add, hc]; exact ivals_at hi⟩
  · obtain ⟨g, ha, hg, hc, hf⟩ := e6 i (by rw [ivals_len]; exact hi)
    exact ⟨g, ha, hf⟩
theorem int_info : ∃ i, Try.prog.info? 3 = some i ∧ i.zero = some (.int .i64 0) ∧ i.size = 1 ∧ i.bytes = 8 := by
  have h : (Try.prog.info? 3).map (fun i => (i.zero, i.size, i.bytes)) = some (some (.int .i64 0), 1, 8) := by kernel_rfl
  exact info_parts h
theorem slice_lh (a : Option Addr) (len cap k n : Nat) (hn : k + n ≤ cap) (w : World) : (Instr.slice 32 (.slice a len cap) (some (.int .i64 (k : Int))) (some (.int .i64 ((k : Int) + (n : Int)))) none).run Try.prog w = .ok (.slice (cut a k cap) n (cap - k)) w := by
  have hel : Try.prog.underlying 32 = some (.slice (Try.prog.elem 32)) := by kernel_rfl
  have hsz : ∀ w, (sizeOf (Try.prog.elem 32)).run Try.prog w = .ok 1 w := fun _ => by kernel_rfl
  rw [run_slice_lh w 32 a len cap hel .i64 .i64 (k : Int) ((k : Int) + (n : Int)) (by omega) (by omega) (by omega), hsz]
  have e1 : ((k : Int) + (n : Int)).toNat = k + n := by omega
  simp [Result.andThen, sliced, cut, e1]

/-- A count: above 4096 it is refused. -/
def rC (t : List Nat) (s : Rst) : Nat × Rst := if 4096 < (rU t s).1 then (0, ⟨(rU t s).2.pl, 2⟩) else rU t s
theorem rC_le (t : List Nat) (s : Rst) : (rC t s).1 ≤ 4096 := by
  unfold rC; split
  · exact Nat.zero_le _
  · omega
theorem rC_zero {t : List Nat} {s : Rst} (h : (rC t s).2.er ≠ 0) : (rC t s).1 = 0 := by
  unfold rC at h ⊢
  split
  · rfl
  · rename_i hn; rw [if_neg hn] at h; exact rU_zero h
theorem rC_err {t : List Nat} {s : Rst} (h : ¬ (rU t s).2.er = 0) : rC t s = rU t s := by unfold rC; rw [if_neg (by rw [rU_zero h]; omega)]
theorem rB_C (t : List Nat) (s : Rst) : rB t s = if (rC t s).2.er = 0 then (if (rC t s).2.pl + (rC t s).1 ≤ t.length then ((t.drop (rC t s).2.pl).take (rC t s).1, ⟨(rC t s).2.pl + (rC t s).1, 0⟩) else ([], ⟨(rC t s).2.pl, 6⟩)) else ([], (rC t s).2) := by
  unfold rB
  by_cases h : (rU t s).2.er = 0
  · rw [if_pos h]
    by_cases hn : 4096 < (rU t s).1
    · rw [if_pos hn]; unfold rC; rw [if_pos hn, if_neg (by simp)]
    · rw [if_neg hn]; unfold rC; rw [if_neg hn, if_pos h]
  · rw [if_neg h, rC_err h, if_neg h]
theorem rL_C (t : List Nat) (s : Rst) : rL t s = if (rC t s).2.er = 0 then rNs t (rC t s).1 (rC t s).2 [] else ([], (rC t s).2) := by
  unfold rL
  by_cases h : (rU t s).2.er = 0
  · rw [if_pos h]
    by_cases hn : 4096 < (rU t s).1
    · rw [if_pos hn]; unfold rC; rw [if_pos hn, if_neg (by simp)]
    · rw [if_neg hn]; unfold rC; rw [if_neg hn, if_pos h]
  · rw [if_neg h, rC_err h, if_neg h]

section
variable {a : Option Addr} {cap b : Nat} {t : List Nat} {s : Rst}

theorem er_store {w w' : World} {e : Nat} (he : e ≤ 7) (h : RdAt 112 w' b a cap t s) (tc : Touch (· = b) w w') :
    RdAt 112 (w'.setCell ⟨b, 2, none⟩ (.int .i64 (e : Nat))) b a cap t ⟨s.pl, e⟩ ∧ Touch (· = b) w (w'.setCell ⟨b, 2, none⟩ (.int .i64 (e : Nat))) := ⟨h.setEr he, tc.trans (touch_set _ _ _ _)⟩

set_option maxRecDepth 100000 in
theorem take_stop (w : World) (k : Int) (h : RdAt 112 w b a cap t s) (he : s.er ≠ 0) :
    Calls Try.prog 52 #[.pointer (some ⟨b, 0, none⟩), .int .i64 k] w fun e w' => e = .returned (.slice none 0 0) ∧ w' = w := by
  have K := hide (stop_yes w h he)
  clear h
  go_enter Try.func52, Try.ntmps52
  go_wp2_with fail
  refine (unhide K).mono ?_
  rintro e w' ⟨rfl, rfl⟩
  go_wp2
  go_returns
  exact ⟨rfl, rfl⟩

set_option maxRecDepth 100000 in
theorem take_few (w : World) (k : Nat) (h : RdAt 112 w b a cap t s) (he : s.er = 0) (hk : ¬ s.pl + k ≤ t.length) :
    Calls Try.prog 52 #[.pointer (some ⟨b, 0, none⟩), .int .i64 (k : Nat)] w fun e w' => e = .returned (.slice none 0 0) ∧ RdAt 112 w' b a cap t ⟨s.pl, 6⟩ ∧ Touch (· = b) w w' := by
  have K := hide (stop_no w h he)
  have c0 := h.c0
  have c1 := h.c1
  have c2 := h.c2
  have z2 := h.fz 2
  have hlen := h.len
  have hpl := h.pl
  have F : Hid (∀ n, RdAt 112 ((w.drewN n).setCell ⟨b, 2, none⟩ (.int .i64 ((6 : Nat) : Int))) b a cap t ⟨s.pl, 6⟩ ∧ Touch (· = b) w ((w.drewN n).setCell ⟨b, 2, none⟩ (.int .i64 ((6 : Nat) : Int)))) := fun n => er_store (by omega) (h.drewN n) (touch_drewN w n)
  clear h
  have hk' : (t.length : Int) - (s.pl : Int) < (k : Int) := by omega
  go_enter Try.func52, Try.ntmps52
  go_wp2_with fail
  refine (unhide K).mono ?_
  rintro e w' ⟨rfl, rfl⟩
  go_wp2_with fail
  go_quiet (fail)
  go_wp2
  go_returns
  exact ⟨rfl, unhide F _⟩

set_option maxRecDepth 100000 in
theorem take_ok (w : World) (k : Nat) (h : RdAt 112 w b a cap t s) (he : s.er = 0) (hk : s.pl + k ≤ t.length) :
    Calls Try.prog 52 #[.pointer (some ⟨b, 0, none⟩), .int .i64 (k : Nat)] w fun e w' => e = .returned (.slice (cut a s.pl cap) k (cap - s.pl)) ∧ RdAt 112 w' b a cap t ⟨s.pl + k, 0⟩ ∧ Touch (· = b) w w' := by
  have K := hide (stop_no w h he)
  have c0 := h.c0
  have c1 := h.c1
  have z1 := h.fz 1
  have hlen := h.len
  have hpl := h.pl
  have hsl := slice_lh a t.length cap s.pl k (by have := h.hcap; omega)
  have F : Hid (∀ n, RdAt 112 ((w.drewN n).setCell ⟨b, 1, none⟩ (.int .i64 ((s.pl + k : Nat) : Int))) b a cap t ⟨s.pl + k, 0⟩ ∧ Touch (· = b) w ((w.drewN n).setCell ⟨b, 1, none⟩ (.int .i64 ((s.pl + k : Nat) : Int)))) := by
    intro n
    have h1 := (h.drewN n).setPl hk
    rw [he] at h1
    exact ⟨h1, (touch_drewN w n).trans (touch_set _ _ _ _)⟩
  clear h
  have hk' : ¬ (t.length : Int) - (s.pl : Int) < (k : Int) := by omega
  generalize cut a s.pl cap = ca at *
  generalize cap - s.pl = cc at *
  go_enter Try.func52, Try.ntmps52
  go_wp2_with fail
  refine (unhide K).mono ?_
  rintro e w' ⟨rfl, rfl⟩
  go_wp2_with fail
  go_quiet (fail)
  go_wp2_with fail
  go_quiet (fail)
  go_wp2
  go_returns
  exact ⟨rfl, unhide F _⟩
end
end Go.Proofs.Ytfdpnfeaagijhaa


namespace Go.Proofs.Ytfdpnfeaagijhaa
open Go.RowKit
set_option linter.unusedVariables false

set_option maxRecDepth 100000 in
theorem fix_or {x0 x1 x2 x3 : Nat} (h0 : x0 < 256) (h1 : x1 < 256) (h2 : x2 < 256) (h3 : x3 < 256) :
    bits BinOp.or IntKind.u32 (bits BinOp.or IntKind.u32 (bits BinOp.or IntKind.u32 (x0 : Int) ((x1 : Int) * 256)) ((x2 : Int) * 65536)) ((x3 : Int) * 16777216) = ((x0 + 256 * x1 + 65536 * x2 + 16777216 * x3 : Nat) : Int) := by
  have e1 := u32_or_nat x0 (x1 * 256) (by omega) (by omega)
  have e2 := u32_or_nat (x0 + 256 * x1) (x2 * 65536) (by omega) (by omega)
  have e3 := u32_or_nat (x0 + 256 * x1 + 65536 * x2) (x3 * 16777216) (by omega) (by omega)
  have j1 := nat_join 8 (x1 * 256) x0 (by omega) (by omega)
  have j2 := nat_join 16 (x2 * 65536) (x0 + 256 * x1) (by omega) (by omega)
  have j3 := nat_join 24 (x3 * 16777216) (x0 + 256 * x1 + 65536 * x2) (by omega) (by omega)
  have s1 : x0 ||| x1 * 256 = x0 + 256 * x1 := by rw [Nat.or_comm, j1]; omega
  have s2 : (x0 + 256 * x1) ||| x2 * 65536 = x0 + 256 * x1 + 65536 * x2 := by rw [Nat.or_comm, j2]; omega
  have s3 : (x0 + 256 * x1 + 65536 * x2) ||| x3 * 16777216 = x0 + 256 * x1 + 65536 * x2 + 16777216 * x3 := by rw [Nat.or_comm, j3]; omega
  rw [s1] at e1
  rw [s2] at e2
  rw [s3] at e3
  have c1 : ((x1 * 256 : Nat) : Int) = (x1 : Int) * 256 := by simp
  have c2 : ((x2 * 65536 : Nat) : Int) = (x2 : Int) * 65536 := by simp
  have c3 : ((x3 * 16777216 : Nat) : Int) = (x3 : Int) * 16777216 := by simp
  rw [c1] at e1
  rw [c2] at e2
  rw [c3] at e3
  rw [e1, e2, e3]

theorem cut_none {a : Option Addr} {k cap : Nat} (hn : a = none → cap = 0) (h : cut a k cap = none) : cap - k = 0 := by
  unfold cut at h
  split at h
  · omega
  · cases a with
    | none => have := hn rfl; omega
    | some x => simp at h
theorem cut_block {a : Option Addr} {k cap : Nat} {x : Addr} (h : cut a k cap = some x) : ∃ y, a = some y ∧ x.block = y.block := by
  unfold cut at h
  split at h
  · exact ⟨x, h, rfl⟩
  · cases a with
    | none => simp at h
    | some y =>
      simp only [Option.map_some, Option.some.injEq] at h
      subst h
      refine ⟨y, rfl, ?_⟩
      unfold Addr.add
      split <;> rfl

section
variable {a : Option Addr} {cap b : Nat} {t : List Nat} {s : Rst}

set_option maxRecDepth 100000 in
set_option maxHeartbeats 1000000 in
theorem rfixed_any (w : World) (h : RdAt 112 w b a cap t s) :
    Calls Try.prog 48 #[.pointer (some ⟨b, 0, none⟩)] w fun e w' => e = .returned (.int .u32 ((rX t s).1 : Nat)) ∧ RdAt 112 w' b a cap t (rX t s).2 ∧ Touch (· = b) w w' := by
  by_cases he : s.er = 0
  · by_cases hk : s.pl + 4 ≤ t.length
    · have K := hide (take_ok w 4 h he hk)
      have hx : rX t s = (unfix t s.pl, ⟨s.pl + 4, 0⟩) := by unfold rX; rw [if_pos he, if_pos hk]
      have hcp := h.hcap
      have hy := h.text.bytes
      rw [hx]
      clear h hx
      go_enter Try.func48, Try.ntmps48
      go_wp2_with fail
      refine (unhide K).mono ?_
      rintro e w1 ⟨rfl, h1, t1⟩
      have cells : ∀ i, i < 4 → ∃ cb off, cut a s.pl cap = some ⟨cb, off, none⟩ ∧ w1.cell? ⟨cb, off + i, none⟩ = some (.int .u8 (t.getD (s.pl + i) 0 : Nat)) := by
        intro i hi
        obtain ⟨cb, off, e1, _, e3, _⟩ := (h1.text.drop hcp s.pl).cell (i := i) (by rw [List.length_drop]; omega)
        have e : (t.drop s.pl).getD i 0 = t.getD (s.pl + i) 0 := by simp [List.getD]
        rw [e] at e3
        exact ⟨cb, off, e1, e3⟩
      obtain ⟨cb, off, ec, q0⟩ := cells 0 (by omega)
      obtain ⟨cb1, off1, ec1, q1⟩ := cells 1 (by omega)
      obtain ⟨cb2, off2, ec2, q2⟩ := cells 2 (by omega)
      obtain ⟨cb3, off3, ec3, q3⟩ := cells 3 (by omega)
      rw [ec] at ec1 ec2 ec3
      cases ec1
      cases ec2
      cases ec3
      rw [ec]
      have b0 : t.getD s.pl 0 < 256 := hy _ (getD_mem (by omega))
      have b1 : t.getD (s.pl + 1) 0 < 256 := hy _ (getD_mem (by omega))
      have b2 : t.getD (s.pl + 2) 0 < 256 := hy _ (getD_mem (by omega))
      have b3 : t.getD (s.pl + 3) 0 < 256 := hy _ (getD_mem (by omega))
      have hu : Hid (unfix t s.pl = t.getD s.pl 0 + 256 * t.getD (s.pl + 1) 0 + 65536 * t.getD (s.pl + 2) 0 + 16777216 * t.getD (s.pl + 3) 0) := rfl
      rw [Nat.add_zero, Nat.add_zero] at q0
      generalize t.getD s.pl 0 = x0 at *
      generalize t.getD (s.pl + 1) 0 = x1 at *
      generalize t.getD (s.pl + 2) 0 = x2 at *
      generalize t.getD (s.pl + 3) 0 = x3 at *
      have hor := fix_or b0 b1 b2 b3
      have H1 : Hid (∀ n, RdAt 112 (w1.drewN n) b a cap t ⟨s.pl + 4, 0⟩ ∧ Touch (· = b) w (w1.drewN n)) := fun n => ⟨h1.drewN n, t1.trans (touch_drewN w1 n)⟩
      clear h1 t1 K cells ec hy
      generalize cap - s.pl = cc at *
      go_wp2_with fail
      go_quiet (fail)
      go_wp2
      go_returns
      exact ⟨by rw [unhide hu]; simp, unhide H1 _⟩
    · have K := hide (take_few w 4 h he hk)
      have hx : rX t s = (0, ⟨s.pl, 6⟩) := by unfold rX; rw [if_pos he, if_neg hk]
      rw [hx]
      clear h hx
      go_enter Try.func48, Try.ntmps48
      go_wp2_with fail
      refine (unhide K).mono ?_
      rintro e w' ⟨rfl, h1⟩
      have H1 := hide h1
      clear h1 K
      go_wp2
      go_returns
      exact ⟨rfl, unhide H1⟩
  · have K := hide (take_stop w 4 h he)
    rw [rX_stop he]
    have H := hide h
    clear h
    go_enter Try.func48, Try.ntmps48
    go_wp2_with fail
    refine (unhide K).mono ?_
    rintro e w' ⟨rfl, rfl⟩
    go_wp2
    go_returns
    exact ⟨rfl, unhide H, Touch.refl _ _⟩

theorem touch_below {S : Nat → Prop} {w w1 w2 : World} (t1 : Touch S w w1) (hb : Below w1.heap.size w1 w2) : Touch S w w2 := t1.trans (Touch.of_below hb)

theorem rL_N (t : List Nat) (s : Rst) : rL t s = rNs t (rC t s).1 (rC t s).2 [] := by
  rw [rL_C]
  by_cases h : (rC t s).2.er = 0
  · rw [if_pos h]
  · rw [if_neg h, rC_zero h]; rfl

end
end Go.Proofs.Ytfdpnfeaagijhaa
