/-
  wire's writer: abort, batch. Conditions: the message as it lies, what was laid so far at most 2^45 bytes.
-/
import Derived.Test.YtblmondkdcpkaaaZ07
import Derived.Test.YtblmondkdcpkaaaZ05

/-
  batch.Encode: a batch's form, or the refusal. Conditions: none beyond those of the parameters' types.
-/
namespace Go.Proofs.Ytblmondkdcpkaaa
open Go.RowKit
set_option linter.unusedVariables false

def outE (b : Bt) : List Nat := if chk b = 0 then encB b else []
theorem outE_ok {b : Bt} (h : chk b = 0) : outE b = encB b := by unfold outE; rw [if_pos h]
theorem outE_no {b : Bt} (h : chk b ≠ 0) : outE b = [] := by unfold outE; rw [if_neg h]
def EnPost (w : World) (b : Bt) (e : Ending) (w' : World) : Prop := ∃ vo, e = .returned (.tuple #[vo, .int .i64 (chk b : Nat)]) ∧ Fresh w w' vo (outE b)
theorem EnPost.no {w w' : World} {b : Bt} {c : Nat} (hc : chk b = c) (h : c ≠ 0) (hb : Below w.heap.size w w') : EnPost w b (.returned (.tuple #[.slice none 0 0, .int .i64 (c : Nat)])) w' := by
  refine ⟨_, by rw [hc], ?_⟩
  rw [outE_no (by omega)]
  exact ⟨Row.nil _, New.nil _, hb⟩
theorem EnPost.ok {w w1 w' : World} {b : Bt} {vo : Value} {l : List Nat} (hc : chk b = 0) (hl : l = encB b) (r : Row w' vo l) (n : New w1 vo) (h1 : Below w.heap.size w w1) (hb : Below w.heap.size w w') : EnPost w b (.returned (.tuple #[vo, .int .i64 0])) w' := by
  refine ⟨vo, by rw [hc]; rfl, ?_⟩
  rw [outE_ok hc, ← hl]
  exact ⟨r, n.mono h1.size, hb⟩

theorem flag_c {w0 w : World} {b : Nat} {v : Value} {l : List Nat} (q : Bool) (h : Wc w0 w b v l) (hlen : l.length + 10 ≤ 140737488355328) :
    Calls Try.prog 58 #[.pointer (some ⟨b, 0, none⟩), .bool q] w fun e w' => e = .returned (.tuple #[]) ∧ ∃ v', Wc w0 w' b v' (l ++ enc q.toNat) := by
  rw [← flag_enc]
  exact (wflag_any _ v l false q w h.v hlen).mono fun _ _ ⟨he, v', hw, st⟩ => ⟨he, v', h.step hw st⟩
theorem bytes_c {w0 w : World} {b : Nat} {v : Value} {l : List Nat} (ao : Option Addr) (c : Nat) (l2 : List Nat) (h : Wc w0 w b v l) (hb : LAt w0 ao l2) (hnone : ao = none → c = 0) (h4 : l2.length ≤ 4096) (hlen : l.length + 10 + l2.length ≤ 140737488355328) :
    Calls Try.prog 61 #[.pointer (some ⟨b, 0, none⟩), .slice ao l2.length c] w fun e w' => e = .returned (.tuple #[]) ∧ ∃ v', Wc w0 w' b v' (l ++ (enc l2.length ++ l2)) :=
  (wbytes_any _ v l false ao c l2 w h.v (hb.later h.below) hnone (fun h0 x hx hm => by have := h.mine _ hm; have := lat_lt hb h0 hx; omega) h4 hlen).mono fun _ _ ⟨he, v', hw, st⟩ => ⟨he, v', h.step hw st⟩

section
variable {w : World} {g : Nat} {b : Bt} {a : Option Addr} {cap : Nat}
theorem Box.c0 (h : Box w g b a cap) : w.cell? ⟨g, 0, none⟩ = some (.int .i64 b.base) := cell_of h 0
theorem Box.c1 (h : Box w g b a cap) : w.cell? ⟨g, 1, none⟩ = some (.int .i64 b.epoch) := cell_of h 1
theorem Box.c2 (h : Box w g b a cap) : w.cell? ⟨g, 2, none⟩ = some (.int .u64 (b.pid : Int)) := cell_of h 2
theorem Box.c3 (h : Box w g b a cap) : w.cell? ⟨g, 3, none⟩ = some (.int .i64 b.pep) := cell_of h 3
theorem Box.c4 (h : Box w g b a cap) : w.cell? ⟨g, 4, none⟩ = some (.int .i64 b.seq) := cell_of h 4
theorem Box.c5 (h : Box w g b a cap) : w.cell? ⟨g, 5, none⟩ = some (.bool b.txn) := cell_of h 5
theorem Box.c6 (h : Box w g b a cap) : w.cell? ⟨g, 6, none⟩ = some (.bool b.ctl) := cell_of h 6
theorem Box.c7 (h : Box w g b a cap) : w.cell? ⟨g, 7, none⟩ = some (.bool b.com) := cell_of h 7
theorem Box.c8 (h : Box w g b a cap) : w.cell? ⟨g, 8, none⟩ = some (.slice a b.vs.length cap) := cell_of h 8
end

set_option maxRecDepth 100000 in
set_option maxHeartbeats 8000000 in
theorem encode_any (b : Bt) (a : Option Addr) (cap : Nat) (w : World) (hp : RAt w a b.vs) (hf : b.Fits) :
    Calls Try.prog 85 #[bv b a cap] w fun e w' => EnPost w b e w' := by
  have HP := hide hp
  have HF := hide hf
  have LN := hide (encB_len hf)
  have CZ := hide (chk_zero (b := b))
  have KC := hide (fun w1 (hb : Below w.heap.size w w1) => check_any b a cap w1 (hp.later hb))
  clear hp hf
  obtain ⟨base, epoch, pid, pep, seq, txn, ctl, com, vs⟩ := b
  have B0 : Hid (Below w.heap.size w (w.alloc (.cells #[.int .i64 base, .int .i64 epoch, .int .u64 (pid : Int), .int .i64 pep, .int .i64 seq, .bool txn, .bool ctl, .bool com, .slice a vs.length cap] 38))) := (Below.refl _ _).alloc (Nat.le_refl _) _
  have BX0 := hide (Box.new w ⟨base, epoch, pid, pep, seq, txn, ctl, com, vs⟩ a cap)
  go_enter Try.func85, Try.ntmps85
  go_wp2_with fail
  refine (unhide KC _ (unhide B0)).mono ?_
  rintro e w1 ⟨rfl, b1⟩
  have B1 := hide ((unhide B0).trans (b1.mono (unhide B0).size))
  have BX1 := hide ((unhide BX0).later b1)
  have P1 := hide ((unhide HP).later (unhide B1))
  have hlt : w.heap.size < w1.heap.size := lt_of_heap (unhide BX1)
  clear b1 B0 BX0 HP KC
  by_cases hz : chk ⟨base, epoch, pid, pep, seq, txn, ctl, com, vs⟩ = 0
  · have HZ := hide hz
    have hlen := unhide LN hz
    have hcz := unhide CZ hz
    have h16 : vs.length ≤ 16 := hcz.1
    have H64 := hide hcz.2
    have LE := hide hlen
    rw [hz]
    clear hz hlen hcz LN CZ
    go_wp2_with fail
    refine (new_c w1).mono ?_
    rintro e w2 ⟨rfl, c2⟩
    have C2 := hide c2
    clear c2
    have k2 := ((unhide BX1).later (unhide C2).below).c0
    simp only at k2
    go_wp2_with fail
    refine (int_c base (unhide C2) (unhide HF).base.1 (unhide HF).base.2 (by simp only [List.length_nil]; have e1 := enc_len10 (zig_lt (unhide HF).base.1 (unhide HF).base.2); have e2 := enc_len10 (zig_lt (unhide HF).epoch.1 (unhide HF).epoch.2); have e3 := enc_len10 (unhide HF).pid; have e4 := enc_len10 (zig_lt (unhide HF).pep.1 (unhide HF).pep.2); have e5 := enc_len10 (zig_lt (unhide HF).seq.1 (unhide HF).seq.2); have e6 := enc_len10 (bool_lt txn); have e7 := enc_len10 (bool_lt ctl); have e8 := enc_len10 (bool_lt com); have e9 := enc_len10 (n := vs.length) (by omega); simp only at e1 e2 e3 e4 e5 e6 e7 e8 e9; omega)).mono ?_
    rintro e w3 ⟨rfl, v3, c3⟩
    have C3 := hide c3
    clear c3 k2
    have k3 := ((unhide BX1).later (unhide C3).below).c1
    simp only at k3
    go_wp2_with fail
    refine (int_c epoch (unhide C3) (unhide HF).epoch.1 (unhide HF).epoch.2 (by simp only [List.length_append, List.length_nil]; have e1 := enc_len10 (zig_lt (unhide HF).base.1 (unhide HF).base.2); have e2 := enc_len10 (zig_lt (unhide HF).epoch.1 (unhide HF).epoch.2); have e3 := enc_len10 (unhide HF).pid; have e4 := enc_len10 (zig_lt (unhide HF).pep.1 (unhide HF).pep.2); have e5 := enc_len10 (zig_lt (unhide HF).seq.1 (unhide HF).seq.2); have e6 := enc_len10 (bool_lt txn); have e7 := enc_len10 (bool_lt ctl); have e8 := enc_len10 (bool_lt com); have e9 := enc_len10 (n := vs.length) (by omega); simp only at e1 e2 e3 e4 e5 e6 e7 e8 e9; omega)).mono ?_
    rintro e w4 ⟨rfl, v4, c4⟩
    have C4 := hide c4
    clear c4 k3
    have k4 := ((unhide BX1).later (unhide C4).below).c2
    simp only at k4
    go_wp2_with fail
    refine (uint_c pid (unhide C4) (unhide HF).pid (by simp only [List.length_append, List.length_nil]; have e1 := enc_len10 (zig_lt (unhide HF).base.1 (unhide HF).base.2); have e2 := enc_len10 (zig_lt (unhide HF).epoch.1 (unhide HF).epoch.2); have e3 := enc_len10 (unhide HF).pid; have e4 := enc_len10 (zig_lt (unhide HF).pep.1 (unhide HF).pep.2); have e5 := enc_len10 (zig_lt (unhide HF).seq.1 (unhide HF).seq.2); have e6 := enc_len10 (bool_lt txn); have e7 := enc_len10 (bool_lt ctl); have e8 := enc_len10 (bool_lt com); have e9 := enc_len10 (n := vs.length) (by omega); simp only at e1 e2 e3 e4 e5 e6 e7 e8 e9; omega)).mono ?_
    rintro e w5 ⟨rfl, v5, c5⟩
    have C5 := hide c5
    clear c5 k4
    have k5 := ((unhide BX1).later (unhide C5).below).c3
    simp only at k5
    go_wp2_with fail
    refine (int_c pep (unhide C5) (unhide HF).pep.1 (unhide HF).pep.2 (by simp only [List.length_append, List.length_nil]; have e1 := enc_len10 (zig_lt (unhide HF).base.1 (unhide HF).base.2); have e2 := enc_len10 (zig_lt (unhide HF).epoch.1 (unhide HF).epoch.2); have e3 := enc_len10 (unhide HF).pid; have e4 := enc_len10 (zig_lt (unhide HF).pep.1 (unhide HF).pep.2); have e5 := enc_len10 (zig_lt (unhide HF).seq.1 (unhide HF).seq.2); have e6 := enc_len10 (bool_lt txn); have e7 := enc_len10 (bool_lt ctl); have e8 := enc_len10 (bool_lt com); have e9 := enc_len10 (n := vs.length) (by omega); simp only at e1 e2 e3 e4 e5 e6 e7 e8 e9; omega)).mono ?_
    rintro e w6 ⟨rfl, v6, c6⟩
    have C6 := hide c6
    clear c6 k5
    have k6 := ((unhide BX1).later (unhide C6).below).c4
    simp only at k6
    go_wp2_with fail
    refine (int_c seq (unhide C6) (unhide HF).seq.1 (unhide HF).seq.2 (by simp only [List.length_append, List.length_nil]; have e1 := enc_len10 (zig_lt (unhide HF).base.1 (unhide HF).base.2); have e2 := enc_len10 (zig_lt (unhide HF).epoch.1 (unhide HF).epoch.2); have e3 := enc_len10 (unhide HF).pid; have e4 := enc_len10 (zig_lt (unhide HF).pep.1 (unhide HF).pep.2); have e5 := enc_len10 (zig_lt (unhide HF).seq.1 (unhide HF).seq.2); have e6 := enc_len10 (bool_lt txn); have e7 := enc_len10 (bool_lt ctl); have e8 := enc_len10 (bool_lt com); have e9 := enc_len10 (n := vs.length) (by omega); simp only at e1 e2 e3 e4 e5 e6 e7 e8 e9; omega)).mono ?_
    rintro e w7 ⟨rfl, v7, c7⟩
    have C7 := hide c7
    clear c7 k6
    have k7 := ((unhide BX1).later (unhide C7).below).c5
    simp only at k7
    go_wp2_with fail
    refine (flag_c txn (unhide C7)  (by simp only [List.length_append, List.length_nil]; have e1 := enc_len10 (zig_lt (unhide HF).base.1 (unhide HF).base.2); have e2 := enc_len10 (zig_lt (unhide HF).epoch.1 (unhide HF).epoch.2); have e3 := enc_len10 (unhide HF).pid; have e4 := enc_len10 (zig_lt (unhide HF).pep.1 (unhide HF).pep.2); have e5 := enc_len10 (zig_lt (unhide HF).seq.1 (unhide HF).seq.2); have e6 := enc_len10 (bool_lt txn); have e7 := enc_len10 (bool_lt ctl); have e8 := enc_len10 (bool_lt com); have e9 := enc_len10 (n := vs.length) (by omega); simp only at e1 e2 e3 e4 e5 e6 e7 e8 e9; omega)).mono ?_
    rintro e w8 ⟨rfl, v8, c8⟩
    have C8 := hide c8
    clear c8 k7
    have k8 := ((unhide BX1).later (unhide C8).below).c6
    simp only at k8
    go_wp2_with fail
    refine (flag_c ctl (unhide C8)  (by simp only [List.length_append, List.length_nil]; have e1 := enc_len10 (zig_lt (unhide HF).base.1 (unhide HF).base.2); have e2 := enc_len10 (zig_lt (unhide HF).epoch.1 (unhide HF).epoch.2); have e3 := enc_len10 (unhide HF).pid; have e4 := enc_len10 (zig_lt (unhide HF).pep.1 (unhide HF).pep.2); have e5 := enc_len10 (zig_lt (unhide HF).seq.1 (unhide HF).seq.2); have e6 := enc_len10 (bool_lt txn); have e7 := enc_len10 (bool_lt ctl); have e8 := enc_len10 (bool_lt com); have e9 := enc_len10 (n := vs.length) (by omega); simp only at e1 e2 e3 e4 e5 e6 e7 e8 e9; omega)).mono ?_
    rintro e w9 ⟨rfl, v9, c9⟩
    have C9 := hide c9
    clear c9 k8
    have k9 := ((unhide BX1).later (unhide C9).below).c7
    simp only at k9
    go_wp2_with fail
    refine (flag_c com (unhide C9)  (by simp only [List.length_append, List.length_nil]; have e1 := enc_len10 (zig_lt (unhide HF).base.1 (unhide HF).base.2); have e2 := enc_len10 (zig_lt (unhide HF).epoch.1 (unhide HF).epoch.2); have e3 := enc_len10 (unhide HF).pid; have e4 := enc_len10 (zig_lt (unhide HF).pep.1 (unhide HF).pep.2); have e5 := enc_len10 (zig_lt (unhide HF).seq.1 (unhide HF).seq.2); have e6 := enc_len10 (bool_lt txn); have e7 := enc_len10 (bool_lt ctl); have e8 := enc_len10 (bool_lt com); have e9 := enc_len10 (n := vs.length) (by omega); simp only at e1 e2 e3 e4 e5 e6 e7 e8 e9; omega)).mono ?_
    rintro e w10 ⟨rfl, v10, c10⟩
    have C10 := hide c10
    clear c10 k9
    have k10 := ((unhide BX1).later (unhide C10).below).c8
    simp only at k10
    go_wp2_with fail
    refine (uint_c vs.length (unhide C10) (by omega) (by simp only [List.length_append, List.length_nil]; have e1 := enc_len10 (zig_lt (unhide HF).base.1 (unhide HF).base.2); have e2 := enc_len10 (zig_lt (unhide HF).epoch.1 (unhide HF).epoch.2); have e3 := enc_len10 (unhide HF).pid; have e4 := enc_len10 (zig_lt (unhide HF).pep.1 (unhide HF).pep.2); have e5 := enc_len10 (zig_lt (unhide HF).seq.1 (unhide HF).seq.2); have e6 := enc_len10 (bool_lt txn); have e7 := enc_len10 (bool_lt ctl); have e8 := enc_len10 (bool_lt com); have e9 := enc_len10 (n := vs.length) (by omega); simp only at e1 e2 e3 e4 e5 e6 e7 e8 e9; omega)).mono ?_
    rintro e w11 ⟨rfl, v11, c11⟩
    have C11 := hide c11
    clear c11 k10
    have k11 := ((unhide BX1).later (unhide C11).below).c8
    simp only at k11
    go_wp2_with fail
    obtain ⟨L, hL⟩ : ∃ L, L = [] ++ enc (zig base) ++ enc (zig epoch) ++ enc pid ++ enc (zig pep) ++ enc (zig seq) ++ enc txn.toNat ++ enc ctl.toNat ++ enc com.toNat ++ enc vs.length := ⟨_, rfl⟩
    have hL90 : L.length ≤ 90 := by
      rw [hL]
      simp only [List.length_append, List.length_nil]
      have e1 := enc_len10 (zig_lt (unhide HF).base.1 (unhide HF).base.2); have e2 := enc_len10 (zig_lt (unhide HF).epoch.1 (unhide HF).epoch.2); have e3 := enc_len10 (unhide HF).pid; have e4 := enc_len10 (zig_lt (unhide HF).pep.1 (unhide HF).pep.2); have e5 := enc_len10 (zig_lt (unhide HF).seq.1 (unhide HF).seq.2); have e6 := enc_len10 (bool_lt txn); have e7 := enc_len10 (bool_lt ctl); have e8 := enc_len10 (bool_lt com); have e9 := enc_len10 (n := vs.length) (by omega); simp only at e1 e2 e3 e4 e5 e6 e7 e8 e9
      omega
    have LL : Hid (L ++ encVs vs = encB ⟨base, epoch, pid, pep, seq, txn, ctl, com, vs⟩) := by
      show _ = _
      rw [hL]
      unfold encB
      simp only [List.append_assoc, List.nil_append]
    rw [← hL] at C11
    clear hL
    go_loopw [55] (fun i wr => ∃ (k : Nat) (v' : Value), k ≤ vs.length ∧ i = .int .i64 k ∧ Wc w1 wr w1.heap.size v' (L ++ encVs (vs.take k))) (fun i _ => vs.length - (intOf i).toNat)
    case atStart => exact ⟨0, _, Nat.zero_le _, rfl, by simpa [encVs] using unhide C11⟩
    case round =>
      obtain ⟨k, v', hk, rfl, hc⟩ := hrel
      have HC := hide hc
      clear hc k11
      by_cases hkc : k < vs.length
      · have hkc' : (k : Int) < (vs.length : Int) := by omega
        obtain ⟨bb, off, x, c, rfl, hbb, hcell0, lx, hnx⟩ := (unhide P1).cell hkc
        have hcell : wr.cell? ⟨bb, off + k, none⟩ = some (.slice x (vs.getD k []).length c) := ((unhide HC).below.cell (p := ⟨bb, off + k, none⟩) hbb).trans hcell0
        have hp4 : (vs.getD k []).length ≤ 64 := unhide H64 _ (by simp [List.getD, hkc])
        have ET := hide (encVs_take hkc)
        have hLk : (L ++ encVs (vs.take k)).length ≤ 2000 := by
          have := encVs_len (vs.take k) (fun v hv => unhide H64 v (List.mem_of_mem_take hv))
          rw [List.length_append]
          rw [List.length_take] at this
          omega
        have LX := hide lx
        clear lx hcell0
        generalize vs.getD k [] = p at *
        go_wp2_with fail
        refine (bytes_c x c p (unhide HC) (unhide LX) hnx (by omega) (by omega)).mono ?_
        rintro e wn ⟨rfl, vn, cn⟩
        rw [List.append_assoc, ← unhide ET] at cn
        have CN := hide cn
        clear cn
        go_wp2
        go_roundw
        case rel => exact ⟨k + 1, vn, by omega, by go_num, unhide CN⟩
        case measure => simp [intOf]; omega
      · obtain rfl : k = vs.length := by omega
        rw [List.take_length] at HC
        have LB : (L ++ encVs vs).length ≤ 140737488355328 := by rw [unhide LL]; have := unhide LE; omega
        go_wp2_with fail
        refine (out_c (unhide HC) LB).mono ?_
        rintro e wo ⟨vo, rfl, co, ro, no, bo⟩
        have E : Hid (EnPost w ⟨base, epoch, pid, pep, seq, txn, ctl, com, vs⟩ (.returned (.tuple #[vo, .int .i64 0])) wo) := EnPost.ok (unhide HZ) (unhide LL) ro no ((unhide B1).trans ((unhide HC).below.mono (unhide B1).size)) ((unhide B1).trans (co.below.mono (unhide B1).size))
        obtain ⟨ao, mo, cpo, rfl⟩ := ro.shape
        clear co ro no bo
        go_wp2
        go_returns
        exact unhide E
  · generalize hcc : chk ⟨base, epoch, pid, pep, seq, txn, ctl, com, vs⟩ = cc at *
    have HCC := hide hcc
    clear hcc LN CZ
    have hz' : ¬ (cc : Int) = 0 := by omega
    go_wp2
    go_returns
    exact EnPost.no (unhide HCC) hz (unhide B1)
end Go.Proofs.Ytblmondkdcpkaaa


/-
  wire's writer: ints, entry, abort, batch. Conditions: the message as it lies, what was laid so far at most 2^45 bytes.
-/
namespace Go.Proofs.Ytblmondkdcpkaaa
open Go.RowKit
set_option linter.unusedVariables false

theorem encL_room (l : List Int) (h : ∀ x ∈ l, I64 x) (k : Nat) : (encL (l.take k)).length ≤ 10 * l.length := by
  have h1 := encL_len (l.take k) (fun x hx => h x (List.mem_of_mem_take hx))
  have h2 : (l.take k).length ≤ l.length := by rw [List.length_take]; omega
  omega
section
variable {w0 w : World} {N : Nat → Prop} {b : Nat} {s : Ws}
set_option maxHeartbeats 4000000 in
theorem wints_q {ao : Option Addr} {c : Nat} (ls : List Int) (h : Wq w0 N w b s) (hb : IAt w ao ls) (hs : 0 < ls.length → ∀ x, ao = some x → N x.block) (hf : ∀ x ∈ ls, I64 x) (hm : ls.length ≤ 100) (hl : s.1.length ≤ 35184372088832) :
    Calls Try.prog 41 #[.agg #[.pointer (some ⟨b, 0, none⟩)], .slice ao ls.length c] w fun e w' => WD w0 N w b (wX s (encL ls)) e w' := by
  have hb0 := (Below.refl w.heap.size w).alloc (Nat.le_refl _) (.cells #[.pointer (some ⟨b, 0, none⟩)] 77)
  have Q0 := hide (h.grow hb0)
  have HX := hide (heap_new w (.cells #[.pointer (some ⟨b, 0, none⟩)] 77))
  have HI := hide (hb.later hb0)
  have HS := hide hs
  have HN := hide h.old
  have HL := hide h.low
  have HF := hide hf
  have HR := hide (fun k => encL_room ls hf k)
  have HB0 := hide hb0
  generalize hn : ls.length = n at *
  have HNN := hide hn
  clear h hb hs hf hb0 hn
  go_enter Try.func41, Try.ntmps41
  go_wp2
  generalize w.alloc (.cells #[.pointer (some ⟨b, 0, none⟩)] 77) = W1 at *
  go_loopg [5, 8] n (fun gg _ s8 wr => ∃ kk : Nat, kk ≤ n ∧ n - kk ≤ gg ∧ s8 = .int .i64 kk ∧ Hid (Wq w0 (Gr N w W1) wr b (wX s (encL (ls.take kk)))) ∧ Hid (Touch (Off (Gr N w W1)) W1 wr))
  case atStart => exact ⟨0, Nat.zero_le _, by omega, rfl, by simpa [encL, wX_nil] using Q0, hide (Touch.refl _ _)⟩
  case round =>
    obtain ⟨kk, hkk, hg, rfl, Q, T⟩ := hrel
    by_cases hlt : kk < n
    · have hltz : (kk : Int) < (n : Int) := by omega
      have hk' : kk < ls.length := by rw [unhide HNN]; exact hlt
      obtain ⟨cb, off, ea, _, hcell⟩ := ((unhide HI).keep (unhide T) (fun h0 x hx hk => hk (.inl (unhide HS (by rw [← unhide HNN]; exact h0) x hx)))) kk hk'
      subst ea
      have hx := unhide HF (ls.getD kk 0) (by simp [List.getD, hk'])
      have hr := unhide HR kk
      have hq := wX_len s (encL (ls.take kk))
      have KI := hide (int_q (ls.getD kk 0) (unhide Q) hx.1 hx.2 (by omega))
      have ET := hide (encL_take ls kk hk')
      have z0 := cell_of (Gr.keep (unhide T) (unhide HX) (Nat.le_refl _)) 0
      simp at z0
      clear hk' hx hr hq
      generalize ls.getD kk 0 = y at *
      go_wp2_with (go_at_call 57; refine (unhide KI).mono ?_; rintro e w2 ⟨rfl, q2, t2⟩; have Q2 := hide q2; have T2 := hide ((unhide T).trans t2); clear q2 t2)
      go_roundg (n - (kk + 1))
      case measure => omega
      case rel => exact ⟨kk + 1, by omega, by omega, by go_num, by rw [unhide ET, ← wX_wX]; exact Q2, T2⟩
    · have hltz : ¬ (kk : Int) < (n : Int) := by omega
      have e : kk = n := by omega
      have Q3 := unhide Q
      rw [e, ← unhide HNN, List.take_length] at Q3
      have FF := hide (Wq.leave Q3 (unhide HB0) (unhide HN) (unhide HL) (unhide T))
      clear Q Q3 e
      go_wp2
      go_returns
      exact ⟨rfl, unhide FF⟩
/-- An entry: its number, its bytes. -/
def layE (s : Ws) (t : Int) (d : List Nat) : Ws := wB (wX s (enc (zig t))) d
set_option maxHeartbeats 4000000 in
theorem entry_q {ao : Option Addr} {c : Nat} (t : Int) (d : List Nat) (h : Wq w0 N w b s) (hb : LAt w0 ao d) (hc : ao = none → c = 0) (hf : I64 t) (hl : s.1.length ≤ 35184372088832) :
    Calls Try.prog 60 #[.agg #[.pointer (some ⟨b, 0, none⟩)], .agg #[.int .i64 t, .slice ao d.length c]] w fun e w' => WD w0 N w b (layE s t d) e w' := by
  have hb0 := ((Below.refl w.heap.size w).alloc (Nat.le_refl _) (.cells #[.pointer (some ⟨b, 0, none⟩)] 77)).alloc (by simp) (.cells #[.int .i64 t, .slice ao d.length c] 65)
  have Q0 := hide (h.grow hb0)
  have HX := hide (heap_old (.cells #[.int .i64 t, .slice ao d.length c] 65) (heap_new w (.cells #[.pointer (some ⟨b, 0, none⟩)] 77)))
  have HE := hide (heap_new (w.alloc (.cells #[.pointer (some ⟨b, 0, none⟩)] 77)) (.cells #[.int .i64 t, .slice ao d.length c] 65))
  have hsz : (w.alloc (.cells #[.pointer (some ⟨b, 0, none⟩)] 77)).heap.size = w.heap.size + 1 := by simp
  rw [hsz] at HE
  have HD := hide hb
  have HN := hide h.old
  have HL := hide h.low
  have HB0 := hide hb0
  have hx := wX_len s (enc (zig t))
  have h10 := enc_len10 (zig_lt hf.1 hf.2)
  clear h hb hb0 hsz
  unfold layE
  go_enter Try.func60, Try.ntmps60
  go_upto_region 1 with fail
  generalize (w.alloc (.cells #[.pointer (some ⟨b, 0, none⟩)] 77)).alloc (.cells #[.int .i64 t, .slice ao d.length c] 65) = W1 at *
  have z0 := cell_of (unhide HX) 0
  have y0 := cell_of (unhide HE) 0
  simp at z0 y0
  go_wp2_with fail
  refine (int_q t (unhide Q0) hf.1 hf.2 (by omega)).mono ?_
  rintro e w2 ⟨rfl, q2, t2⟩
  have Q2 := hide q2
  have T2 := hide t2
  have x0 := cell_of (Gr.keep t2 (unhide HX) (Nat.le_refl _)) 0
  have x1 := cell_of (Gr.keep t2 (unhide HE) (by omega)) 1
  simp at x0 x1
  have LD := hide ((unhide Q2).lat (unhide HD))
  clear q2 t2 z0 y0
  go_wp2_with fail
  refine (bytes_q ao c d (unhide Q2) (unhide LD).1 hc (unhide LD).2 (by omega)).mono ?_
  rintro e w3 ⟨rfl, q3, t3⟩
  have FF := hide (Wq.leave q3 (unhide HB0) (unhide HN) (unhide HL) ((unhide T2).trans t3))
  clear q3 t3
  go_wp2
  go_returns
  exact ⟨rfl, unhide FF⟩
end
end Go.Proofs.Ytblmondkdcpkaaa


namespace Go.Proofs.Ytblmondkdcpkaaa
open Go.RowKit
set_option linter.unusedVariables false

section
variable {w0 w : World} {N : Nat → Prop} {b : Nat} {s : Ws}
theorem IAt.lit (w : World) (ls : List Int) (t : TypeId) : IAt (w.alloc (.cells (ls.map (Value.int .i64)).toArray t)) (some ⟨w.heap.size, 0, none⟩) ls := by
  intro i hi
  have hn := heap_new w (.cells (ls.map (Value.int .i64)).toArray t)
  refine ⟨w.heap.size, 0, rfl, lt_of_heap hn, ?_⟩
  rw [cell_of hn]
  simp [List.getD, hi]
/-- Numbers that stand in a list that was just laid. -/
theorem wints_lit (ls : List Int) {vs : Array Value} (hv : vs = (ls.map (Value.int .i64)).toArray) (h : Wq w0 N w b s) (hf : ∀ x ∈ ls, I64 x) (hm : ls.length ≤ 100) (hl : s.1.length ≤ 35184372088832) :
    Calls Try.prog 41 #[.agg #[.pointer (some ⟨b, 0, none⟩)], .slice (some ⟨w.heap.size, 0, none⟩) ls.length ls.length] (w.alloc (.cells vs 3)) fun e w' => WD w0 N w b (wX s (encL ls)) e w' := by
  subst hv
  have hb := (Below.refl w.heap.size w).alloc (Nat.le_refl _) (.cells (ls.map (Value.int .i64)).toArray 3)
  refine (wints_q ls (h.grow hb) (IAt.lit w ls _) (fun h0 x hx => ?_) hf hm hl).mono ?_
  · cases hx
    exact .inr ⟨Nat.le_refl _, by simp⟩
  · rintro e w' ⟨he, q, t⟩
    exact ⟨he, Wq.leave q hb h.old h.low t⟩
/-- An aborted transaction. -/
def layA (s : Ws) (p : Nat) (f l : Int) : Ws := wX (wX s (enc p)) (encL [f, l])
theorem layA_len (s : Ws) {p : Nat} {f l : Int} (hp : p < 18446744073709551616) (hf : I64 f) (hl : I64 l) : (layA s p f l).1.length ≤ s.1.length + 30 := by
  unfold layA
  have h1 := wX_len (wX s (enc p)) (encL [f, l])
  have h2 := wX_len s (enc p)
  have h3 := enc_len10 hp
  have h4 := encL_len [f, l] (by intro x hx; simp at hx; rcases hx with rfl | rfl; exact hf; exact hl)
  simp only [List.length_cons, List.length_nil] at h4
  omega
set_option maxHeartbeats 4000000 in
theorem abort_q (p : Nat) (f l : Int) (h : Wq w0 N w b s) (hp : p < 18446744073709551616) (hf : I64 f) (hl2 : I64 l) (hl : s.1.length ≤ 17592186044416) :
    Calls Try.prog 69 #[.agg #[.pointer (some ⟨b, 0, none⟩)], .agg #[.int .u64 (p : Int), .int .i64 f, .int .i64 l]] w fun e w' => WD w0 N w b (layA s p f l) e w' := by
  have hb0 := ((Below.refl w.heap.size w).alloc (Nat.le_refl _) (.cells #[.pointer (some ⟨b, 0, none⟩)] 77)).alloc (by simp) (.cells #[.int .u64 (p : Int), .int .i64 f, .int .i64 l] 73)
  have Q0 := hide (h.grow hb0)
  have HX := hide (heap_old (.cells #[.int .u64 (p : Int), .int .i64 f, .int .i64 l] 73) (heap_new w (.cells #[.pointer (some ⟨b, 0, none⟩)] 77)))
  have HE := hide (heap_new (w.alloc (.cells #[.pointer (some ⟨b, 0, none⟩)] 77)) (.cells #[.int .u64 (p : Int), .int .i64 f, .int .i64 l] 73))
  have hsz : (w.alloc (.cells #[.pointer (some ⟨b, 0, none⟩)] 77)).heap.size = w.heap.size + 1 := by simp
  rw [hsz] at HE
  have HN := hide h.old
  have HL := hide h.low
  have HB0 := hide hb0
  have hx := wX_len s (enc p)
  have h10 := enc_len10 hp
  have HF : Hid (∀ x ∈ [f, l], I64 x) := hide (by intro x hx; simp at hx; rcases hx with rfl | rfl; exact hf; exact hl2)
  clear h hb0 hsz hf hl2
  unfold layA
  go_enter Try.func69, Try.ntmps69
  go_upto_region 1 with fail
  generalize (w.alloc (.cells #[.pointer (some ⟨b, 0, none⟩)] 77)).alloc (.cells #[.int .u64 (p : Int), .int .i64 f, .int .i64 l] 73) = W1 at *
  have z0 := cell_of (unhide HX) 0
  have y0 := cell_of (unhide HE) 0
  simp at z0 y0
  go_wp2_with fail
  refine (uint_q p (unhide Q0) hp (by omega)).mono ?_
  rintro e w2 ⟨rfl, q2, t2⟩
  have Q2 := hide q2
  have T2 := hide t2
  have x0 := cell_of (Gr.keep t2 (unhide HX) (Nat.le_refl _)) 0
  have x1 := cell_of (Gr.keep t2 (unhide HE) (by omega)) 1
  have x2 := cell_of (Gr.keep t2 (unhide HE) (by omega)) 2
  simp at x0 x1 x2
  clear q2 t2 z0 y0
  go_wp2_with fail
  refine (wints_lit [f, l] (vs := #[.int .i64 f, .int .i64 l]) rfl (unhide Q2) (unhide HF) (by simp) (by omega)).mono ?_
  rintro e w3 ⟨rfl, q3, t3⟩
  have FF := hide (Wq.leave q3 (unhide HB0) (unhide HN) (unhide HL) ((unhide T2).trans t3))
  clear q3 t3
  go_wp2
  go_returns
  exact ⟨rfl, unhide FF⟩
/-- A batch: its bytes; none, if it has no values and is no marker. -/
def batE (B : Bt) : Int := if B.ctl = false ∧ B.vs.length = 0 then 0 else (chk B : Int)
def batS (s : Ws) (B : Bt) : Ws := if B.ctl = false ∧ B.vs.length = 0 then wB s [] else wB s (encB B)
theorem batS_len (s : Ws) (B : Bt) : (batS s B).1.length ≤ s.1.length + 4106 := by
  unfold batS
  split
  · exact wB_len _ _
  · exact wB_len _ _
set_option maxHeartbeats 4000000 in
theorem batch_none (B : Bt) (a : Option Addr) (cap : Nat) (h : Wq w0 N w b s) (h1 : B.ctl = false) (h2 : B.vs.length = 0) (hl : s.1.length ≤ 35184372088832) :
    Calls Try.prog 63 #[.agg #[.pointer (some ⟨b, 0, none⟩)], bv B a cap] w fun e w' => WD w0 N w b (wB s []) e w' := by
  have hb0 := ((Below.refl w.heap.size w).alloc (Nat.le_refl _) (.cells #[.pointer (some ⟨b, 0, none⟩)] 77)).alloc (by simp) (.cells #[.int .i64 B.base, .int .i64 B.epoch, .int .u64 (B.pid : Int), .int .i64 B.pep, .int .i64 B.seq, .bool B.txn, .bool B.ctl, .bool B.com, .slice a B.vs.length cap] 38)
  have Q0 := hide (h.grow hb0)
  have HX := hide (heap_old (.cells #[.int .i64 B.base, .int .i64 B.epoch, .int .u64 (B.pid : Int), .int .i64 B.pep, .int .i64 B.seq, .bool B.txn, .bool B.ctl, .bool B.com, .slice a B.vs.length cap] 38) (heap_new w (.cells #[.pointer (some ⟨b, 0, none⟩)] 77)))
  have HE := hide (heap_new (w.alloc (.cells #[.pointer (some ⟨b, 0, none⟩)] 77)) (.cells #[.int .i64 B.base, .int .i64 B.epoch, .int .u64 (B.pid : Int), .int .i64 B.pep, .int .i64 B.seq, .bool B.txn, .bool B.ctl, .bool B.com, .slice a B.vs.length cap] 38))
  have hsz : (w.alloc (.cells #[.pointer (some ⟨b, 0, none⟩)] 77)).heap.size = w.heap.size + 1 := by simp
  rw [hsz] at HE
  have HN := hide h.old
  have HL := hide h.low
  have HB0 := hide hb0
  have H1 := hide h1
  have H2 := hide h2
  clear h hb0 hsz h1 h2
  go_enter Try.func63, Try.ntmps63
  go_upto_region 1 with fail
  generalize (w.alloc (.cells #[.pointer (some ⟨b, 0, none⟩)] 77)).alloc (.cells #[.int .i64 B.base, .int .i64 B.epoch, .int .u64 (B.pid : Int), .int .i64 B.pep, .int .i64 B.seq, .bool B.txn, .bool B.ctl, .bool B.com, .slice a B.vs.length cap] 38) = W1 at *
  have z0 := cell_of (unhide HX) 0
  have y6 := cell_of (unhide HE) 6
  have y8 := cell_of (unhide HE) 8
  simp at z0 y6 y8
  rw [unhide H1] at y6
  rw [unhide H2] at y8
  go_wp2_with fail
  refine (bytes_q none 0 [] (unhide Q0) (fun i hi => by cases hi) (fun _ => rfl) (fun h0 => by cases h0) (by omega)).mono ?_
  rintro e w3 ⟨rfl, q3, t3⟩
  have FF := hide (Wq.leave q3 (unhide HB0) (unhide HN) (unhide HL) t3)
  clear q3 t3
  go_wp2
  go_returns
  exact ⟨rfl, unhide FF⟩
theorem enc_ok {B : Bt} {a : Option Addr} {cap : Nat} {L : List Nat} (hp : RAt w a B.vs) (hf : B.Fits) (hc : chk B = 0) (hL : encB B = L) :
    Calls Try.prog 85 #[bv B a cap] w fun e w' => ∃ vo, e = .returned (.tuple #[vo, .int .i64 0]) ∧ Fresh w w' vo L := by
  refine (encode_any B a cap w hp hf).mono ?_
  rintro e w' ⟨vo, he, h⟩
  rw [outE_ok hc, hL] at h
  rw [hc] at he
  exact ⟨vo, he, h⟩
theorem enc_no {B : Bt} {a : Option Addr} {cap E : Nat} (hp : RAt w a B.vs) (hf : B.Fits) (hc : chk B ≠ 0) (hE : chk B = E) :
    Calls Try.prog 85 #[bv B a cap] w fun e w' => ∃ vo, e = .returned (.tuple #[vo, .int .i64 (E : Int)]) ∧ Fresh w w' vo [] := by
  refine (encode_any B a cap w hp hf).mono ?_
  rintro e w' ⟨vo, he, h⟩
  rw [outE_no hc] at h
  rw [hE] at he
  exact ⟨vo, he, h⟩
set_option maxHeartbeats 8000000 in
theorem batch_ok {B : Bt} {L : List Nat} (a : Option Addr) (cap : Nat) (h : Wq w0 N w b s) (h1 : ¬ (B.ctl = false ∧ B.vs.length = 0)) (hB : RAt w0 a B.vs) (hf : B.Fits) (hc : chk B = 0) (hL : encB B = L) (hl : s.1.length ≤ 35184372088832) :
    Calls Try.prog 63 #[.agg #[.pointer (some ⟨b, 0, none⟩)], bv B a cap] w fun e w' => WD w0 N w b (wB s L) e w' := by
  have hb0 := ((Below.refl w.heap.size w).alloc (Nat.le_refl _) (.cells #[.pointer (some ⟨b, 0, none⟩)] 77)).alloc (by simp) (.cells #[.int .i64 B.base, .int .i64 B.epoch, .int .u64 (B.pid : Int), .int .i64 B.pep, .int .i64 B.seq, .bool B.txn, .bool B.ctl, .bool B.com, .slice a B.vs.length cap] 38)
  have Q0 := hide (h.grow hb0)
  have HX := hide (heap_old (.cells #[.int .i64 B.base, .int .i64 B.epoch, .int .u64 (B.pid : Int), .int .i64 B.pep, .int .i64 B.seq, .bool B.txn, .bool B.ctl, .bool B.com, .slice a B.vs.length cap] 38) (heap_new w (.cells #[.pointer (some ⟨b, 0, none⟩)] 77)))
  have HE := hide (heap_new (w.alloc (.cells #[.pointer (some ⟨b, 0, none⟩)] 77)) (.cells #[.int .i64 B.base, .int .i64 B.epoch, .int .u64 (B.pid : Int), .int .i64 B.pep, .int .i64 B.seq, .bool B.txn, .bool B.ctl, .bool B.com, .slice a B.vs.length cap] 38))
  have hsz : (w.alloc (.cells #[.pointer (some ⟨b, 0, none⟩)] 77)).heap.size = w.heap.size + 1 := by simp
  rw [hsz] at HE
  have HN := hide h.old
  have HL := hide h.low
  have HB0 := hide hb0
  have HKE := hide (enc_ok (cap := cap) (hB.later (h.base.trans (hb0.mono h.base.size))) hf hc hL)
  clear h hb0 hsz hB hf hc hL
  unfold bv at HKE ⊢
  cases hct : B.ctl with
  | true =>
    have HCT := hide hct
    clear hct h1
    rw [show (Value.bool true) = .bool B.ctl by rw [unhide HCT]]
    go_enter Try.func63, Try.ntmps63
    go_upto_region 1 with fail
    generalize (w.alloc (.cells #[.pointer (some ⟨b, 0, none⟩)] 77)).alloc (.cells #[.int .i64 B.base, .int .i64 B.epoch, .int .u64 (B.pid : Int), .int .i64 B.pep, .int .i64 B.seq, .bool B.txn, .bool B.ctl, .bool B.com, .slice a B.vs.length cap] 38) = W1 at *
    have z0 := cell_of (unhide HX) 0
    have y0 := cell_of (unhide HE) 0
    have y1 := cell_of (unhide HE) 1
    have y2 := cell_of (unhide HE) 2
    have y3 := cell_of (unhide HE) 3
    have y4 := cell_of (unhide HE) 4
    have y5 := cell_of (unhide HE) 5
    have y6 := cell_of (unhide HE) 6
    have y7 := cell_of (unhide HE) 7
    have y8 := cell_of (unhide HE) 8
    simp at z0 y0 y1 y2 y3 y4 y5 y6 y7 y8
    rw [unhide HCT] at y6 HKE
    go_wp2_with fail
    refine (unhide HKE).mono ?_
    rintro e w2 ⟨vo, rfl, r2, n2, b2⟩
    obtain ⟨va, vc, rfl, vl, _, _, vn, vb⟩ := r2.parts
    have Q2 := hide ((unhide Q0).grow b2)
    have HX2 := hide (below_keep b2 (unhide HX))
    have hszl := b2.size
    have VL := hide vl
    have NV : Hid (0 < L.length → ∀ x, va = some x → Gr (Gr N w W1) W1 w2 x.block) := hide (fun h0 x hx => by
      obtain ⟨b', o', e', hlt, _⟩ := vl 0 h0
      rw [hx] at e'
      cases e'
      exact .inr ⟨n2 _ (by rw [hx]; rfl), hlt⟩)
    have B2 := hide b2
    clear r2 n2 b2 vl vb y0 y1 y2 y3 y4 y5 y6 y7 y8
    go_wp2_with fail
    refine (need_any 0 w2).mono ?_
    rintro e w3 ⟨rfl, he, _⟩
    obtain rfl := he rfl
    clear he
    have x0 := cell_of (unhide HX2) 0
    simp at x0
    go_wp2_with fail
    refine (bytes_q va vc L (unhide Q2) (unhide VL) vn (unhide NV) (by omega)).mono ?_
    rintro e w4 ⟨rfl, q4, t4⟩
    have F1 := Wq.leave q4 (unhide B2) (unhide Q0).old (unhide Q0).low t4
    have FF := hide (Wq.leave F1.1 (unhide HB0) (unhide HN) (unhide HL) F1.2)
    clear q4 t4 F1
    go_wp2
    go_returns
    exact ⟨rfl, unhide FF⟩
  | false =>
    have HV : Hid (B.vs.length ≠ 0) := hide (fun e => h1 ⟨hct, e⟩)
    have HCT := hide hct
    clear hct h1
    rw [show (Value.bool false) = .bool B.ctl by rw [unhide HCT]]
    go_enter Try.func63, Try.ntmps63
    go_upto_region 1 with fail
    generalize (w.alloc (.cells #[.pointer (some ⟨b, 0, none⟩)] 77)).alloc (.cells #[.int .i64 B.base, .int .i64 B.epoch, .int .u64 (B.pid : Int), .int .i64 B.pep, .int .i64 B.seq, .bool B.txn, .bool B.ctl, .bool B.com, .slice a B.vs.length cap] 38) = W1 at *
    have z0 := cell_of (unhide HX) 0
    have y0 := cell_of (unhide HE) 0
    have y1 := cell_of (unhide HE) 1
    have y2 := cell_of (unhide HE) 2
    have y3 := cell_of (unhide HE) 3
    have y4 := cell_of (unhide HE) 4
    have y5 := cell_of (unhide HE) 5
    have y6 := cell_of (unhide HE) 6
    have y7 := cell_of (unhide HE) 7
    have y8 := cell_of (unhide HE) 8
    simp at z0 y0 y1 y2 y3 y4 y5 y6 y7 y8
    rw [unhide HCT] at y6 HKE
    have hq : ((B.vs.length : Int) == 0) = false := by have := unhide HV; exact beq_eq_false_iff_ne.2 (by omega)
    go_wp2_with fail
    refine (unhide HKE).mono ?_
    rintro e w2 ⟨vo, rfl, r2, n2, b2⟩
    obtain ⟨va, vc, rfl, vl, _, _, vn, vb⟩ := r2.parts
    have Q2 := hide ((unhide Q0).grow b2)
    have HX2 := hide (below_keep b2 (unhide HX))
    have hszl := b2.size
    have VL := hide vl
    have NV : Hid (0 < L.length → ∀ x, va = some x → Gr (Gr N w W1) W1 w2 x.block) := hide (fun h0 x hx => by
      obtain ⟨b', o', e', hlt, _⟩ := vl 0 h0
      rw [hx] at e'
      cases e'
      exact .inr ⟨n2 _ (by rw [hx]; rfl), hlt⟩)
    have B2 := hide b2
    clear r2 n2 b2 vl vb y0 y1 y2 y3 y4 y5 y6 y7 y8
    go_wp2_with fail
    refine (need_any 0 w2).mono ?_
    rintro e w3 ⟨rfl, he, _⟩
    obtain rfl := he rfl
    clear he
    have x0 := cell_of (unhide HX2) 0
    simp at x0
    go_wp2_with fail
    refine (bytes_q va vc L (unhide Q2) (unhide VL) vn (unhide NV) (by omega)).mono ?_
    rintro e w4 ⟨rfl, q4, t4⟩
    have F1 := Wq.leave q4 (unhide B2) (unhide Q0).old (unhide Q0).low t4
    have FF := hide (Wq.leave F1.1 (unhide HB0) (unhide HN) (unhide HL) F1.2)
    clear q4 t4 F1
    go_wp2
    go_returns
    exact ⟨rfl, unhide FF⟩
set_option maxHeartbeats 8000000 in
theorem batch_no {B : Bt} {E : Nat} (a : Option Addr) (cap : Nat) (h : Wq w0 N w b s) (h1 : ¬ (B.ctl = false ∧ B.vs.length = 0)) (hB : RAt w0 a B.vs) (hf : B.Fits) (hc : chk B ≠ 0) (hL : chk B = E) (hl : s.1.length ≤ 35184372088832) :
    Calls Try.prog 63 #[.agg #[.pointer (some ⟨b, 0, none⟩)], bv B a cap] w fun e w' => e = gone (E : Int) ∧ Touch (Off N) w w' := by
  have hb0 := ((Below.refl w.heap.size w).alloc (Nat.le_refl _) (.cells #[.pointer (some ⟨b, 0, none⟩)] 77)).alloc (by simp) (.cells #[.int .i64 B.base, .int .i64 B.epoch, .int .u64 (B.pid : Int), .int .i64 B.pep, .int .i64 B.seq, .bool B.txn, .bool B.ctl, .bool B.com, .slice a B.vs.length cap] 38)
  have Q0 := hide (h.grow hb0)
  have HX := hide (heap_old (.cells #[.int .i64 B.base, .int .i64 B.epoch, .int .u64 (B.pid : Int), .int .i64 B.pep, .int .i64 B.seq, .bool B.txn, .bool B.ctl, .bool B.com, .slice a B.vs.length cap] 38) (heap_new w (.cells #[.pointer (some ⟨b, 0, none⟩)] 77)))
  have HE := hide (heap_new (w.alloc (.cells #[.pointer (some ⟨b, 0, none⟩)] 77)) (.cells #[.int .i64 B.base, .int .i64 B.epoch, .int .u64 (B.pid : Int), .int .i64 B.pep, .int .i64 B.seq, .bool B.txn, .bool B.ctl, .bool B.com, .slice a B.vs.length cap] 38))
  have hsz : (w.alloc (.cells #[.pointer (some ⟨b, 0, none⟩)] 77)).heap.size = w.heap.size + 1 := by simp
  rw [hsz] at HE
  have HN := hide h.old
  have HL := hide h.low
  have HB0 := hide hb0
  have HKE := hide (enc_no (cap := cap) (hB.later (h.base.trans (hb0.mono h.base.size))) hf hc hL)
  have HC : Hid (E ≠ 0) := hide (by rw [← hL]; exact hc)
  clear h hb0 hsz hB hf hc hL
  unfold bv at HKE ⊢
  cases hct : B.ctl with
  | true =>
    have HCT := hide hct
    clear hct h1
    rw [show (Value.bool true) = .bool B.ctl by rw [unhide HCT]]
    go_enter Try.func63, Try.ntmps63
    go_upto_region 1 with fail
    generalize (w.alloc (.cells #[.pointer (some ⟨b, 0, none⟩)] 77)).alloc (.cells #[.int .i64 B.base, .int .i64 B.epoch, .int .u64 (B.pid : Int), .int .i64 B.pep, .int .i64 B.seq, .bool B.txn, .bool B.ctl, .bool B.com, .slice a B.vs.length cap] 38) = W1 at *
    have z0 := cell_of (unhide HX) 0
    have y0 := cell_of (unhide HE) 0
    have y1 := cell_of (unhide HE) 1
    have y2 := cell_of (unhide HE) 2
    have y3 := cell_of (unhide HE) 3
    have y4 := cell_of (unhide HE) 4
    have y5 := cell_of (unhide HE) 5
    have y6 := cell_of (unhide HE) 6
    have y7 := cell_of (unhide HE) 7
    have y8 := cell_of (unhide HE) 8
    simp at z0 y0 y1 y2 y3 y4 y5 y6 y7 y8
    rw [unhide HCT] at y6 HKE
    go_wp2_with fail
    refine (unhide HKE).mono ?_
    rintro e w2 ⟨vo, rfl, r2, n2, b2⟩
    obtain ⟨va, vc, rfl, vl, _, _, vn, vb⟩ := r2.parts
    have T2 := hide (Off.leave (N := N) (unhide HB0) (Touch.of_below b2))
    clear r2 n2 b2 vl vb y0 y1 y2 y3 y4 y5 y6 y7 y8
    go_wp2_with fail
    refine (need_any (E : Int) w2).mono ?_
    rintro e w3 ⟨rfl, _, he⟩
    obtain rfl := he (by have := unhide HC; omega)
    clear he
    go_wp2
    exact ⟨rfl, rfl, unhide T2⟩
  | false =>
    have HV : Hid (B.vs.length ≠ 0) := hide (fun e => h1 ⟨hct, e⟩)
    have HCT := hide hct
    clear hct h1
    rw [show (Value.bool false) = .bool B.ctl by rw [unhide HCT]]
    go_enter Try.func63, Try.ntmps63
    go_upto_region 1 with fail
    generalize (w.alloc (.cells #[.pointer (some ⟨b, 0, none⟩)] 77)).alloc (.cells #[.int .i64 B.base, .int .i64 B.epoch, .int .u64 (B.pid : Int), .int .i64 B.pep, .int .i64 B.seq, .bool B.txn, .bool B.ctl, .bool B.com, .slice a B.vs.length cap] 38) = W1 at *
    have z0 := cell_of (unhide HX) 0
    have y0 := cell_of (unhide HE) 0
    have y1 := cell_of (unhide HE) 1
    have y2 := cell_of (unhide HE) 2
    have y3 := cell_of (unhide HE) 3
    have y4 := cell_of (unhide HE) 4
    have y5 := cell_of (unhide HE) 5
    have y6 := cell_of (unhide HE) 6
    have y7 := cell_of (unhide HE) 7
    have y8 := cell_of (unhide HE) 8
    simp at z0 y0 y1 y2 y3 y4 y5 y6 y7 y8
    rw [unhide HCT] at y6 HKE
    have hq : ((B.vs.length : Int) == 0) = false := by have := unhide HV; exact beq_eq_false_iff_ne.2 (by omega)
    go_wp2_with fail
    refine (unhide HKE).mono ?_
    rintro e w2 ⟨vo, rfl, r2, n2, b2⟩
    obtain ⟨va, vc, rfl, vl, _, _, vn, vb⟩ := r2.parts
    have T2 := hide (Off.leave (N := N) (unhide HB0) (Touch.of_below b2))
    clear r2 n2 b2 vl vb y0 y1 y2 y3 y4 y5 y6 y7 y8
    go_wp2_with fail
    refine (need_any (E : Int) w2).mono ?_
    rintro e w3 ⟨rfl, _, he⟩
    obtain rfl := he (by have := unhide HC; omega)
    clear he
    go_wp2
    exact ⟨rfl, rfl, unhide T2⟩
end
end Go.Proofs.Ytblmondkdcpkaaa
