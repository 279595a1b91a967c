/-
  batch.Encode: a batch's form, or the refusal. Conditions: none beyond those of the parameters' types.
-/
import Derived.Test.YtcekleconjmfjaaCk7
import Derived.Test.YtcekleconjmfjaaWc
namespace Go.Proofs.Ytcekleconjmfjaa
open Go.RowKit
set_option linter.unusedVariables false

def outE (b : Bt) : List Nat := if chk b = 0 then encB b else []
theorem outE_ok {b : Bt} (h : chk b = 0) : outE b = encB b := by unfold outE; rw [if_pos h]
theorem outE_no {b : Bt} (h : chk b ≠ 0) : outE b = [] := by unfold outE; rw [if_neg h]
def EnPost (w : World) (b : Bt) (e : Ending) (w' : World) : Prop := ∃ vo, e = .returned (.tuple #[vo, .int .i64 (chk b : Nat)]) ∧ Fresh w w' vo (outE b)
theorem EnPost.no {w w' : World} {b : Bt} {c : Nat} (hc : chk b = c) (h : c ≠ 0) (hb : Below w.heap.size w w') : EnPost w b (.returned (.tuple #[.slice none 0 0, .int .i64 (c : Nat)])) w' := by
  refine ⟨_, by rw [hc], ?_⟩
  rw [outE_no (by omega)]
  exact ⟨Row.nil _, New.nil _, hb⟩
theorem EnPost.ok {w w1 w' : World} {b : Bt} {vo : Value} {l : List Nat} (hc : chk b = 0) (hl : l = encB b) (r : Row w' vo l) (n : New w1 vo) (h1 : Below w.heap.size w w1) (hb : Below w.heap.size w w') : EnPost w b (.returned (.tuple #[vo, .int .i64 0])) w' := by
  refine ⟨vo, by rw [hc]; rfl, ?_⟩
  rw [outE_ok hc, ← hl]
  exact ⟨r, n.mono h1.size, hb⟩

theorem flag_c {w0 w : World} {b : Nat} {v : Value} {l : List Nat} (q : Bool) (h : Wc w0 w b v l) (hlen : l.length + 10 ≤ 140737488355328) :
    Calls Try.prog 58 #[.pointer (some ⟨b, 0, none⟩), .bool q] w fun e w' => e = .returned (.tuple #[]) ∧ ∃ v', Wc w0 w' b v' (l ++ enc q.toNat) := by
  rw [← flag_enc]
  exact (wflag_any _ v l false q w h.v hlen).mono fun _ _ ⟨he, v', hw, st⟩ => ⟨he, v', h.step hw st⟩
theorem bytes_c {w0 w : World} {b : Nat} {v : Value} {l : List Nat} (ao : Option Addr) (c : Nat) (l2 : List Nat) (h : Wc w0 w b v l) (hb : LAt w0 ao l2) (hnone : ao = none → c = 0) (h4 : l2.length ≤ 4096) (hlen : l.length + 10 + l2.length ≤ 140737488355328) :
    Calls Try.prog 61 #[.pointer (some ⟨b, 0, none⟩), .slice ao l2.length c] w fun e w' => e = .returned (.tuple #[]) ∧ ∃ v', Wc w0 w' b v' (l ++ (enc l2.length ++ l2)) :=
  (wbytes_any _ v l false ao c l2 w h.v (hb.later h.below) hnone (fun h0 x hx hm => by have := h.mine _ hm; have := lat_lt hb h0 hx; omega) h4 hlen).mono fun _ _ ⟨he, v', hw, st⟩ => ⟨he, v', h.step hw st⟩

section
variable {w : World} {g : Nat} {b : Bt} {a : Option Addr} {cap : Nat}
theorem Box.c0 (h : Box w g b a cap) : w.cell? ⟨g, 0, none⟩ = some (.int .i64 b.base) := cell_of h 0
theorem Box.c1 (h : Box w g b a cap) : w.cell? ⟨g, 1, none⟩ = some (.int .i64 b.epoch) := cell_of h 1
theorem Box.c2 (h : Box w g b a cap) : w.cell? ⟨g, 2, none⟩ = some (.int .u64 (b.pid : Int)) := cell_of h 2
theorem Box.c3 (h : Box w g b a cap) : w.cell? ⟨g, 3, none⟩ = some (.int .i64 b.pep) := cell_of h 3
theorem Box.c4 (h : Box w g b a cap) : w.cell? ⟨g, 4, none⟩ = some (.int .i64 b.seq) := cell_of h 4
theorem Box.c5 (h : Box w g b a cap) : w.cell? ⟨g, 5, none⟩ = some (.bool b.txn) := cell_of h 5
theorem Box.c6 (h : Box w g b a cap) : w.cell? ⟨g, 6, none⟩ = some (.bool b.ctl) := cell_of h 6
theorem Box.c7 (h : Box w g b a cap) : w.cell? ⟨g, 7, none⟩ = some (.bool b.com) := cell_of h 7
theorem Box.c8 (h : Box w g b a cap) : w.cell? ⟨g, 8, none⟩ = some (.slice a b.vs.length cap) := cell_of h 8
end

set_option maxRecDepth 100000 in
set_option maxHeartbeats 8000000 in
theorem encode_any (b : Bt) (a : Option Addr) (cap : Nat) (w : World) (hp : RAt w a b.vs) (hf : b.Fits) :
    Calls Try.prog 85 #[bv b a cap] w fun e w' => EnPost w b e w' := by
  have HP := hide hp
  have HF := hide hf
  have LN := hide (encB_len hf)
  have CZ := hide (chk_zero (b := b))
  have KC := hide (fun w1 (hb : Below w.heap.size w w1) => check_any b a cap w1 (hp.later hb))
  clear hp hf
  obtain ⟨base, epoch, pid, pep, seq, txn, ctl, com, vs⟩ := b
  have B0 : Hid (Below w.heap.size w (w.alloc (.cells #[.int .i64 base, .int .i64 epoch, .int .u64 (pid : Int), .int .i64 pep, .int .i64 seq, .bool txn, .bool ctl, .bool com, .slice a vs.length cap] 38))) := (Below.refl _ _).alloc (Nat.le_refl _) _
  have BX0 := hide (Box.new w ⟨base, epoch, pid, pep, seq, txn, ctl, com, vs⟩ a cap)
  go_enter Try.func85, Try.ntmps85
  go_wp2_with fail
  refine (unhide KC _ (unhide B0)).mono ?_
  rintro e w1 ⟨rfl, b1⟩
  have B1 := hide ((unhide B0).trans (b1.mono (unhide B0).size))
  have BX1 := hide ((unhide BX0).later b1)
  have P1 := hide ((unhide HP).later (unhide B1))
  have hlt : w.heap.size < w1.heap.size := lt_of_heap (unhide BX1)
  clear b1 B0 BX0 HP KC
  by_cases hz : chk ⟨base, epoch, pid, pep, seq, txn, ctl, com, vs⟩ = 0
  · have HZ := hide hz
    have hlen := unhide LN hz
    have hcz := unhide CZ hz
    have h16 : vs.length ≤ 16 := hcz.1
    have H64 := hide hcz.2
    have LE := hide hlen
    rw [hz]
    clear hz hlen hcz LN CZ
    go_wp2_with fail
    refine (new_c w1).mono ?_
    rintro e w2 ⟨rfl, c2⟩
    have C2 := hide c2
    clear c2
    have k2 := ((unhide BX1).later (unhide C2).below).c0
    simp only at k2
    go_wp2_with fail
    refine (int_c base (unhide C2) (unhide HF).base.1 (unhide HF).base.2 (by simp only [List.length_nil]; have e1 := enc_len10 (zig_lt (unhide HF).base.1 (unhide HF).base.2); have e2 := enc_len10 (zig_lt (unhide HF).epoch.1 (unhide HF).epoch.2); have e3 := enc_len10 (unhide HF).pid; have e4 := enc_len10 (zig_lt (unhide HF).pep.1 (unhide HF).pep.2); have e5 := enc_len10 (zig_lt (unhide HF).seq.1 (unhide HF).seq.2); have e6 := enc_len10 (bool_lt txn); have e7 := enc_len10 (bool_lt ctl); have e8 := enc_len10 (bool_lt com); have e9 := enc_len10 (n := vs.length) (by omega); simp only at e1 e2 e3 e4 e5 e6 e7 e8 e9; omega)).mono ?_
    rintro e w3 ⟨rfl, v3, c3⟩
    have C3 := hide c3
    clear c3 k2
    have k3 := ((unhide BX1).later (unhide C3).below).c1
    simp only at k3
    go_wp2_with fail
    refine (int_c epoch (unhide C3) (unhide HF).epoch.1 (unhide HF).epoch.2 (by simp only [List.length_append, List.length_nil]; have e1 := enc_len10 (zig_lt (unhide HF).base.1 (unhide HF).base.2); have e2 := enc_len10 (zig_lt (unhide HF).epoch.1 (unhide HF).epoch.2); have e3 := enc_len10 (unhide HF).pid; have e4 := enc_len10 (zig_lt (unhide HF).pep.1 (unhide HF).pep.2); have e5 := enc_len10 (zig_lt (unhide HF).seq.1 (unhide HF).seq.2); have e6 := enc_len10 (bool_lt txn); have e7 := enc_len10 (bool_lt ctl); have e8 := enc_len10 (bool_lt com); have e9 := enc_len10 (n := vs.length) (by omega); simp only at e1 e2 e3 e4 e5 e6 e7 e8 e9; omega)).mono ?_
    rintro e w4 ⟨rfl, v4, c4⟩
    have C4 := hide c4
    clear c4 k3
    have k4 := ((unhide BX1).later (unhide C4).below).c2
    simp only at k4
    go_wp2_with fail
    refine (uint_c pid (unhide C4) (unhide HF).pid (by simp only [List.length_append, List.length_nil]; have e1 := enc_len10 (zig_lt (unhide HF).base.1 (unhide HF).base.2); have e2 := enc_len10 (zig_lt (unhide HF).epoch.1 (unhide HF).epoch.2); have e3 := enc_len10 (unhide HF).pid; have e4 := enc_len10 (zig_lt (unhide HF).pep.1 (unhide HF).pep.2); have e5 := enc_len10 (zig_lt (unhide HF).seq.1 (unhide HF).seq.2); have e6 := enc_len10 (bool_lt txn); have e7 := enc_len10 (bool_lt ctl); have e8 := enc_len10 (bool_lt com); have e9 := enc_len10 (n := vs.length) (by omega); simp only at e1 e2 e3 e4 e5 e6 e7 e8 e9; omega)).mono ?_
    rintro e w5 ⟨rfl, v5, c5⟩
    have C5 := hide c5
    clear c5 k4
    have k5 := ((unhide BX1).later (unhide C5).below).c3
    simp only at k5
    go_wp2_with fail
    refine (int_c pep (unhide C5) (unhide HF).pep.1 (unhide HF).pep.2 (by simp only [List.length_append, List.length_nil]; have e1 := enc_len10 (zig_lt (unhide HF).base.1 (unhide HF).base.2); have e2 := enc_len10 (zig_lt (unhide HF).epoch.1 (unhide HF).epoch.2); have e3 := enc_len10 (unhide HF).pid; have e4 := enc_len10 (zig_lt (unhide HF).pep.1 (unhide HF).pep.2); have e5 := enc_len10 (zig_lt (unhide HF).seq.1 (unhide HF).seq.2); have e6 := enc_len10 (bool_lt txn); have e7 := enc_len10 (bool_lt ctl); have e8 := enc_len10 (bool_lt com); have e9 := enc_len10 (n := vs.length) (by omega); simp only at e1 e2 e3 e4 e5 e6 e7 e8 e9; omega)).mono ?_
    rintro e w6 ⟨rfl, v6, c6⟩
    have C6 := hide c6
    clear c6 k5
    have k6 := ((unhide BX1).later (unhide C6).below).c4
    simp only at k6
    go_wp2_with fail
    refine (int_c seq (unhide C6) (unhide HF).seq.1 (unhide HF).seq.2 (by simp only [List.length_append, List.length_nil]; have e1 := enc_len10 (zig_lt (unhide HF).base.1 (unhide HF).base.2); have e2 := enc_len10 (zig_lt (unhide HF).epoch.1 (unhide HF).epoch.2); have e3 := enc_len10 (unhide HF).pid; have e4 := enc_len10 (zig_lt (unhide HF).pep.1 (unhide HF).pep.2); have e5 := enc_len10 (zig_lt (unhide HF).seq.1 (unhide HF).seq.2); have e6 := enc_len10 (bool_lt txn); have e7 := enc_len10 (bool_lt ctl); have e8 := enc_len10 (bool_lt com); have e9 := enc_len10 (n := vs.length) (by omega); simp only at e1 e2 e3 e4 e5 e6 e7 e8 e9; omega)).mono ?_
    rintro e w7 ⟨rfl, v7, c7⟩
    have C7 := hide c7
    clear c7 k6
    have k7 := ((unhide BX1).later (unhide C7).below).c5
    simp only at k7
    go_wp2_with fail
    refine (flag_c txn (unhide C7)  (by simp only [List.length_append, List.length_nil]; have e1 := enc_len10 (zig_lt (unhide HF).base.1 (unhide HF).base.2); have e2 := enc_len10 (zig_lt (unhide HF).epoch.1 (unhide HF).epoch.2); have e3 := enc_len10 (unhide HF).pid; have e4 := enc_len10 (zig_lt (unhide HF).pep.1 (unhide HF).pep.2); have e5 := enc_len10 (zig_lt (unhide HF).seq.1 (unhide HF).seq.2); have e6 := enc_len10 (bool_lt txn); have e7 := enc_len10 (bool_lt ctl); have e8 := enc_len10 (bool_lt com); have e9 := enc_len10 (n := vs.length) (by omega); simp only at e1 e2 e3 e4 e5 e6 e7 e8 e9; omega)).mono ?_
    rintro e w8 ⟨rfl, v8, c8⟩
    have C8 := hide c8
    clear c8 k7
    have k8 := ((unhide BX1).later (unhide C8).below).c6
    simp only at k8
    go_wp2_with fail
    refine (flag_c ctl (unhide C8)  (by simp only [List.length_append, List.length_nil]; have e1 := enc_len10 (zig_lt (unhide HF).base.1 (unhide HF).base.2); have e2 := enc_len10 (zig_lt (unhide HF).epoch.1 (unhide HF).epoch.2); have e3 := enc_len10 (unhide HF).pid; have e4 := enc_len10 (zig_lt (unhide HF).pep.1 (unhide HF).pep.2); have e5 := enc_len10 (zig_lt (unhide HF).seq.1 (unhide HF).seq.2); have e6 := enc_len10 (bool_lt txn); have e7 := enc_len10 (bool_lt ctl); have e8 := enc_len10 (bool_lt com); have e9 := enc_len10 (n := vs.length) (by omega); simp only at e1 e2 e3 e4 e5 e6 e7 e8 e9; omega)).mono ?_
    rintro e w9 ⟨rfl, v9, c9⟩
    have C9 := hide c9
    clear c9 k8
    have k9 := ((unhide BX1).later (unhide C9).below).c7
    simp only at k9
    go_wp2_with fail
    refine (flag_c com (unhide C9)  (by simp only [List.length_append, List.length_nil]; have e1 := enc_len10 (zig_lt (unhide HF).base.1 (unhide HF).base.2); have e2 := enc_len10 (zig_lt (unhide HF).epoch.1 (unhide HF).epoch.2); have e3 := enc_len10 (unhide HF).pid; have e4 := enc_len10 (zig_lt (unhide HF).pep.1 (unhide HF).pep.2); have e5 := enc_len10 (zig_lt (unhide HF).seq.1 (unhide HF).seq.2); have e6 := enc_len10 (bool_lt txn); have e7 := enc_len10 (bool_lt ctl); have e8 := enc_len10 (bool_lt com); have e9 := enc_len10 (n := vs.length) (by omega); simp only at e1 e2 e3 e4 e5 e6 e7 e8 e9; omega)).mono ?_
    rintro e w10 ⟨rfl, v10, c10⟩
    have C10 := hide c10
    clear c10 k9
    have k10 := ((unhide BX1).later (unhide C10).below).c8
    simp only at k10
    go_wp2_with fail
    refine (uint_c vs.length (unhide C10) (by omega) (by simp only [List.length_append, List.length_nil]; have e1 := enc_len10 (zig_lt (unhide HF).base.1 (unhide HF).base.2); have e2 := enc_len10 (zig_lt (unhide HF).epoch.1 (unhide HF).epoch.2); have e3 := enc_len10 (unhide HF).pid; have e4 := enc_len10 (zig_lt (unhide HF).pep.1 (unhide HF).pep.2); have e5 := enc_len10 (zig_lt (unhide HF).seq.1 (unhide HF).seq.2); have e6 := enc_len10 (bool_lt txn); have e7 := enc_len10 (bool_lt ctl); have e8 := enc_len10 (bool_lt com); have e9 := enc_len10 (n := vs.length) (by omega); simp only at e1 e2 e3 e4 e5 e6 e7 e8 e9; omega)).mono ?_
    rintro e w11 ⟨rfl, v11, c11⟩
    have C11 := hide c11
    clear c11 k10
    have k11 := ((unhide BX1).later (unhide C11).below).c8
    simp only at k11
    go_wp2_with fail
    obtain ⟨L, hL⟩ : ∃ L, L = [] ++ enc (zig base) ++ enc (zig epoch) ++ enc pid ++ enc (zig pep) ++ enc (zig seq) ++ enc txn.toNat ++ enc ctl.toNat ++ enc com.toNat ++ enc vs.length := ⟨_, rfl⟩
    have hL90 : L.length ≤ 90 := by
      rw [hL]
      simp only [List.length_append, List.length_nil]
      have e1 := enc_len10 (zig_lt (unhide HF).base.1 (unhide HF).base.2); have e2 := enc_len10 (zig_lt (unhide HF).epoch.1 (unhide HF).epoch.2); have e3 := enc_len10 (unhide HF).pid; have e4 := enc_len10 (zig_lt (unhide HF).pep.1 (unhide HF).pep.2); have e5 := enc_len10 (zig_lt (unhide HF).seq.1 (unhide HF).seq.2); have e6 := enc_len10 (bool_lt txn); have e7 := enc_len10 (bool_lt ctl); have e8 := enc_len10 (bool_lt com); have e9 := enc_len10 (n := vs.length) (by omega); simp only at e1 e2 e3 e4 e5 e6 e7 e8 e9
      omega
    have LL : Hid (L ++ encVs vs = encB ⟨base, epoch, pid, pep, seq, txn, ctl, com, vs⟩) := by
      show _ = _
      rw [hL]
      unfold encB
      simp only [List.append_assoc, List.nil_append]
    rw [← hL] at C11
    clear hL
    go_loopw [55] (fun i wr => ∃ (k : Nat) (v' : Value), k ≤ vs.length ∧ i = .int .i64 k ∧ Wc w1 wr w1.heap.size v' (L ++ encVs (vs.take k))) (fun i _ => vs.length - (intOf i).toNat)
    case atStart => exact ⟨0, _, Nat.zero_le _, rfl, by simpa [encVs] using unhide C11⟩
    case round =>
      obtain ⟨k, v', hk, rfl, hc⟩ := hrel
      have HC := hide hc
      clear hc k11
      by_cases hkc : k < vs.length
      · have hkc' : (k : Int) < (vs.length : Int) := by omega
        obtain ⟨bb, off, x, c, rfl, hbb, hcell0, lx, hnx⟩ := (unhide P1).cell hkc
        have hcell : wr.cell? ⟨bb, off + k, none⟩ = some (.slice x (vs.getD k []).length c) := ((unhide HC).below.cell (p := ⟨bb, off + k, none⟩) hbb).trans hcell0
        have hp4 : (vs.getD k []).length ≤ 64 := unhide H64 _ (by simp [List.getD, hkc])
        have ET := hide (encVs_take hkc)
        have hLk : (L ++ encVs (vs.take k)).length ≤ 2000 := by
          have := encVs_len (vs.take k) (fun v hv => unhide H64 v (List.mem_of_mem_take hv))
          rw [List.length_append]
          rw [List.length_take] at this
          omega
        have LX := hide lx
        clear lx hcell0
        generalize vs.getD k [] = p at *
        go_wp2_with fail
        refine (bytes_c x c p (unhide HC) (unhide LX) hnx (by omega) (by omega)).mono ?_
        rintro e wn ⟨rfl, vn, cn⟩
        rw [List.append_assoc, ← unhide ET] at cn
        have CN := hide cn
        clear cn
        go_wp2
        go_roundw
        case rel => exact ⟨k + 1, vn, by omega, by go_num, unhide CN⟩
        case measure => simp [intOf]; omega
      · obtain rfl : k = vs.length := by omega
        rw [List.take_length] at HC
        have LB : (L ++ encVs vs).length ≤ 140737488355328 := by rw [unhide LL]; have := unhide LE; omega
        go_wp2_with fail
        refine (out_c (unhide HC) LB).mono ?_
        rintro e wo ⟨vo, rfl, co, ro, no, bo⟩
        have E : Hid (EnPost w ⟨base, epoch, pid, pep, seq, txn, ctl, com, vs⟩ (.returned (.tuple #[vo, .int .i64 0])) wo) := EnPost.ok (unhide HZ) (unhide LL) ro no ((unhide B1).trans ((unhide HC).below.mono (unhide B1).size)) ((unhide B1).trans (co.below.mono (unhide B1).size))
        obtain ⟨ao, mo, cpo, rfl⟩ := ro.shape
        clear co ro no bo
        go_wp2
        go_returns
        exact unhide E
  · generalize hcc : chk ⟨base, epoch, pid, pep, seq, txn, ctl, com, vs⟩ = cc at *
    have HCC := hide hcc
    clear hcc LN CZ
    have hz' : ¬ (cc : Int) = 0 := by omega
    go_wp2
    go_returns
    exact EnPost.no (unhide HCC) hz (unhide B1)
end Go.Proofs.Ytcekleconjmfjaa
