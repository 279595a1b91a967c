/-
  Records as bytes: Encode and the document's, in plain words. Conditions: the numbers are those of their type.
-/
import Derived.Test.YtbgccnnomgeniaaTx1
import Derived.Test.YtbgccnnomgeniaaWc
import Derived.Test.YtbgccnnomgeniaaRf3
import Derived.Test.YtbgccnnomgeniaaRfe
import Derived.Deep.CutBlock
namespace Go.Proofs.Ytbgccnnomgeniaa
open Go.RowKit
set_option linter.unusedVariables false

/-- A record, in plain words. -/
structure Rx where
  kd : Int
  tx : Int
  inc : Int
  pid : Nat
  ep : Int
  l : List Int
  co : Bool
def J64 (x : Int) : Prop := -9223372036854775808 ≤ x ∧ x < 9223372036854775808
abbrev rxA (r : Rx) (a : Option Addr) (k : Nat) : Array Value := #[.int .i64 r.kd, .int .i64 r.tx, .int .i64 r.inc, .int .u64 ((r.pid : Nat) : Int), .int .i64 r.ep, .slice a r.l.length k, .bool r.co]
structure RFit (r : Rx) : Prop where
  kd : J64 r.kd
  tx : J64 r.tx
  inc : J64 r.inc
  pid : r.pid < 18446744073709551616
  ep : J64 r.ep
  l : ∀ x ∈ r.l, -9223372036854775808 ≤ x ∧ x < 9223372036854775808
def encR (r : Rx) : List Nat := ((((((enc (zig r.kd)) ++ enc (zig r.tx)) ++ enc (zig r.inc)) ++ enc (zig r.ep)) ++ enc r.pid) ++ (enc r.l.length ++ encL r.l)) ++ [r.co.toNat]
def isR (r : Rx) : Bool := decide (1 ≤ r.kd) && (decide (r.kd ≤ 4) && (decide (0 ≤ r.tx) && (decide (r.tx < 8) && decide ((r.l.length : Int) ≤ 6))))
theorem isR_few {r : Rx} (h : isR r = true) : r.l.length ≤ 6 := by
  unfold isR at h
  simp only [Bool.and_eq_true, decide_eq_true_eq] at h
  omega
set_option maxHeartbeats 4000000 in
theorem isRec_any (w : World) (r : Rx) (a : Option Addr) (k : Nat) (hl : r.l.length ≤ maxLen) : Calls Try.prog 26 #[.agg (rxA r a k)] w fun e w' => e = .returned (.bool (isR r)) ∧ Below w.heap.size w w' := by
  obtain ⟨kd, tx, inc, pid, ep, l, co⟩ := r
  unfold isR rxA
  simp only at hl ⊢
  have hb : l.length ≤ 9223372036854775807 := by unfold maxLen at hl; omega
  clear hl
  generalize l.length = n at *
  have B := hide ((Below.refl w.heap.size w).alloc (Nat.le_refl _) (.cells #[.int .i64 kd, .int .i64 tx, .int .i64 inc, .int .u64 ((pid : Nat) : Int), .int .i64 ep, .slice a n k, .bool co] 25))
  by_cases h1 : 1 ≤ kd
  · have h1' : ¬ kd < 1 := by omega
    by_cases h2 : kd ≤ 4
    · have h2' : ¬ 4 < kd := by omega
      by_cases h3 : 0 ≤ tx
      · have h3' : ¬ tx < 0 := by omega
        by_cases h4 : tx < 8
        · have h4' : ¬ 7 < tx := by omega
          by_cases h5 : (n : Int) ≤ 6
          · have h5' : ¬ 6 < (n : Int) := by omega
            have KN := isName_any tx (w.alloc (.cells #[.int .i64 kd, .int .i64 tx, .int .i64 inc, .int .u64 ((pid : Nat) : Int), .int .i64 ep, .slice a n k, .bool co] 25))
            rw [show decide (0 ≤ tx ∧ tx < 8) = true by simp; omega] at KN
            have HKN := hide KN
            clear KN
            go_enter Try.func26, Try.ntmps26
            go_wp2_with (go_at_call 50; refine (unhide HKN).mono ?_; rintro e w2 ⟨rfl, rfl⟩)
            go_returns
            exact ⟨by (simp [*]) <;> (intros; omega), unhide B⟩
          · have h5' : 6 < (n : Int) := by omega
            have KN := isName_any tx (w.alloc (.cells #[.int .i64 kd, .int .i64 tx, .int .i64 inc, .int .u64 ((pid : Nat) : Int), .int .i64 ep, .slice a n k, .bool co] 25))
            rw [show decide (0 ≤ tx ∧ tx < 8) = true by simp; omega] at KN
            have HKN := hide KN
            clear KN
            go_enter Try.func26, Try.ntmps26
            go_wp2_with (go_at_call 50; refine (unhide HKN).mono ?_; rintro e w2 ⟨rfl, rfl⟩)
            go_returns
            exact ⟨by (simp [*]) <;> (intros; omega), unhide B⟩
        · have h4' : 7 < tx := by omega
          have KN := isName_any tx (w.alloc (.cells #[.int .i64 kd, .int .i64 tx, .int .i64 inc, .int .u64 ((pid : Nat) : Int), .int .i64 ep, .slice a n k, .bool co] 25))
          rw [show decide (0 ≤ tx ∧ tx < 8) = false by simp; omega] at KN
          have HKN := hide KN
          clear KN
          go_enter Try.func26, Try.ntmps26
          go_wp2_with (go_at_call 50; refine (unhide HKN).mono ?_; rintro e w2 ⟨rfl, rfl⟩)
          go_returns
          exact ⟨by (simp [*]) <;> (intros; omega), unhide B⟩
      · have h3' : tx < 0 := by omega
        have KN := isName_any tx (w.alloc (.cells #[.int .i64 kd, .int .i64 tx, .int .i64 inc, .int .u64 ((pid : Nat) : Int), .int .i64 ep, .slice a n k, .bool co] 25))
        rw [show decide (0 ≤ tx ∧ tx < 8) = false by simp; omega] at KN
        have HKN := hide KN
        clear KN
        go_enter Try.func26, Try.ntmps26
        go_wp2_with (go_at_call 50; refine (unhide HKN).mono ?_; rintro e w2 ⟨rfl, rfl⟩)
        go_returns
        exact ⟨by (simp [*]) <;> (intros; omega), unhide B⟩
    · have h2' : 4 < kd := by omega
      go_enter Try.func26, Try.ntmps26
      go_wp2
      go_returns
      exact ⟨by (simp [*]) <;> (intros; omega), unhide B⟩
  · have h1' : kd < 1 := by omega
    go_enter Try.func26, Try.ntmps26
    go_wp2
    go_returns
    exact ⟨by (simp [*]) <;> (intros; omega), unhide B⟩
set_option maxHeartbeats 4000000 in
theorem bad_any (w : World) (r : Rx) (a : Option Addr) (k : Nat) (hl : r.l.length ≤ maxLen) : Calls Try.prog 12 #[.agg (rxA r a k)] w fun e w' => e = .returned (.bool (!isR r)) ∧ Below w.heap.size w w' := by
  obtain ⟨kd, tx, inc, pid, ep, l, co⟩ := r
  unfold isR rxA
  simp only at hl ⊢
  have hb : l.length ≤ 9223372036854775807 := by unfold maxLen at hl; omega
  clear hl
  generalize l.length = n at *
  have B := hide ((Below.refl w.heap.size w).alloc (Nat.le_refl _) (.cells #[.int .i64 kd, .int .i64 tx, .int .i64 inc, .int .u64 ((pid : Nat) : Int), .int .i64 ep, .slice a n k, .bool co] 25))
  by_cases h1 : 1 ≤ kd
  · have h1' : ¬ kd < 1 := by omega
    by_cases h2 : kd ≤ 4
    · have h2' : ¬ 4 < kd := by omega
      by_cases h3 : 0 ≤ tx
      · have h3' : ¬ tx < 0 := by omega
        by_cases h4 : tx < 8
        · have h4' : ¬ 7 < tx := by omega
          by_cases h5 : (n : Int) ≤ 6
          · have h5' : ¬ 6 < (n : Int) := by omega
            go_enter Try.func12, Try.ntmps12
            go_wp2
            go_returns
            exact ⟨by (simp [*]) <;> (intros; omega), unhide B⟩
          · have h5' : 6 < (n : Int) := by omega
            go_enter Try.func12, Try.ntmps12
            go_wp2
            go_returns
            exact ⟨by (simp [*]) <;> (intros; omega), unhide B⟩
        · have h4' : 7 < tx := by omega
          go_enter Try.func12, Try.ntmps12
          go_wp2
          go_returns
          exact ⟨by (simp [*]) <;> (intros; omega), unhide B⟩
      · have h3' : tx < 0 := by omega
        go_enter Try.func12, Try.ntmps12
        go_wp2
        go_returns
        exact ⟨by (simp [*]) <;> (intros; omega), unhide B⟩
    · have h2' : 4 < kd := by omega
      go_enter Try.func12, Try.ntmps12
      go_wp2
      go_returns
      exact ⟨by (simp [*]) <;> (intros; omega), unhide B⟩
  · have h1' : kd < 1 := by omega
    go_enter Try.func12, Try.ntmps12
    go_wp2
    go_returns
    exact ⟨by (simp [*]) <;> (intros; omega), unhide B⟩
def EnR (w : World) (E : Int) (l : List Nat) (e : Ending) (w' : World) : Prop := ∃ vo, e = .returned (.tuple #[vo, .int .i64 E]) ∧ Fresh w w' vo l
theorem ints_c {w0 w : World} {b : Nat} {v : Value} {l : List Nat} (ao : Option Addr) (c : Nat) (ls : List Int) (h : Wc w0 w b v l) (hb : IAt w0 ao ls) (hf : ∀ x ∈ ls, -9223372036854775808 ≤ x ∧ x < 9223372036854775808) (hls : ls.length ≤ 6) (hlen : l.length ≤ 1000) :
    Calls Try.prog 30 #[.pointer (some ⟨b, 0, none⟩), .slice ao ls.length c] w fun e w' => e = .returned (.tuple #[]) ∧ ∃ v', Wc w0 w' b v' (l ++ (enc ls.length ++ encL ls)) :=
  (wints_any _ v l false ao c ls w h.v (hb.later h.below) (fun h0 x hx hm => by
    have := h.mine _ hm
    obtain ⟨b', off, e, hlt, _⟩ := hb 0 h0
    rw [hx] at e
    cases e
    simp only at this
    omega) hf (by omega) (.inl (by omega))).mono fun _ _ ⟨he, v', hw, st⟩ => ⟨he, v', h.step hw st⟩
theorem flag_c {w0 w : World} {b : Nat} {v : Value} {l : List Nat} (q : Bool) (h : Wc w0 w b v l) (hlen : l.length + 10 ≤ 140737488355328) :
    Calls Try.prog 31 #[.pointer (some ⟨b, 0, none⟩), .bool q] w fun e w' => e = .returned (.tuple #[]) ∧ ∃ v', Wc w0 w' b v' (l ++ [q.toNat]) :=
  (wflag_any _ v l false q w h.v hlen).mono fun _ _ ⟨he, v', hw, st⟩ => ⟨he, v', h.step hw st⟩
set_option maxHeartbeats 4000000 in
theorem encode_bad {w : World} {r : Rx} {a : Option Addr} {k : Nat} (hi : IAt w a r.l) (hl : r.l.length ≤ maxLen) (hC : isR r = false) :
    Calls Try.prog 8 #[.agg (rxA r a k)] w fun e w' => EnR w 1 [] e w' := by
  have b0 := (Below.refl w.heap.size w).alloc (Nat.le_refl _) (.cells (rxA r a k) 25)
  have KK := isRec_any (w.alloc (.cells (rxA r a k) 25)) r a k hl
  rw [hC] at KK
  have B0 := hide b0
  have HK := hide KK
  obtain ⟨kd, tx, inc, pid, ep, l, co⟩ := r
  clear b0 KK hi hl hC
  unfold rxA at *
  simp only at *
  generalize l.length = n at *
  go_enter Try.func8, Try.ntmps8
  go_wp2_with (go_at_call 26; refine (unhide HK).mono ?_; rintro e w1 ⟨rfl, b1⟩; have B1 := hide ((unhide B0).trans (b1.mono (unhide B0).size)); clear b1)
  go_returns
  exact ⟨_, rfl, Row.nil _, New.nil _, unhide B1⟩
set_option maxHeartbeats 8000000 in
theorem encode_ok {w : World} {r : Rx} {a : Option Addr} {k : Nat} (hi : IAt w a r.l) (hl : r.l.length ≤ maxLen) (hf : RFit r) (hC : isR r = true) :
    Calls Try.prog 8 #[.agg (rxA r a k)] w fun e w' => EnR w 0 (encR r) e w' := by
  have h5 := isR_few hC
  have b0 := (Below.refl w.heap.size w).alloc (Nat.le_refl _) (.cells (rxA r a k) 25)
  have KK := isRec_any (w.alloc (.cells (rxA r a k) 25)) r a k hl
  rw [hC] at KK
  have LI := hide (hi.later b0)
  have B0 := hide b0
  have HK := hide KK
  have HF := hide hf
  have HBX := hide (heap_new w (.cells (rxA r a k) 25))
  obtain ⟨kd, tx, inc, pid, ep, l, co⟩ := r
  clear b0 KK hi hl hC hf
  unfold rxA encR at *
  simp only at *
  have l0 := enc_len10 (zig_lt (unhide HF).kd.1 (unhide HF).kd.2)
  have l1 := enc_len10 (zig_lt (unhide HF).tx.1 (unhide HF).tx.2)
  have l2 := enc_len10 (zig_lt (unhide HF).inc.1 (unhide HF).inc.2)
  have l3 := enc_len10 (zig_lt (unhide HF).ep.1 (unhide HF).ep.2)
  have l4 := enc_len10 (unhide HF).pid
  have l5 := enc_len10 (n := l.length) (by omega)
  have l5L := encL_len l (unhide HF).l
  simp only at l0 l1 l2 l3 l4
  go_enter Try.func8, Try.ntmps8
  go_wp2_with fail
  refine (unhide HK).mono ?_
  rintro e w1 ⟨rfl, b1⟩
  have B1 := hide ((unhide B0).trans (b1.mono (unhide B0).size))
  have HX := hide (below_keep b1 (unhide HBX))
  have L1 := hide ((unhide LI).later b1)
  clear b1 B0 HBX LI HK
  go_wp2_with fail
  refine (new_c w1).mono ?_
  rintro e x0 ⟨rfl, c0⟩
  have C0 := hide c0
  clear c0
  have hlt : w.heap.size < w1.heap.size := lt_of_heap (unhide HX)
  have k0 := cell_of (below_keep (unhide C0).below (unhide HX)) 0
  simp at k0
  go_wp2_with fail
  refine (int_c kd (unhide C0) (unhide HF).kd.1 (unhide HF).kd.2 (by first | decide | ((repeat rw [List.length_append]); (try rw [List.length_cons]); (try rw [List.length_nil]); omega))).mono ?_
  rintro e x1 ⟨rfl, v1, c1⟩
  have C1 := hide c1
  clear c1 k0
  have k1 := cell_of (below_keep (unhide C1).below (unhide HX)) 1
  simp at k1
  go_wp2_with fail
  refine (int_c tx (unhide C1) (unhide HF).tx.1 (unhide HF).tx.2 (by first | decide | ((repeat rw [List.length_append]); (try rw [List.length_cons]); (try rw [List.length_nil]); omega))).mono ?_
  rintro e x2 ⟨rfl, v2, c2⟩
  have C2 := hide c2
  clear c2 k1
  have k2 := cell_of (below_keep (unhide C2).below (unhide HX)) 2
  simp at k2
  go_wp2_with fail
  refine (int_c inc (unhide C2) (unhide HF).inc.1 (unhide HF).inc.2 (by first | decide | ((repeat rw [List.length_append]); (try rw [List.length_cons]); (try rw [List.length_nil]); omega))).mono ?_
  rintro e x3 ⟨rfl, v3, c3⟩
  have C3 := hide c3
  clear c3 k2
  have k3 := cell_of (below_keep (unhide C3).below (unhide HX)) 4
  simp at k3
  go_wp2_with fail
  refine (int_c ep (unhide C3) (unhide HF).ep.1 (unhide HF).ep.2 (by first | decide | ((repeat rw [List.length_append]); (try rw [List.length_cons]); (try rw [List.length_nil]); omega))).mono ?_
  rintro e x4 ⟨rfl, v4, c4⟩
  have C4 := hide c4
  clear c4 k3
  have k4 := cell_of (below_keep (unhide C4).below (unhide HX)) 3
  simp at k4
  go_wp2_with fail
  refine (uint_c pid (unhide C4) (unhide HF).pid (by first | decide | ((repeat rw [List.length_append]); (try rw [List.length_cons]); (try rw [List.length_nil]); omega))).mono ?_
  rintro e x5 ⟨rfl, v5, c5⟩
  have C5 := hide c5
  clear c5 k4
  have k5 := cell_of (below_keep (unhide C5).below (unhide HX)) 5
  simp at k5
  go_wp2_with fail
  refine (ints_c a k l (unhide C5) (unhide L1) (unhide HF).l h5 (by first | decide | ((repeat rw [List.length_append]); (try rw [List.length_cons]); (try rw [List.length_nil]); omega))).mono ?_
  rintro e x6 ⟨rfl, v6, c6⟩
  have C6 := hide c6
  clear c6 k5
  have k6 := cell_of (below_keep (unhide C6).below (unhide HX)) 6
  simp at k6
  go_wp2_with fail
  refine (flag_c co (unhide C6) (by first | decide | ((repeat rw [List.length_append]); (try rw [List.length_cons]); (try rw [List.length_nil]); omega))).mono ?_
  rintro e x7 ⟨rfl, v7, c7⟩
  have C7 := hide c7
  clear c7 k6
  go_wp2_with fail
  refine (out_c (unhide C7) (by first | decide | ((repeat rw [List.length_append]); (try rw [List.length_cons]); (try rw [List.length_nil]); omega))).mono ?_
  rintro e xo ⟨vo, rfl, q1, q2, q3, q4⟩
  have Q2 := hide q2
  have Q3 := hide q3
  have Q4 := hide q4
  clear q1 q2 q3 q4
  obtain ⟨ao, no, co_, rfl⟩ := (unhide Q2).shape
  go_wp2
  go_returns
  have b6 := (unhide B1).trans ((unhide C7).below.mono (unhide B1).size)
  refine ⟨_, rfl, ?_, (unhide Q3).mono b6.size, b6.trans ((unhide Q4).mono b6.size)⟩
  have := unhide Q2
  simp only [List.nil_append] at this
  exact this
set_option maxHeartbeats 4000000 in
theorem docencode_bad {w : World} {r : Rx} {a : Option Addr} {k : Nat} (hi : IAt w a r.l) (hl : r.l.length ≤ maxLen) (hC : isR r = false) :
    Calls Try.prog 4 #[.agg (rxA r a k)] w fun e w' => EnR w 1 [] e w' := by
  have b0 := (Below.refl w.heap.size w).alloc (Nat.le_refl _) (.cells (rxA r a k) 25)
  have KK := bad_any (w.alloc (.cells (rxA r a k) 25)) r a k hl
  rw [hC] at KK
  have B0 := hide b0
  have HK := hide KK
  obtain ⟨kd, tx, inc, pid, ep, l, co⟩ := r
  clear b0 KK hi hl hC
  unfold rxA at *
  simp only [Bool.not_false] at *
  generalize l.length = n at *
  go_enter Try.func4, Try.ntmps4
  go_wp2_with (go_at_call 12; refine (unhide HK).mono ?_; rintro e w1 ⟨rfl, b1⟩; have B1 := hide ((unhide B0).trans (b1.mono (unhide B0).size)); clear b1)
  go_returns
  exact ⟨_, rfl, Row.nil _, New.nil _, unhide B1⟩
set_option maxHeartbeats 8000000 in
theorem docencode_ok {w : World} {r : Rx} {a : Option Addr} {k : Nat} (hi : IAt w a r.l) (hl : r.l.length ≤ maxLen) (hf : RFit r) (hC : isR r = true) :
    Calls Try.prog 4 #[.agg (rxA r a k)] w fun e w' => EnR w 0 (encR r) e w' := by
  have h5 := isR_few hC
  have b0 := (Below.refl w.heap.size w).alloc (Nat.le_refl _) (.cells (rxA r a k) 25)
  have KK := bad_any (w.alloc (.cells (rxA r a k) 25)) r a k hl
  rw [hC] at KK
  have LI := hide (hi.later b0)
  have B0 := hide b0
  have HK := hide KK
  have HF := hide hf
  have HBX := hide (heap_new w (.cells (rxA r a k) 25))
  have HE : Hid (encR r = encR r) := hide rfl
  obtain ⟨kd, tx, inc, pid, ep, l, co⟩ := r
  clear b0 KK hi hl hC hf
  unfold rxA at *
  unfold encR at HE
  simp only [Bool.not_true] at *
  have l0 := enc_len10 (zig_lt (unhide HF).kd.1 (unhide HF).kd.2)
  have l1 := enc_len10 (zig_lt (unhide HF).tx.1 (unhide HF).tx.2)
  have l2 := enc_len10 (zig_lt (unhide HF).inc.1 (unhide HF).inc.2)
  have l3 := enc_len10 (zig_lt (unhide HF).ep.1 (unhide HF).ep.2)
  have l4 := enc_len10 (unhide HF).pid
  have l5 := enc_len10 (n := l.length) (by omega)
  have l5L := encL_len l (unhide HF).l
  simp only at l0 l1 l2 l3 l4
  go_enter Try.func4, Try.ntmps4
  go_wp2_with fail
  refine (unhide HK).mono ?_
  rintro e w1 ⟨rfl, b1⟩
  have B1 := hide ((unhide B0).trans (b1.mono (unhide B0).size))
  have HX := hide (below_keep b1 (unhide HBX))
  have L1 := hide ((unhide LI).later b1)
  clear b1 B0 HBX LI HK
  have k0 := cell_of (unhide HX) 0
  simp at k0
  go_wp2_with fail
  refine (eint_any kd w1 (unhide HF).kd.1 (unhide HF).kd.2).mono ?_
  rintro e y0 ⟨z0, rfl, f0⟩
  have F0 := hide f0
  obtain ⟨az, nz, cz, es⟩ := f0.1.shape
  subst es
  clear f0 k0
  have k1 := cell_of (below_keep (unhide F0).2.2 (unhide HX)) 1
  simp at k1
  have KI := hide (eint_any tx y0 (unhide HF).tx.1 (unhide HF).tx.2)
  go_upto_region 5 with (first
    | (go_at_call 13; refine (unhide KI).mono ?_; rintro e x1 ⟨v2, rfl, f2⟩; obtain ⟨a2, c2, rfl, q2, _, _, z2, _⟩ := f2.1.parts; have R2 := hide ((unhide F0).1.later f2.2.2); have Q2 := hide q2; have B2 := hide f2.2.2; clear f2 q2)
    | (at_builtin; refine wpList_row _ rfl (.tmp 10) (.tmp 13) rfl _ (enc (zig kd)) rfl (unhide R2) a2 c2 (enc (zig tx)) rfl (unhide Q2) z2 (by first | decide | ((repeat rw [List.length_append]); (try rw [List.length_cons]); (try rw [List.length_nil]); omega)) ?_; intro v3 y1 r3 t3 m3; have F1 := hide (fresh_app (unhide F0) (unhide B2) r3 t3 m3); obtain ⟨a3, n3, c3, e3⟩ := r3.shape; subst e3; clear r3 t3 m3 Q2 R2 B2 z2))
  clear k1 KI
  have k2 := cell_of (below_keep (unhide F1).2.2 (unhide HX)) 2
  simp at k2
  have KI := hide (eint_any inc y1 (unhide HF).inc.1 (unhide HF).inc.2)
  go_upto_region 6 with (first
    | (go_at_call 13; refine (unhide KI).mono ?_; rintro e x2 ⟨v2, rfl, f2⟩; obtain ⟨a2, c2, rfl, q2, _, _, z2, _⟩ := f2.1.parts; have R2 := hide ((unhide F1).1.later f2.2.2); have Q2 := hide q2; have B2 := hide f2.2.2; clear f2 q2)
    | (at_builtin; refine wpList_row _ rfl (.tmp 15) (.tmp 18) rfl _ ((enc (zig kd)) ++ enc (zig tx)) rfl (unhide R2) a2 c2 (enc (zig inc)) rfl (unhide Q2) z2 (by first | decide | ((repeat rw [List.length_append]); (try rw [List.length_cons]); (try rw [List.length_nil]); omega)) ?_; intro v3 y2 r3 t3 m3; have F2 := hide (fresh_app (unhide F1) (unhide B2) r3 t3 m3); obtain ⟨a3, n3, c3, e3⟩ := r3.shape; subst e3; clear r3 t3 m3 Q2 R2 B2 z2))
  clear k2 KI
  have k3 := cell_of (below_keep (unhide F2).2.2 (unhide HX)) 4
  simp at k3
  have KI := hide (eint_any ep y2 (unhide HF).ep.1 (unhide HF).ep.2)
  go_upto_region 7 with (first
    | (go_at_call 13; refine (unhide KI).mono ?_; rintro e x3 ⟨v2, rfl, f2⟩; obtain ⟨a2, c2, rfl, q2, _, _, z2, _⟩ := f2.1.parts; have R2 := hide ((unhide F2).1.later f2.2.2); have Q2 := hide q2; have B2 := hide f2.2.2; clear f2 q2)
    | (at_builtin; refine wpList_row _ rfl (.tmp 20) (.tmp 23) rfl _ (((enc (zig kd)) ++ enc (zig tx)) ++ enc (zig inc)) rfl (unhide R2) a2 c2 (enc (zig ep)) rfl (unhide Q2) z2 (by first | decide | ((repeat rw [List.length_append]); (try rw [List.length_cons]); (try rw [List.length_nil]); omega)) ?_; intro v3 y3 r3 t3 m3; have F3 := hide (fresh_app (unhide F2) (unhide B2) r3 t3 m3); obtain ⟨a3, n3, c3, e3⟩ := r3.shape; subst e3; clear r3 t3 m3 Q2 R2 B2 z2))
  clear k3 KI
  have k4 := cell_of (below_keep (unhide F3).2.2 (unhide HX)) 3
  simp at k4
  have KI := hide (euint_any pid y3 (unhide HF).pid)
  go_upto_region 8 with (first
    | (go_at_call 14; refine (unhide KI).mono ?_; rintro e x4 ⟨v2, rfl, f2⟩; obtain ⟨a2, c2, rfl, q2, _, _, z2, _⟩ := f2.1.parts; have R2 := hide ((unhide F3).1.later f2.2.2); have Q2 := hide q2; have B2 := hide f2.2.2; clear f2 q2)
    | (at_builtin; refine wpList_row _ rfl (.tmp 25) (.tmp 28) rfl _ ((((enc (zig kd)) ++ enc (zig tx)) ++ enc (zig inc)) ++ enc (zig ep)) rfl (unhide R2) a2 c2 (enc pid) rfl (unhide Q2) z2 (by first | decide | ((repeat rw [List.length_append]); (try rw [List.length_cons]); (try rw [List.length_nil]); omega)) ?_; intro v3 y4 r3 t3 m3; have F4 := hide (fresh_app (unhide F3) (unhide B2) r3 t3 m3); obtain ⟨a3, n3, c3, e3⟩ := r3.shape; subst e3; clear r3 t3 m3 Q2 R2 B2 z2))
  clear k4 KI
  obtain ⟨Y, hY, hYl⟩ : ∃ Y, enc l.length ++ encL l = Y ∧ Y.length ≤ 100 := ⟨_, rfl, by rw [List.length_append]; omega⟩
  have k5 := cell_of (below_keep (unhide F4).2.2 (unhide HX)) 5
  simp at k5
  have KI := hide (hY ▸ (eints_any a k l y4 ((unhide L1).later (unhide F4).2.2) (unhide HF).l (by omega)))
  go_upto_region 9 with (first
    | (go_at_call 15; refine (unhide KI).mono ?_; rintro e x5 ⟨v2, rfl, f2⟩; obtain ⟨a2, c2, rfl, q2, _, _, z2, _⟩ := f2.1.parts; have R2 := hide ((unhide F4).1.later f2.2.2); have Q2 := hide q2; have B2 := hide f2.2.2; clear f2 q2)
    | (at_builtin; refine wpList_row _ rfl (.tmp 30) (.tmp 33) rfl _ (((((enc (zig kd)) ++ enc (zig tx)) ++ enc (zig inc)) ++ enc (zig ep)) ++ enc pid) rfl (unhide R2) a2 c2 (Y) rfl (unhide Q2) z2 (by first | decide | ((repeat rw [List.length_append]); (try rw [List.length_cons]); (try rw [List.length_nil]); omega)) ?_; intro v3 y5 r3 t3 m3; have F5 := hide (fresh_app (unhide F4) (unhide B2) r3 t3 m3); obtain ⟨a3, n3, c3, e3⟩ := r3.shape; subst e3; clear r3 t3 m3 Q2 R2 B2 z2))
  clear k5 KI
  have HY := hide hY
  clear hY
  have k6 := cell_of (below_keep (unhide F5).2.2 (unhide HX)) 6
  simp at k6
  have KI := hide (eflag_any co y5)
  go_upto_region 10 with (first
    | (go_at_call 16; refine (unhide KI).mono ?_; rintro e x6 ⟨v2, rfl, f2⟩; obtain ⟨a2, c2, rfl, q2, _, _, z2, _⟩ := f2.1.parts; have R2 := hide ((unhide F5).1.later f2.2.2); have Q2 := hide q2; have B2 := hide f2.2.2; clear f2 q2)
    | (at_builtin; refine wpList_row _ rfl (.tmp 35) (.tmp 38) rfl _ ((((((enc (zig kd)) ++ enc (zig tx)) ++ enc (zig inc)) ++ enc (zig ep)) ++ enc pid) ++ Y) rfl (unhide R2) a2 c2 ([co.toNat]) rfl (unhide Q2) z2 (by first | decide | ((repeat rw [List.length_append]); (try rw [List.length_cons]); (try rw [List.length_nil]); omega)) ?_; intro v3 y6 r3 t3 m3; have F6 := hide (fresh_app (unhide F5) (unhide B2) r3 t3 m3); obtain ⟨a3, n3, c3, e3⟩ := r3.shape; subst e3; clear r3 t3 m3 Q2 R2 B2 z2))
  clear k6 KI
  go_wp2
  go_returns
  obtain ⟨q1, q2, q3⟩ := unhide F6
  rw [← unhide HY] at q1
  refine ⟨_, rfl, q1, q2.mono (unhide B1).size, (unhide B1).trans (q3.mono (unhide B1).size)⟩
end Go.Proofs.Ytbgccnnomgeniaa
