/-
  codec.Reader's Fixed, Bytes, Ints, State, End, and NewReader. Conditions: the bytes are at most 2^47.
-/
import Derived.Test.YtfbnkeflgddcmaaRd2
namespace Go.Proofs.Ytfbnkeflgddcmaa
open Go.RowKit
set_option linter.unusedVariables false

set_option maxRecDepth 100000 in
theorem fix_or {x0 x1 x2 x3 : Nat} (h0 : x0 < 256) (h1 : x1 < 256) (h2 : x2 < 256) (h3 : x3 < 256) :
    bits BinOp.or IntKind.u32 (bits BinOp.or IntKind.u32 (bits BinOp.or IntKind.u32 (x0 : Int) ((x1 : Int) * 256)) ((x2 : Int) * 65536)) ((x3 : Int) * 16777216) = ((x0 + 256 * x1 + 65536 * x2 + 16777216 * x3 : Nat) : Int) := by
  have e1 := u32_or_nat x0 (x1 * 256) (by omega) (by omega)
  have e2 := u32_or_nat (x0 + 256 * x1) (x2 * 65536) (by omega) (by omega)
  have e3 := u32_or_nat (x0 + 256 * x1 + 65536 * x2) (x3 * 16777216) (by omega) (by omega)
  have j1 := nat_join 8 (x1 * 256) x0 (by omega) (by omega)
  have j2 := nat_join 16 (x2 * 65536) (x0 + 256 * x1) (by omega) (by omega)
  have j3 := nat_join 24 (x3 * 16777216) (x0 + 256 * x1 + 65536 * x2) (by omega) (by omega)
  have s1 : x0 ||| x1 * 256 = x0 + 256 * x1 := by rw [Nat.or_comm, j1]; omega
  have s2 : (x0 + 256 * x1) ||| x2 * 65536 = x0 + 256 * x1 + 65536 * x2 := by rw [Nat.or_comm, j2]; omega
  have s3 : (x0 + 256 * x1 + 65536 * x2) ||| x3 * 16777216 = x0 + 256 * x1 + 65536 * x2 + 16777216 * x3 := by rw [Nat.or_comm, j3]; omega
  rw [s1] at e1
  rw [s2] at e2
  rw [s3] at e3
  have c1 : ((x1 * 256 : Nat) : Int) = (x1 : Int) * 256 := by simp
  have c2 : ((x2 * 65536 : Nat) : Int) = (x2 : Int) * 65536 := by simp
  have c3 : ((x3 * 16777216 : Nat) : Int) = (x3 : Int) * 16777216 := by simp
  rw [c1] at e1
  rw [c2] at e2
  rw [c3] at e3
  rw [e1, e2, e3]

theorem cut_none {a : Option Addr} {k cap : Nat} (hn : a = none → cap = 0) (h : cut a k cap = none) : cap - k = 0 := by
  unfold cut at h
  split at h
  · omega
  · cases a with
    | none => have := hn rfl; omega
    | some x => simp at h
theorem cut_block {a : Option Addr} {k cap : Nat} {x : Addr} (h : cut a k cap = some x) : ∃ y, a = some y ∧ x.block = y.block := by
  unfold cut at h
  split at h
  · exact ⟨x, h, rfl⟩
  · cases a with
    | none => simp at h
    | some y =>
      simp only [Option.map_some, Option.some.injEq] at h
      subst h
      refine ⟨y, rfl, ?_⟩
      unfold Addr.add
      split <;> rfl

section
variable {a : Option Addr} {cap b : Nat} {t : List Nat} {s : Rst}

theorem touch_below {S : Nat → Prop} {w w1 w2 : World} (t1 : Touch S w w1) (hb : Below w1.heap.size w1 w2) : Touch S w w2 := t1.trans (Touch.of_below hb)

theorem rL_N (t : List Nat) (s : Rst) : rL t s = rNs t (rC t s).1 (rC t s).2 [] := by
  rw [rL_C]
  by_cases h : (rC t s).2.er = 0
  · rw [if_pos h]
  · rw [if_neg h, rC_zero h]; rfl

set_option maxRecDepth 100000 in
theorem rints_any (w : World) (h : RdAt 87 w b a cap t s) :
    Calls Try.prog 38 #[.pointer (some ⟨b, 0, none⟩)] w fun e w' => ∃ v, e = .returned v ∧ IRow w' v (rL t s).1 ∧ New w v ∧ RdAt 87 w' b a cap t (rL t s).2 ∧ Touch (· = b) w w' := by
  have K := hide (count_any w h)
  have hB := rL_N t s
  have hle := rC_le t s
  have HB : Hid (b < w.heap.size) := h.lt
  have HA : Hid (∀ x, a = some x → 0 < t.length → x.block < w.heap.size) := fun x hx h0 => by
    obtain ⟨b', off', e1, e2, _⟩ := h.text.cell h0
    rw [hx] at e1; cases e1; exact e2
  clear h
  generalize rC t s = q at *
  obtain ⟨N, q0⟩ := q
  rw [hB]
  clear hB
  generalize hR : rNs t N q0 [] = R at *
  have ER := hide hR
  clear hR
  go_enter Try.func38, Try.ntmps38
  go_wp2_with fail
  refine (unhide K).mono ?_
  rintro e w1 ⟨rfl, h1, t1⟩
  have T1 := hide t1
  have H1 := hide h1
  clear K h1 t1
  go_wp2_with fail
  go_loopw [3, 7] (fun l i wr => ∃ (k : Nat) (acc : List Int) (q : Rst) (vl : Value), vl = l ∧ k ≤ N ∧ i = .int .i64 k ∧ acc.length ≤ k ∧ IRow wr vl acc ∧ New w vl ∧ RdAt 87 wr b a cap t q ∧ Touch (· = b) w wr ∧ rNs t (N - k) q acc = R) (fun _ i _ => N - (intOf i).toNat)
  case atStart => exact ⟨0, [], q0, _, rfl, Nat.zero_le _, rfl, Nat.zero_le _, IRow.nil _, New.nil _, unhide H1, unhide T1, unhide ER⟩
  case round =>
    obtain ⟨k, acc, q, vl, rfl, hk, rfl, hacc, hi, hn, hr, ht, heq⟩ := hrel
    have HI := hide hi
    have HN := hide hn
    have HR := hide hr
    have HT := hide ht
    clear hi hn hr ht
    by_cases hc : k < N
    · have hc' : (k : Int) < (N : Int) := by omega
      obtain ⟨j, hj⟩ : ∃ j, N - k = j + 1 := ⟨N - k - 1, by omega⟩
      have hj2 : N - (k + 1) = j := by omega
      rw [hj, rNs] at heq
      go_wp2_with fail
      refine (rint_any _ (unhide HR)).mono ?_
      rintro e w2 ⟨rfl, h2, t2⟩
      have R2 := hide h2
      have T2 := hide ((unhide HT).trans t2)
      have I2 := hide ((unhide HI).keep t2 (fun i hi e => by have := (unhide HN) i hi; have := (unhide HB) ; omega))
      clear h2 t2
      generalize rI t q = p at *
      obtain ⟨x, p⟩ := p
      by_cases he : p.er = 0
      · rw [if_pos he] at heq
        have EQ := hide heq
        clear heq
        go_wp2_with fail
        refine (stop_no _ (unhide R2) he).mono ?_
        rintro e w3 ⟨rfl, rfl⟩
        have hcl : (w3.alloc (.cells #[.int .i64 x] 3)).cell? ⟨w3.heap.size, 0, none⟩ = some (.int .i64 x) := by rw [cell_of (heap_new _ _)]; rfl
        have hbl : Below w3.heap.size w3 (w3.alloc (.cells #[.int .i64 x] 3)) := (Below.refl _ _).alloc (Nat.le_refl _) _
        have I3 := hide ((unhide I2).later hbl)
        have R3 := hide ((unhide R2).later hbl)
        have T3 := hide (touch_below (unhide T2) hbl)
        clear hbl
        have hsz : w3.heap.size ≤ (w3.alloc (.cells #[.int .i64 x] 3)).heap.size := by simp
        have HS := hide hsz
        clear hsz
        go_wp2_with (at_builtin; refine wpList_int _ rfl (.tmp 13) (.tmp 15) rfl _ acc rfl (unhide I3) w3.heap.size x rfl hcl (by omega) ?_)
        intro v' w4 r4 t4 m4
        have hbv : ∀ i, vl.ownBlock = some i → i ≠ b ∧ (0 < t.length → ∀ y, a = some y → y.block ≠ i) := by
          intro i hi
          have := unhide HN i hi
          exact ⟨by have := unhide HB; omega, fun h0 y hy e => by have := unhide HA y hy h0; omega⟩
        have F : Hid (IRow w4 v' (acc ++ [x]) ∧ New w v' ∧ RdAt 87 w4 b a cap t p ∧ Touch (· = b) w w4) := by
          refine ⟨r4, (unhide HN).moved m4 (Nat.le_trans (unhide T2).size (unhide HS)), (unhide R3).keep t4 (fun e => (hbv b e).1 rfl) (fun h0 y hy e => (hbv _ e).2 h0 y hy rfl), ?_⟩
          refine ⟨t4.os.trans (unhide T3).os, t4.tape.trans (unhide T3).tape, t4.output.trans (unhide T3).output, Nat.le_trans (unhide T3).size t4.size, fun i hi hs => ?_⟩
          rw [t4.block i (Nat.lt_of_lt_of_le hi (unhide T3).size) (fun e => by have := unhide HN i e; omega)]
          exact (unhide T3).block i hi hs
        have HV : Hid (∃ a' n' c', v' = .slice a' n' c') := by obtain ⟨a', c', e, _⟩ := IRow.parts r4; exact ⟨a', _, c', e⟩
        clear r4 t4 m4 hbv hcl
        obtain ⟨a', n', c', rfl⟩ := unhide HV
        go_wp2
        go_roundw
        case rel => exact ⟨k + 1, acc ++ [x], p, _, rfl, by omega, by go_num, by simp; omega, (unhide F).1, (unhide F).2.1, (unhide F).2.2.1, (unhide F).2.2.2, by rw [hj2]; exact unhide EQ⟩
        case measure => simp [intOf]; omega
      · rw [if_neg he] at heq
        have EQ := hide heq
        clear heq
        go_wp2_with fail
        refine (stop_yes _ (unhide R2) he).mono ?_
        rintro e w3 ⟨rfl, rfl⟩
        go_wp2
        go_returns
        rw [← unhide EQ]
        exact ⟨_, rfl, IRow.nil _, New.nil _, unhide R2, unhide T2⟩
    · obtain rfl : k = N := by omega
      have EQ : Hid ((acc, q) = R) := by have := heq; rw [Nat.sub_self] at this; exact this
      clear heq
      go_wp2
      go_returns
      rw [← unhide EQ]
      exact ⟨_, rfl, unhide HI, unhide HN, unhide HR, unhide HT⟩
end
end Go.Proofs.Ytfbnkeflgddcmaa
