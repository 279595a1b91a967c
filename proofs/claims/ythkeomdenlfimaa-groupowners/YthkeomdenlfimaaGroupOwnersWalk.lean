/-
  GroupOwners at every list of members and number: true. Conditions: none but the reading's.
-/
import Derived.Test.YthkeomdenlfimaaGr1
import Derived.Laws.OwnMore
import Derived.Laws.MakeOwn
namespace Go.Proofs.Ythkeomdenlfimaa
open Go.RowKit Go.Maps
set_option linter.unusedVariables false

/-- How many of the first k partitions fall to the member at place j. -/
def cnt (k L j : Nat) : Nat := ((List.range k).filter (fun i => i % L == j)).length
def cntL (k L : Nat) : List Int := (List.range L).map (fun j => (cnt k L j : Int))
theorem cntL_len (k L : Nat) : (cntL k L).length = L := by simp [cntL]
theorem cntL_zero (L : Nat) : cntL 0 L = List.replicate L 0 := by
  apply List.ext_getElem
  · simp [cntL]
  · intro i h1 h2
    simp [cntL, cnt]
theorem cnt_succ (k L j : Nat) : cnt (k + 1) L j = cnt k L j + (if k % L = j then 1 else 0) := by
  unfold cnt
  rw [List.range_succ, List.filter_append, List.length_append]
  congr 1
  by_cases h : k % L = j
  · simp [h]
  · simp [h]
theorem cntL_at {k L j : Nat} (hj : j < L) : (cntL k L).getD j 0 = (cnt k L j : Int) := by
  simp [cntL, List.getD, hj]
theorem cntL_succ {k L : Nat} (h0 : 0 < L) : cntL (k + 1) L = (cntL k L).set (k % L) ((cnt k L (k % L) : Int) + 1) := by
  apply List.ext_getElem
  · simp [cntL]
  · intro i h1 h2
    have hi : i < L := by simpa [cntL] using h1
    rw [List.getElem_set]
    by_cases e : k % L = i
    · rw [if_pos e]
      simp only [cntL, List.getElem_map, List.getElem_range, cnt_succ, e, if_true]
      omega
    · rw [if_neg e]
      simp only [cntL, List.getElem_map, List.getElem_range, cnt_succ, e, if_false]
      omega
theorem cnt_le (k L j : Nat) : cnt k L j ≤ k := by
  unfold cnt
  exact Nat.le_trans (List.length_filter_le _ _) (by simp)
theorem cnt_is (L : Nat) (h0 : 0 < L) : ∀ n, ∃ q r, n = q * L + r ∧ r < L ∧ ∀ j, j < L → cnt n L j = q + (if j < r then 1 else 0)
  | 0 => ⟨0, 0, by simp, h0, fun j _ => by simp [cnt]⟩
  | n + 1 => by
    obtain ⟨q, r, h1, h2, h3⟩ := cnt_is L h0 n
    have hm : n % L = r := by rw [h1, Nat.mul_comm, Nat.mul_add_mod, Nat.mod_eq_of_lt h2]
    by_cases hr : r + 1 < L
    · refine ⟨q, r + 1, by omega, hr, fun j hj => ?_⟩
      rw [cnt_succ, h3 j hj, hm]
      by_cases e : r = j
      · subst e; simp
      · rw [if_neg e]
        by_cases e2 : j < r
        · rw [if_pos e2, if_pos (by omega)]
        · rw [if_neg e2, if_neg (by omega)]
    · refine ⟨q + 1, 0, ?_, h0, fun j hj => ?_⟩
      · rw [Nat.add_mul, Nat.one_mul]; omega
      · rw [cnt_succ, h3 j hj, hm]
        by_cases e : r = j
        · subst e; simp
        · rw [if_neg e, if_pos (by omega), if_neg (by omega)]
theorem cnt_bound {n L j : Nat} (h0 : 0 < L) (hj : j < L) : n / L ≤ cnt n L j ∧ cnt n L j ≤ n / L + 1 := by
  obtain ⟨q, r, h1, h2, h3⟩ := cnt_is L h0 n
  have hq : n / L = q := by rw [h1, Nat.mul_comm, Nat.mul_add_div h0, Nat.div_eq_of_lt h2, Nat.add_zero]
  rw [hq, h3 j hj]
  split <;> omega
theorem IL.set {w : World} {g n cap : Nat} {l : List Int} (h : IL w (.slice (some ⟨g, 0, none⟩) n cap) l) (i : Nat) (x : Int) : IL (w.setCell ⟨g, i, none⟩ (.int .i64 x)) (.slice (some ⟨g, 0, none⟩) n cap) (l.set i x) := by
  obtain ⟨a, c, e, _⟩ := h.iat
  injection e with _ e2 _
  have h' : Wide w 3 1 (.slice (some ⟨g, 0, none⟩) n cap) n (ints l) := by
    have := h
    unfold IL Own at this
    rw [ints_len, ← e2] at this
    exact this
  have h2 := h'.set i (.int .i64 x)
  unfold IL Own
  have e3 : ints (l.set i x) = (ints l).set i (.int .i64 x) := by simp [ints, List.map_set]
  rw [e3, List.length_set, ints_len, ← e2]
  exact h2
theorem run_mk {n : Nat} (h : n * 8 ≤ 281474976710656) (W : World) : (Instr.makeSlice 22 (.int .i64 (n : Int)) (.int .i64 (n : Int))).run Try.prog W = .ok (.slice (some ⟨W.heap.size, 0, none⟩) n n) (W.alloc (.cells (madeCells #[.int .i64 0] n) 3)) := by
  obtain ⟨i, hi, hz, hsz, hby⟩ := intinfo13
  have := run_make (P := Try.prog) W 22 3 i (.int .i64 0) Try.underlying22 hi hz .i64 .i64 n n (by omega) (Int.le_refl _) (by rw [hby]; omega) (by omega)
  rw [hsz, Int.toNat_natCast, Nat.mul_one] at this
  exact this
theorem il_made (W : World) {n : Nat} (hn : n ≤ maxLen) : IL (W.alloc (.cells (madeCells #[.int .i64 0] n) 3)) (.slice (some ⟨W.heap.size, 0, none⟩) n n) (List.replicate n 0) := by
  refine ⟨by simp, .inr ⟨W.heap.size, n, _, by simp [ints], Nat.zero_le _, heap_new _ _, by simp [ints], hn, by rw [size_madeCells, Nat.mul_one], ?_⟩⟩
  rw [toList_madeCells_one]
  simp [ints]
theorem tdiv_nat (k n : Nat) : ((k : Int)).tdiv (n : Int) = ((k / n : Nat) : Int) := by
  rw [Int.tdiv_eq_ediv_of_nonneg (by omega)]; simp
theorem meas {n k : Nat} (h : k < n) (e : wrap64 ((k : Int) + 1) = (k : Int) + 1) : n - (intOf (.int .i64 (wrap64 ((k : Int) + 1)))).toNat < n - (intOf (.int .i64 (k : Int))).toNat := by
  rw [e]
  show n - ((k : Int) + 1).toNat < n - ((k : Int)).toNat
  omega
theorem go_facts {w wr : World} {ls : List Int} {a : Option Addr} {cap cb L k : Nat} (hi : IAt w a ls) (hL : ls.length = L) (h0 : ¬ L = 0) (hl : L * 8 ≤ 140737488351232) (il : IL wr (.slice (some ⟨cb, 0, none⟩) L L) (cntL k L)) (br : Below w.heap.size w wr) (hcb : w.heap.size ≤ cb) (hk : k < 40) :
    ∃ (r q mb mo : Nat) (x : Int), a = some ⟨mb, mo, none⟩ ∧ Calls Try.prog 16 #[.slice a L cap, .int .i64 (k : Int)] wr (fun e w' => e = .returned (.int .i64 x) ∧ w' = wr) ∧ Calls Try.prog 17 #[.slice a L cap, .int .i64 (k : Int)] wr (fun e w' => e = .returned (.int .i64 x) ∧ w' = wr) ∧ wr.cell? ⟨cb, r, none⟩ = some (.int .i64 (q : Int)) ∧ wr.frozen? ⟨cb, r, none⟩ = false ∧ IL (wr.setCell ⟨cb, r, none⟩ (.int .i64 ((q : Int) + 1))) (.slice (some ⟨cb, 0, none⟩) L L) (cntL (k + 1) L) ∧ Below w.heap.size w (wr.setCell ⟨cb, r, none⟩ (.int .i64 ((q : Int) + 1))) ∧ ((k : Int)).tmod (L : Int) = (r : Int) ∧ (∀ v, (wr.setCell ⟨cb, r, none⟩ v).cell? ⟨mb, mo + r, none⟩ = some (.int .i64 x)) ∧ wrap64 ((q : Int) + 1) = (q : Int) + 1 ∧ IntKind.i64.wrap ((q : Int) + 1) = (q : Int) + 1 ∧ (0 : Int) ≤ (r : Int) ∧ (r : Int) < (L : Int) := by
  have im := hi.later br
  have hL0 : 0 < ls.length := by omega
  have K1 := owner_some (c := cap) im hL0 (by omega) k
  have K2 := rowner_some (c := cap) im hL0 (by omega) k
  obtain ⟨mb, mo, hma, _, hmc⟩ := im (k % ls.length) (Nat.mod_lt _ hL0)
  rw [hL] at K1 K2 hmc
  have hrl : k % L < L := Nat.mod_lt _ (by omega)
  obtain ⟨ca, cc, ce, cI, _⟩ := il.iat
  injection ce with ce1 _ _
  obtain ⟨cb2, co2, hce, _, hcc⟩ := cI (k % L) (by rw [cntL_len]; exact hrl)
  rw [← ce1] at hce
  cases hce
  rw [cntL_at hrl, Nat.zero_add] at hcc
  obtain ⟨zs, hzs⟩ : ∃ cs, wr.heap[cb]? = some (.cells cs 3) := il.heap rfl
  have hcle := cnt_le k L (k % L)
  refine ⟨k % L, cnt k L (k % L), mb, mo, ls.getD (k % L) 0, hma, K1, K2, hcc, frozen_of hzs _, ?_, ?_, tmod_nat k L, ?_, wrap64_low (by omega) (by omega), wrap_low (by omega) (by omega), by omega, by omega⟩
  · rw [cntL_succ (by omega)]
    exact il.set (k % L) _
  · exact below_touch br (touch_set wr cb (k % L) _) br.size (fun j hj => by omega)
  · intro v
    have hmb : mb < w.heap.size := by
      obtain ⟨b9, o9, e9, l9, _⟩ := hi (k % ls.length) (Nat.mod_lt _ hL0)
      rw [hma] at e9; cases e9; exact l9
    rw [← hmc]
    exact World.cell?_of_block ((touch_set wr cb (k % L) v).block mb (Nat.lt_of_lt_of_le hmb br.size) (by omega))
/-- What the second loop reads at place j. -/
theorem go_facts2 {wr : World} {cb L k j : Nat} (il : IL wr (.slice (some ⟨cb, 0, none⟩) L L) (cntL k L)) (hj : j < L) (hk : k < 40) :
    ∃ (q d e f : Int), wr.cell? ⟨cb, j, none⟩ = some (.int .i64 q) ∧ ((k : Int)).tdiv (L : Int) = d ∧ wrap64 d = e ∧ ¬ q < e ∧ wrap64 (e + 1) = f ∧ ¬ f < q ∧ (j : Int) < (L : Int) ∧ ((L : Int) == 0) = false := by
  obtain ⟨ca, cc, ce, cI, _⟩ := il.iat
  injection ce with ce1 _ _
  obtain ⟨cb2, co2, hce, _, hcc⟩ := cI j (by rw [cntL_len]; exact hj)
  rw [← ce1] at hce
  cases hce
  rw [cntL_at hj, Nat.zero_add] at hcc
  have hb := cnt_bound (n := k) (by omega : 0 < L) hj
  have hd : k / L ≤ k := Nat.div_le_self _ _
  have ht := tdiv_nat k L
  generalize k / L = d0 at *
  generalize cnt k L j = q0 at *
  exact ⟨(q0 : Int), (d0 : Int), (d0 : Int), (d0 : Int) + 1, hcc, ht, wrap64_low (by omega) (by omega), by omega, wrap64_low (by omega) (by omega), by omega, by omega, by simp; omega⟩
set_option maxRecDepth 100000 in
set_option maxHeartbeats 4000000 in
theorem groupOwners_walk {ls : List Int} {a : Option Addr} {cap : Nat} (p : Int) (w : World) (hp0 : 0 ≤ p) (hp1 : p < 256) (h : IAt w a ls) (hl : ls.length * 8 ≤ 140737488351232) :
    Calls Try.prog 4 #[.slice a ls.length cap, .int .u8 p] w fun e w' => e = .returned (.bool true) ∧ Below w.heap.size w w' := by
  have HI := hide h
  obtain ⟨L, hL⟩ : ∃ y, ls.length = y := ⟨_, rfl⟩
  rw [hL] at hl ⊢
  have HL := hide hL
  have Hl := hide hl
  clear h hL
  have KW := hide (gawake_any w)
  obtain ⟨nn, hnn, hn40⟩ : ∃ nn : Nat, p.tmod 40 = (nn : Int) ∧ nn < 40 := ⟨(p % 40).toNat, by rw [Int.tmod_eq_emod_of_nonneg hp0]; omega, by omega⟩
  have HN := hide hn40
  have WN : Hid (wrap64 (nn : Int) = (nn : Int)) := wrap64_low (by omega) (by omega)
  have hmk := run_mk (n := L) (by omega)
  have hmx : Hid (L ≤ maxLen) := by show _ ≤ _; unfold maxLen; omega
  clear hp0 hp1 hl hn40
  go_enter Try.func4, Try.ntmps4
  go_wp2_with fail
  refine (unhide KW).mono ?_
  rintro e w1 ⟨rfl, b1⟩
  have I1 : Hid (IL (w1.alloc (.cells (madeCells #[.int .i64 0] L) 3)) (.slice (some ⟨w1.heap.size, 0, none⟩) L L) (cntL 0 L)) := by
    show IL _ _ _
    rw [cntL_zero]
    exact il_made w1 (unhide hmx)
  have B1 : Hid (Below w.heap.size w (w1.alloc (.cells (madeCells #[.int .i64 0] L) 3))) := b1.alloc b1.size _
  have hcb : Hid (w.heap.size ≤ w1.heap.size) := b1.size
  clear b1 KW hmx
  obtain ⟨cb, hcbe⟩ : ∃ y, w1.heap.size = y := ⟨_, rfl⟩
  rw [hcbe] at I1 hcb
  go_wp2_with fail
  generalize w1.alloc (.cells (madeCells #[.int .i64 0] L) 3) = V at *
  clear hcbe hmk
  go_loopw [7] (fun s7 wr => ∃ k : Nat, k ≤ nn ∧ s7 = .int .i64 (k : Int) ∧ IL wr (.slice (some ⟨cb, 0, none⟩) L L) (cntL k L) ∧ Below w.heap.size w wr) (fun s7 _ => nn - (intOf s7).toNat)
  case atStart => exact ⟨0, Nat.zero_le _, rfl, unhide I1, unhide B1⟩
  case round =>
    obtain ⟨k, hk, rfl, il, br⟩ := hrel
    clear I1 B1
    have IH := hide il
    have BR := hide br
    clear il br
    by_cases hlt : k < nn
    · have hltz : (k : Int) < wrap64 (nn : Int) := by rw [unhide WN]; omega
      have done : Hid (k + 1 ≤ nn) := hlt
      have WK : Hid (wrap64 ((k : Int) + 1) = (k : Int) + 1) := wrap64_low (by omega) (by have := unhide HN; omega)
      have MS := hide (meas hlt (unhide WK))
      have NX : Hid (Value.int .i64 (wrap64 ((k : Int) + 1)) = .int .i64 ((k + 1 : Nat) : Int)) := by show _ = _; rw [unhide WK]; simp
      by_cases h0 : L = 0
      · have K1 : Hid (Calls Try.prog 16 #[.slice a L cap, .int .i64 (k : Int)] wr fun e w' => e = .returned (.int .i64 (-1)) ∧ w' = wr) := by rw [h0]; exact owner_none wr a cap (k : Int)
        have K2 : Hid (Calls Try.prog 17 #[.slice a L cap, .int .i64 (k : Int)] wr fun e w' => e = .returned (.int .i64 (-1)) ∧ w' = wr) := by rw [h0]; exact rowner_none wr a cap k
        have hc0 : cntL (k + 1) L = cntL k L := by rw [h0]; rfl
        have IN : Hid (IL wr (.slice (some ⟨cb, 0, none⟩) L L) (cntL (k + 1) L)) := by rw [hc0]; exact IH
        have n1 : ((L : Int) == 0) = true := by simp [h0]
        have n2 : ¬ (0 : Int) < (L : Int) := by omega
        clear h0 hc0 IH HI HL hk hlt Hl HN hcb
        go_wp2_with fail
        refine (unhide K1).mono ?_
        rintro e w3 ⟨rfl, hw3⟩
        obtain rfl : wr = w3 := hw3.symm
        clear hw3
        go_wp2_with fail
        refine (unhide K2).mono ?_
        rintro e w4 ⟨rfl, hw4⟩
        obtain rfl : wr = w4 := hw4.symm
        clear hw4
        go_wp2
        go_roundw
        case rel => exact ⟨k + 1, unhide done, unhide NX, unhide IN, unhide BR⟩
        case measure => exact unhide MS
      · obtain ⟨r, q, mb, mo, x, hma, K1, K2, hcc, hfz, IN, BN, hm, hmc, wq, wq2, r0, r1⟩ := go_facts (cap := cap) (unhide HI) (unhide HL) h0 (unhide Hl) (unhide IH) (unhide BR) (unhide hcb) (Nat.lt_of_lt_of_le hlt (Nat.le_of_lt (unhide HN)))
        have K1H := hide K1
        have K2H := hide K2
        have IN := hide IN
        have BN := hide BN
        have n0 : ¬ (L : Int) = 0 := by omega
        have n1 : ((L : Int) == 0) = false := by simpa using n0
        have n2 : (0 : Int) < (L : Int) := by omega
        clear K1 K2 IH BR HI HL hk hlt Hl HN hcb h0
        subst hma
        go_wp2_with fail
        refine (unhide K1H).mono ?_
        rintro e w3 ⟨rfl, hw3⟩
        obtain rfl : wr = w3 := hw3.symm
        clear hw3
        go_wp2_with fail
        refine (unhide K2H).mono ?_
        rintro e w4 ⟨rfl, hw4⟩
        obtain rfl : wr = w4 := hw4.symm
        clear hw4
        go_wp2
        go_roundw
        case rel => exact ⟨k + 1, unhide done, unhide NX, unhide IN, unhide BN⟩
        case measure => exact unhide MS
    · obtain rfl : k = nn := by omega
      have hge : ¬ (k : Int) < wrap64 (k : Int) := by rw [unhide WN]; omega
      have KZ := hide (owner_none wr none 0 (wrap64 (k : Int)))
      obtain ⟨z, hz, hz0⟩ : ∃ z : Int, wrap64 (-1 - wrap64 (k : Int)) = z ∧ z < 0 := ⟨_, rfl, by rw [unhide WN]; have := unhide HN; unfold wrap64; omega⟩
      have KY := hide (owner_neg wr a L cap z hz0)
      have HLM : Hid (L * 8 ≤ 140737488351232) := Hl
      clear hk hlt HI HL Hl hcb hz0
      go_wp2_with fail
      go_loopw [64] (fun s64 wq => ∃ j : Nat, j ≤ L ∧ s64 = .int .i64 (j : Int) ∧ wq = wr) (fun s64 _ => L - (intOf s64).toNat)
      case atStart => exact ⟨0, Nat.zero_le _, rfl, rfl⟩
      case round =>
        obtain ⟨j, hj, rfl, hww⟩ := hrel
        obtain rfl := hww
        by_cases hjl : j < L
        · obtain ⟨q, d, e, f, c1, c2, c3, c4, c5, c6, c7, c8⟩ := go_facts2 (unhide IH) hjl (unhide HN)
          rw [← unhide WN] at c2
          have done : Hid (j + 1 ≤ L) := hjl
          have WJ : Hid (wrap64 ((j : Int) + 1) = (j : Int) + 1) := wrap64_low (by omega) (by have := unhide HLM; omega)
          have MS := hide (meas hjl (unhide WJ))
          have NX : Hid (Value.int .i64 (wrap64 ((j : Int) + 1)) = .int .i64 ((j + 1 : Nat) : Int)) := by show _ = _; rw [unhide WJ]; simp
          clear hjl hj hz KY KZ hge
          go_wp2
          go_roundw
          case rel => exact ⟨j + 1, unhide done, unhide NX, trivial⟩
          case measure => exact unhide MS
        · have hjg : ¬ (j : Int) < (L : Int) := by omega
          clear hjl hj
          go_wp2_with fail
          refine (unhide KY).mono ?_
          rintro e w5 ⟨rfl, rfl⟩
          go_wp2_with fail
          refine (unhide KZ).mono ?_
          rintro e w6 ⟨rfl, rfl⟩
          go_wp2
          go_ret
          exact ⟨rfl, unhide BR⟩
end Go.Proofs.Ythkeomdenlfimaa
