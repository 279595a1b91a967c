/-
  Lists of ints: Compact, Grow of none, Concat of two, and what txn makes of them. Conditions: at most 2^47 bytes.
-/
import Derived.Test.YtbgccnnomgeniaaIl0
namespace Go.Proofs.Ytbgccnnomgeniaa
open Go.RowKit Go.Maps Go.Sort
set_option linter.unusedVariables false

theorem compact_len (l : List Int) : (Lib.compact l).length ≤ l.length := by
  unfold Lib.compact Lib.compactUpTo
  rw [List.length_map]
  exact Nat.le_trans (List.length_filter_le _ _) (by simp)
theorem compact_any {w : World} {a : Option Addr} {l : List Int} {cap : Nat} (h : IL w (.slice a l.length cap) l) :
    Calls Try.prog 59 #[.slice a l.length cap] w fun e w' => e = .returned (.slice a (Lib.compact l).length cap) ∧ IL w' (.slice a (Lib.compact l).length cap) (Lib.compact l) ∧ Touch (fun k => (Value.slice a l.length cap).ownBlock = some k) w w' := by
  obtain ⟨hlen, hcase⟩ := h
  rcases hcase with ⟨e0, e1⟩ | ⟨g, cap', cur, e, hbase, hb, h1, h2, h3, h4⟩
  · have hl : l = [] := by simpa [ints] using e1
    subst hl
    injection e0 with e2 e3 e4
    subst e2 e4
    have C := Any.slices_Compact_int_empty Try.lays220 none 0 w
    change Calls Try.prog 59 _ _ _ at C
    refine C.mono ?_
    rintro e w' ⟨rfl, rfl⟩
    have e5 : Lib.compact ([] : List Int) = [] := rfl
    rw [e5]
    exact ⟨rfl, IL.nil _, Touch.refl _ _⟩
  · rw [ints_len] at e
    injection e with e2 e3 e4
    subst e2 e4
    rw [ints_len] at h1 h4
    have hH : Sort.Holds (Value.int .i64) w g 0 l.toArray := holds_of_blockI hb (by rw [Nat.mul_one] at h4; exact h4)
    have C := Any.slices_Compact_int Try.lays220 g 0 cap l w hH (by unfold maxLen at h2; omega) h1
    change Calls Try.prog 59 _ _ _ at C
    refine C.mono ?_
    rintro e w' ⟨rfl, q, rfl⟩
    have hr := compact_len l
    generalize hf : Lib.compact l = r at *
    have heap := heap_sortedI (w := w) (g := g) (n := q) (os := #[]) (r ++ List.replicate (l.length - r.length) 0).toArray hb
    rw [grow_empty] at heap
    refine ⟨rfl, ⟨by simp [ints], .inr ⟨g, cap, _, by rw [ints_len], Nat.zero_le _, heap, by rw [ints_len]; omega, h2, by simp [putCells, h3], ?_⟩⟩, ?_⟩
    · have t := take_putCellsI cur (r ++ List.replicate (l.length - r.length) 0) (by simp; omega)
      rw [ints_len, Nat.mul_one]
      have t2 := congrArg (List.take r.length) t
      rw [List.take_take, Nat.min_eq_left (by simp)] at t2
      rw [t2, ← List.map_take, List.take_left]
      rfl
    · have g1 := grownBy_sortedI (w := w) (g := g) (n := q) (os := #[]) (r ++ List.replicate (l.length - r.length) 0).toArray
      rw [grow_empty] at g1
      exact ⟨g1.os, g1.tape, g1.output, g1.size, fun k hk hs => g1.block k hk (fun e => hs (by simpa [Value.ownBlock] using e.symm))⟩

/-- append(nil, make([]int, n)...). -/
theorem run_append_make (w : World) (ty : TypeId) (n : Nat) (h0 : 0 < n) (h48 : n * 8 ≤ 140737488355328) :
    (Builtin.append_ #[23, 3] ty #[.slice none 0 0, .int .i64 (n : Int)]).run Try.prog w =
      .ok (.slice (some ⟨w.heap.size, 0, none⟩) n (grownCap w n 0 3)) (w.drew.alloc (.cells (Builtin.zeroCells (Value.int .i64 0).cells n ++ Builtin.zeroCells (Value.int .i64 0).cells (grownCap w n 0 3 - n)) 3)) := by
  obtain ⟨i, hi, hz, hsz, hby⟩ := intinfo13
  have hw : IntKind.i64.wrap (n : Int) = (n : Int) := wrap_low (by omega) (by omega)
  have hn : n ≠ 0 := by omega
  have h63' : ¬ (9223372036854775807 < (n : Int)) := by omega
  have h48' : ¬ (281474976710656 < Builtin.nextslicecap n 0 * 8) := by rw [nextslicecap_zero h0]; omega
  have h49 : ¬ (281474976710656 < (n : Int) * 8) := by omega
  have h50 : ¬ ((n : Int) < 0) := by omega
  have h51 : ¬ ((n : Int) ≤ 0) := by omega
  have h52 : ¬ (9223372036854775807 < max (n : Int) 0) := by omega
  simp [Builtin.append_, run_underlying Try.underlying23, run_underlying Try.underlying3, sizeOf, typeInfo, zeroValue, hi, hz, hsz, hby, hw, hn, h63', h48', h49, Question.forced, run_firstCells_none, newRow, grownCap, asInt, asIntOf, runtimePanic, h50]
theorem wpList_mk (w : World) {ops : Array Oper} {rest : List Oper} {o : Oper} {a : Act} {Q : Exit → Act → World → Prop}
    (hg : o.guard = none) (s x : Operand) (hop : o.op = Op.call { callee := Callee.builtin Builtin.append, args := #[s, x], argTypes := #[23, 3] })
    (n : Nat) (hs : a.eval s = .slice none 0 0) (hx : a.eval x = .int .i64 (n : Int)) (v : Value) (W : World) (hrun : ∀ ty, (Builtin.append_ #[23, 3] ty #[.slice none 0 0, .int .i64 (n : Int)]).run Try.prog w = .ok v W)
    (hK : wpList Try.prog ops Q rest (a.put o.dst v) W) : wpList Try.prog ops Q (o :: rest) a w := by
  refine wpList_plain hg fun K hK' => ?_
  unfold Oper.wp
  simp [execOp, hop, resolve, invoke, builtin, hs, hx, hrun, Result.andThen]
  exact hK' _ _ hK
theorem grow_nil {w : World} {n : Nat} (h48 : n * 8 ≤ 140737488355328) :
    Calls Try.prog 61 #[.slice none 0 0, .int .i64 (n : Int)] w fun e w' => ∃ v, e = .returned v ∧ IL w' v [] ∧ New w v ∧ Below w.heap.size w w' := by
  by_cases h0 : n = 0
  · subst h0
    go_enter Try.func61, Try.ntmps61
    go_wp2
    go_ret
    exact ⟨_, rfl, IL.nil _, New.nil _, Below.refl _ _⟩
  · have h1 : (0 : Int) < (n : Int) := by omega
    have h2 : ¬ (n : Int) < 0 := by omega
    have hw : wrap64 (n : Int) = (n : Int) := wrap64_low (by omega) (by omega)
    have hrun := fun ty => run_append_make w ty n (by omega) h48
    have hge := grownCap_ge w n 0 3
    have hcm : grownCap w n 0 3 ≤ maxLen := grownCap_le_maxLen w n 0 3 (by unfold maxLen; omega)
    have F : Hid (IL (w.drew.alloc (.cells (Builtin.zeroCells (Value.int .i64 0).cells n ++ Builtin.zeroCells (Value.int .i64 0).cells (grownCap w n 0 3 - n)) 3)) (.slice (some ⟨w.heap.size, 0, none⟩) 0 (grownCap w n 0 3)) []) := by
      refine ⟨rfl, .inr ⟨w.heap.size, _, _, rfl, Nat.zero_le _, heap_new w.drew _, Nat.zero_le _, hcm, ?_, rfl⟩⟩
      simp only [Array.size_append, size_zeroCells]
      simp [Value.cells]
      omega
    have B : Hid (Below w.heap.size w (w.drew.alloc (.cells (Builtin.zeroCells (Value.int .i64 0).cells n ++ Builtin.zeroCells (Value.int .i64 0).cells (grownCap w n 0 3 - n)) 3))) := Below.alloc (Below.drew (Below.refl _ _)) (Nat.le_refl _) _
    generalize w.drew.alloc (.cells (Builtin.zeroCells (Value.int .i64 0).cells n ++ Builtin.zeroCells (Value.int .i64 0).cells (grownCap w n 0 3 - n)) 3) = W at *
    generalize grownCap w n 0 3 = c at *
    have hc0 : (0 : Int) ≤ (c : Int) := by omega
    go_enter Try.func61, Try.ntmps61
    have HR := hide hrun
    clear hrun
    go_wp2_with (at_builtin; refine wpList_mk _ rfl (.tmp 20) (.tmp 21) rfl n rfl rfl _ _ (unhide HR) ?_)
    go_wp2
    go_ret
    exact ⟨_, rfl, unhide F, fun k hk => by simp [Value.ownBlock] at hk; omega, unhide B⟩
/-- slices.Concat of two lists. -/
def sumL (k n1 n2 : Nat) : Nat := if k = 0 then 0 else if k = 1 then n1 else n1 + n2
def catL (k : Nat) (l1 l2 : List Int) : List Int := if k = 0 then [] else if k = 1 then l1 else l1 ++ l2
theorem IAt.blk {w : World} {a : Option Addr} {l : List Int} {b : Nat} (h : IAt w a l) (hb : w.heap.size ≤ b) : 0 < l.length → ∀ x, a = some x → x.block ≠ b := by
  intro hl x hx e
  obtain ⟨g, off, e1, e2, _⟩ := h 0 hl
  rw [hx] at e1
  cases e1
  simp at e
  omega
set_option maxHeartbeats 2000000 in
theorem concat2_any {w : World} {b : Nat} {a1 a2 : Option Addr} {l1 l2 : List Int} {c1 c2 : Nat} {t : TypeId} (hb : w.heap[b]? = some (.cells #[.slice a1 l1.length c1, .slice a2 l2.length c2] t)) (h1 : IAt w a1 l1) (h2 : IAt w a2 l2) (n1 : a1 = none → c1 = 0) (n2 : a2 = none → c2 = 0) (hl : l1.length + l2.length ≤ 17592186044416) :
    Calls Try.prog 57 #[.slice (some ⟨b, 0, none⟩) 2 2] w fun e w' => ∃ v, e = .returned v ∧ IL w' v (l1 ++ l2) ∧ New w v ∧ Below w.heap.size w w' := by
  have x0 : w.cell? ⟨b, 0, none⟩ = some (.slice a1 l1.length c1) := cell_of hb 0
  have x1 : w.cell? ⟨b, 1, none⟩ = some (.slice a2 l2.length c2) := cell_of hb 1
  have hbl := lt_of_heap hb
  have HB := hide hb
  have H1 := hide h1
  have H2 := hide h2
  have N1 := hide n1
  have N2 := hide n2
  have HL := hide hl
  generalize hm1 : l1.length = m1 at *
  generalize hm2 : l2.length = m2 at *
  have M1 := hide hm1
  have M2 := hide hm2
  clear h1 h2 n1 n2 hm1 hm2 hb
  have KG := hide (grow_nil (w := w) (n := m1 + m2) (by omega))
  have hq : m1 + m2 ≤ 17592186044416 := hl
  clear hl
  go_enter Try.func57, Try.ntmps57
  go_wp2_with fail
  go_loopw [3, 11] (fun s3 s11 wr => ∃ k : Nat, k ≤ 2 ∧ s11 = .int .i64 k ∧ s3 = .int .i64 (sumL k m1 m2 : Nat) ∧ wr = w) (fun _ s11 _ => 2 - (intOf s11).toNat)
  case atStart => exact ⟨0, by omega, rfl, rfl, rfl⟩
  case round =>
    obtain ⟨k, hk, rfl, rfl, hww⟩ := hrel
    obtain rfl : w = wr := hww.symm
    clear hww
    have hk3 : k = 0 ∨ k = 1 ∨ k = 2 := by omega
    rcases hk3 with rfl | rfl | rfl
    · have e0 : sumL 0 m1 m2 = 0 := rfl
      have w1 : wrap64 (m1 : Int) = (m1 : Int) := wrap64_low (by omega) (by omega)
      have w2 : ¬ (m1 : Int) < 0 := by omega
      rw [e0]
      go_wp2
      go_roundw
      case rel => exact ⟨1, by omega, by go_num, rfl, by trivial⟩
      case measure => simp [intOf]
    · have e0 : sumL 1 m1 m2 = m1 := rfl
      have w1 : wrap64 ((m1 : Int) + (m2 : Int)) = (m1 : Int) + (m2 : Int) := wrap64_low (by omega) (by omega)
      have w2 : ¬ (m1 : Int) + (m2 : Int) < 0 := by omega
      rw [e0]
      go_wp2
      go_roundw
      case rel => exact ⟨2, by omega, by go_num, by simp [sumL], by trivial⟩
      case measure => simp [intOf]
    · have e0 : ((sumL 2 m1 m2 : Nat) : Int) = ((m1 + m2 : Nat) : Int) := rfl
      rw [e0]
      have P1 : Hid (m1 ≤ 17592186044416) := by show _ ≤ _; omega
      have P2 : Hid (m2 + m1 ≤ 17592186044416) := by show _ ≤ _; omega
      generalize m1 + m2 = q at *
      go_wp2_with fail
      go_wp2_with (go_at_call 61; refine (unhide KG).mono ?_; rintro e w1 ⟨v, rfl, v1, v2, v3⟩)
      have V1 := hide v1
      have V2 := hide v2
      have V3 := hide v3
      have y0 := (v3.cell (p := ⟨b, 0, none⟩) hbl).trans x0
      have y1 := (v3.cell (p := ⟨b, 1, none⟩) hbl).trans x1
      obtain ⟨va, vc, ev, _⟩ := v1.iat
      clear v1 v2 v3 KG
      subst ev
      go_wp2_with fail
      go_loopw [6, 27] (fun s6 s27 wr => ∃ k : Nat, k ≤ 2 ∧ s27 = .int .i64 k ∧ Hid (IL wr s6 (catL k l1 l2)) ∧ Hid (New w s6) ∧ Hid (Below w.heap.size w wr)) (fun _ s27 _ => 2 - (intOf s27).toNat)
      case atStart => exact ⟨0, by omega, rfl, V1, V2, V3⟩
      case round =>
        obtain ⟨k, hk, rfl, HI, HN, HBW⟩ := hrel
        have z0 := ((unhide HBW).cell (p := ⟨b, 0, none⟩) hbl).trans x0
        have z1 := ((unhide HBW).cell (p := ⟨b, 1, none⟩) hbl).trans x1
        have hk3 : k = 0 ∨ k = 1 ∨ k = 2 := by omega
        obtain ⟨sa, sc, es, _⟩ := (unhide HI).iat
        generalize hz : (catL k l1 l2).length = zz at *
        clear hz
        subst es
        clear V1 V2 V3 y0 y1
        rcases hk3 with rfl | rfl | rfl
        · have HI2 : Hid (IL wr (.slice sa zz sc) []) := HI
          clear HI
          have I1 := hide ((unhide H1).later (unhide HBW))
          go_wp2_with (at_builtin; refine wpList_ints _ rfl (.tmp 31) (.tmp 32) rfl _ [] rfl (unhide HI2) a1 c1 l1 (by rw [unhide M1]; rfl) (unhide I1) (unhide N1) (by rw [unhide M1]; exact Nat.le_trans (by simp) (unhide P1)) ?_; intro v' w' o1 o2 o3; have O1 := hide o1; have O2 := hide o2; have O3 := hide o3; clear o1 o2 o3)
          go_roundw
          case rel =>
            (repeat apply Exists.intro)
            refine ⟨?R, ?E⟩
            case E => (repeat' (first | exact rfl | apply And.intro))
            case R => exact ⟨1, by omega, by go_num, O1, hide ((unhide HN).moved (unhide O3) (unhide HBW).size), hide ((unhide HN).below (unhide HBW) (unhide O2))⟩
          case measure => simp [intOf]
        · have HI2 : Hid (IL wr (.slice sa zz sc) l1) := HI
          clear HI
          have I1 := hide ((unhide H2).later (unhide HBW))
          go_wp2_with (at_builtin; refine wpList_ints _ rfl (.tmp 31) (.tmp 32) rfl _ l1 rfl (unhide HI2) a2 c2 l2 (by rw [unhide M2]; rfl) (unhide I1) (unhide N2) (by rw [unhide M1, unhide M2, Nat.add_comm]; exact unhide P2) ?_; intro v' w' o1 o2 o3; have O1 := hide o1; have O2 := hide o2; have O3 := hide o3; clear o1 o2 o3)
          go_roundw
          case rel =>
            (repeat apply Exists.intro)
            refine ⟨?R, ?E⟩
            case E => (repeat' (first | exact rfl | apply And.intro))
            case R => exact ⟨2, by omega, by go_num, O1, hide ((unhide HN).moved (unhide O3) (unhide HBW).size), hide ((unhide HN).below (unhide HBW) (unhide O2))⟩
          case measure => simp [intOf]
        · have HI2 : Hid (IL wr (.slice sa zz sc) (l1 ++ l2)) := HI
          clear HI
          go_wp2
          go_ret
          exact ⟨_, rfl, unhide HI2, unhide HN, unhide HBW⟩
/-- The partitions of both lists, rising, each once. -/
def uni (l1 l2 : List Int) : List Int := Lib.compact (srt (l1 ++ l2))
set_option maxHeartbeats 1000000 in
theorem united_any {w : World} {a1 a2 : Option Addr} {l1 l2 : List Int} {c1 c2 : Nat} (h1 : IAt w a1 l1) (h2 : IAt w a2 l2) (n1 : a1 = none → c1 = 0) (n2 : a2 = none → c2 = 0) (hl : l1.length + l2.length ≤ 17592186044416) :
    Calls Try.prog 47 #[.slice a1 l1.length c1, .slice a2 l2.length c2] w fun e w' => ∃ v, e = .returned v ∧ IL w' v (uni l1 l2) ∧ New w v ∧ Below w.heap.size w w' := by
  have b0 : Below w.heap.size w (w.alloc (.cells #[.slice a1 l1.length c1, .slice a2 l2.length c2] 23)) := (Below.refl _ _).alloc (Nat.le_refl _) _
  have K := hide (concat2_any (heap_new w (.cells #[.slice a1 l1.length c1, .slice a2 l2.length c2] 23)) (h1.later b0) (h2.later b0) n1 n2 hl)
  have B0 := hide b0
  clear b0 h1 h2 n1 n2
  have hle : (l1 ++ l2).length ≤ 17592186044416 := by rw [List.length_append]; exact hl
  have HLE := hide hle
  clear hle hl
  have hU : uni l1 l2 = Lib.compact (srt (l1 ++ l2)) := rfl
  have HU := hide hU
  clear hU
  generalize l1.length = m1 at *
  generalize l2.length = m2 at *
  generalize l1 ++ l2 = l at *
  generalize uni l1 l2 = u at *
  go_enter Try.func47, Try.ntmps47
  go_wp2_with (go_at_call 57; refine (unhide K).mono ?_; rintro e w1 ⟨v, rfl, v1, v2, v3⟩)
  have V1 := hide v1
  have V2 : Hid (New w v) := v2.mono (by simp)
  have V3 : Hid (Below w.heap.size w w1) := (unhide B0).trans (v3.mono (by simp))
  obtain ⟨sa, sc, es, _⟩ := v1.iat
  have hls := unhide HLE
  have K2 := hide (sort_any v1 (by omega))
  clear v1 v2 v3 K B0 hls
  generalize hn : l.length = n at *
  have HN := hide hn
  clear hn
  subst es
  go_wp2_with (go_at_call 58; refine (unhide K2).mono ?_; rintro e w2 ⟨rfl, t1, t2⟩)
  have T1 : Hid (IL w2 (.slice sa (srt l).length sc) (srt l)) := by
    have : (srt l).length = n := by unfold srt; rw [List.length_mergeSort]; exact unhide HN
    rw [this]; exact t1
  have T2 : Hid (Below w.heap.size w w2) := (unhide V2).below (unhide V3) t2
  have K3 : Hid (Calls Try.prog 59 #[.slice sa n sc] w2 fun e w' => e = .returned (.slice sa u.length sc) ∧ IL w' (.slice sa u.length sc) u ∧ Touch (fun k => (Value.slice sa n sc).ownBlock = some k) w2 w') := by
    have := compact_any (unhide T1)
    have hs : (srt l).length = n := by unfold srt; rw [List.length_mergeSort]; exact unhide HN
    rw [hs] at this
    rw [unhide HU]
    exact this
  clear t1 t2 K2 V1
  generalize u.length = un at *
  go_wp2_with (go_at_call 59; refine (unhide K3).mono ?_; rintro e w3 ⟨rfl, r1, r2⟩)
  have R1 := hide r1
  have R2 : Hid (Below w.heap.size w w3) := (unhide V2).below (unhide T2) r2
  have R3 : Hid (New w (.slice sa un sc)) := fun k hk => unhide V2 k (by cases sa with | none => cases hk | some x => exact hk)
  clear r1 r2 K3
  go_wp2
  go_ret
  exact ⟨_, rfl, unhide R1, unhide R3, unhide R2⟩
end Go.Proofs.Ytbgccnnomgeniaa
