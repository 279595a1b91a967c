/-
  Lists of ints that are sorted, cut and appended to; the nodes on which a partition stands at first. Conditions: as each says.
-/
import Derived.Test.YtfakjcaolpmkeaaIg0
import Derived.Test.YtfakjcaolpmkeaaSg13
import Derived.Sort.OwnSortedInts
namespace Go.Proofs.Ytfakjcaolpmkeaa
open Go.RowKit Go.Maps Go.Sort
set_option linter.unusedVariables false

theorem wrap_low {i : Int} (h0 : 0 ≤ i) (h1 : i ≤ 9223372036854775807) : IntKind.i64.wrap i = i := by
  simp only [IntKind.wrap, IntKind.bits, IntKind.signed]
  simp
  omega
theorem wrap64_low {i : Int} (h0 : 0 ≤ i) (h1 : i ≤ 9223372036854775807) : wrap64 i = i := by
  unfold wrap64; omega

theorem intinfo13 : ∃ i, Try.prog.info? 3 = some i ∧ i.zero = some (.int .i64 0) ∧ i.size = 1 ∧ i.bytes = 8 := by
  have h : (Try.prog.info? 3).map (fun i => (i.zero, i.size, i.bytes)) = some (some (.int .i64 0), 1, 8) := by kernel_rfl
  exact info_parts h
theorem src_ints {w : World} {a : Option Addr} {l : List Int} (h : IAt w a l) : ∀ j u, (ints l)[j]? = some u → ∃ b off, a = some ⟨b, off, none⟩ ∧ w.cell? ⟨b, off + j, none⟩ = some u := by
  intro j u hj
  have hj' : j < l.length := by
    have := (List.getElem?_eq_some_iff.1 hj).1
    rwa [ints_len] at this
  obtain ⟨b, off, h1, _, h3⟩ := h j hj'
  refine ⟨b, off, h1, ?_⟩
  rw [h3, ← hj, ints_at hj']
theorem one_ints (l : List Int) : ∀ u ∈ ints l, u.oneCell' = true := by
  intro u hu
  obtain ⟨x, _, rfl⟩ := List.mem_map.1 hu
  rfl
theorem ints_app (a b : List Int) : ints a ++ ints b = ints (a ++ b) := by simp [ints]
/-- append(row, ints...). -/
theorem wpList_ints (w : World) {ops : Array Oper} {rest : List Oper} {o : Oper} {a : Act} {Q : Exit → Act → World → Prop}
    (hg : o.guard = none) (s x : Operand) (hop : o.op = Op.call { callee := Callee.builtin Builtin.append, args := #[s, x], argTypes := #[39, 39] })
    (v : Value) (l : List Int) (hs : a.eval s = v) (hr : IL w v l) (ao : Option Addr) (c : Nat) (l2 : List Int) (hx : a.eval x = .slice ao l2.length c) (hb : IAt w ao l2) (hnone : ao = none → c = 0) (hlen : l.length + l2.length ≤ 17592186044416)
    (hK : ∀ v' w', IL w' v' (l ++ l2) → Touch (fun k => v.ownBlock = some k) w w' → Moved w v v' → wpList Try.prog ops Q rest (a.put o.dst v') w') :
    wpList Try.prog ops Q (o :: rest) a w := by
  obtain ⟨i, hi, hz, hsz, hby⟩ := intinfo13
  refine wpList_app w hg s x 39 hop 3 i (.int .i64 0) 8 Try.underlying39 hi hz hsz hby rfl v (ints l) hs hr ao l2.length c (ints l2) hx (ints_len l2) (src_ints hb) (one_ints l2) hnone (by rw [ints_len]; unfold maxLen; omega) (by rw [ints_len]; omega) ?_
  intro v' w' h1 h2 h3
  exact hK v' w' (by unfold IL; rw [← ints_app]; exact h1) h2 h3

theorem sort_any {w : World} {v : Value} {l : List Int} (h : IL w v l) (h0 : l ≠ []) (hl : l.length ≤ 1099511627776) :
    Calls Try.prog 17 #[v] w fun e w' => e = .returned (.tuple #[]) ∧ IL w' v (l.mergeSort fun x y => decide (x ≤ y)) ∧ Touch (fun k => v.ownBlock = some k) w w' := by
  obtain ⟨hlen, hcase⟩ := h
  rcases hcase with ⟨_, e⟩ | ⟨g, cap, cur, rfl, hbase, hb, h1, h2, h3, h4⟩
  · exfalso; apply h0; simp [ints] at e; exact e
  · rw [ints_len] at h1 h4 ⊢
    have hH : Sort.Holds (Value.int .i64) w g 0 l.toArray := holds_of_blockI hb (by rw [Nat.mul_one] at h4; exact h4)
    have C := Any.slices_Sort_int Try.lays189 g 0 cap l w hH (Array.getElem?_eq_some_iff.1 hb).1 (by omega)
    change Calls Try.prog 17 _ _ _ at C
    refine C.mono ?_
    rintro e w' ⟨rfl, n, os, rfl⟩
    refine ⟨rfl, ?_, ?_⟩
    · have := ownsRow_sortedI (n := n) (os := os) (ss := l) (ts := l.mergeSort fun x y => decide (x ≤ y)) (by simp) hbase hb h1 h2 h3
      unfold IL Own
      rw [ints_len, List.length_mergeSort]
      exact this
    · have g1 := grownBy_sortedI (w := w) (g := g) (n := n) (os := os) (l.mergeSort fun x y => decide (x ≤ y)).toArray
      exact ⟨g1.os, g1.tape, g1.output, g1.size, fun k hk hs => g1.block k hk (fun e => hs (by simpa [Value.ownBlock] using e.symm))⟩

/-- fence$1: is it n? -/
theorem gives_fence (n x : Int) (B : Nat) (W : World) (hc : W.cell? ⟨B, 0, none⟩ = some (.int .i64 n)) :
    FnGives Try.prog 39 #[.pointer (some ⟨B, 0, none⟩)] #[.int .i64 x] (.bool (x == n)) W := by
  show Calls Try.prog 39 #[.int .i64 x, .pointer (some ⟨B, 0, none⟩)] W _
  go_enter Try.func39, Try.ntmps39
  go_wp2
  all_goals (go_ret; exact ⟨by simp_all, 0, rfl⟩)
theorem delete_any {w : World} {g cap B : Nat} {l : List Int} {n : Int} (h : IL w (.slice (some ⟨g, 0, none⟩) l.length cap) l) (hB : w.cell? ⟨B, 0, none⟩ = some (.int .i64 n)) (hne : B ≠ g) :
    Calls Try.prog 38 #[.slice (some ⟨g, 0, none⟩) l.length cap, .func (.func 39) #[] #[.pointer (some ⟨B, 0, none⟩)]] w
      fun e w' => e = .returned (.slice (some ⟨g, 0, none⟩) (l.filter (fun x => !(x == n))).length cap) ∧ IL w' (.slice (some ⟨g, 0, none⟩) (l.filter (fun x => !(x == n))).length cap) (l.filter (fun x => !(x == n))) ∧ Touch (· = g) w w' := by
  obtain ⟨hlen, hcase⟩ := h
  rcases hcase with ⟨e0, _⟩ | ⟨g', cap', cur, e, hbase, hb, h1, h2, h3, h4⟩
  · cases e0
  · rw [ints_len] at e
    cases e
    rw [ints_len] at h1 h4
    have hBl : B < w.heap.size := lt_of_cell hB
    have hH : Sort.Holds (Value.int .i64) w g 0 l.toArray := holds_of_blockI hb (by rw [Nat.mul_one] at h4; exact h4)
    have eg : ∀ args w, (callFunc 39 args).run Try.prog w = .ok (.enter 39 args) w := enters_of Try.func39 (by kernel_rfl) rfl
    have C := AnyE.slices_DeleteFunc Try.laysH10 (Value.int .i64) (fun _ => rfl) (fun x => x == n) 39 #[.pointer (some ⟨B, 0, none⟩)] eg 0 Try.zeroValue3 g 0 cap l.toArray w
      (fun W x hb' => gives_fence n x B W ((hb'.cell (p := ⟨B, 0, none⟩) hBl).trans hB))
      (fun m os dk x _ => gives_fence n x B _ (by
        unfold sortWorld
        rw [cell?_grow _ _ _ (by show B < (putRow _ _ _ _ _).heap.size; rw [size_putRow]; exact hBl), cell?_putRow_other _ _ g 0 _ _ (Or.inl hne)]
        exact hB)) hH (by simp; unfold maxLen at h2; omega) (by simpa using h1)
    change Calls Try.prog 38 _ _ _ at C
    simp only [List.size_toArray] at C
    refine C.mono ?_
    rintro e w' ⟨rfl, q, rfl⟩
    generalize hf : (l.filter fun x => !(x == n)) = r at *
    have hr : r.length ≤ l.length := by rw [← hf]; exact List.length_filter_le _ _
    have heap := heap_sortedI (w := w) (g := g) (n := q) (os := #[]) (r ++ List.replicate (l.length - r.length) 0).toArray hb
    rw [grow_empty] at heap
    refine ⟨rfl, ⟨by simp [ints], .inr ⟨g, cap, _, by rw [ints_len], Nat.zero_le _, heap, by rw [ints_len]; omega, h2, by simp [putCells, h3], ?_⟩⟩, ?_⟩
    · have t := take_putCellsI cur (r ++ List.replicate (l.length - r.length) 0) (by simp; omega)
      rw [ints_len, Nat.mul_one]
      have t2 := congrArg (List.take r.length) t
      rw [List.take_take, Nat.min_eq_left (by simp)] at t2
      rw [t2, ← List.map_take, List.take_left]
      rfl
    · have g1 := grownBy_sortedI (w := w) (g := g) (n := q) (os := #[]) (r ++ List.replicate (l.length - r.length) 0).toArray
      rw [grow_empty] at g1
      exact ⟨g1.os, g1.tape, g1.output, g1.size, fun k hk hs => g1.block k hk (fun e => hs (by cases e; rfl))⟩

theorem IAt.one (w : World) (x : Int) (t : TypeId) : IAt (w.alloc (.cells #[.int .i64 x] t)) (some ⟨w.heap.size, 0, none⟩) [x] := by
  intro i hi
  have : i = 0 := by simp at hi; exact hi
  subst this
  refine ⟨w.heap.size, 0, rfl, by simp, ?_⟩
  rw [cell_of (heap_new w _)]
  rfl
/-- The nodes from k on, counted round: sorted. -/
def rawA (k c n : Nat) : List Int := (List.range c).map (fun i : Nat => (((k : Int) + (i : Int)) % (n : Int)))
def arnd (k c n : Nat) : List Int := (rawA k c n).mergeSort fun x y => decide (x ≤ y)
theorem rawA_len (k c n : Nat) : (rawA k c n).length = c := by simp [rawA]
theorem rawA_succ (k c n : Nat) : rawA k (c + 1) n = rawA k c n ++ [(((k : Int) + (c : Int)) % (n : Int))] := by simp [rawA, List.range_succ]
theorem arnd_len (k c n : Nat) : (arnd k c n).length = c := by unfold arnd; rw [List.length_mergeSort, rawA_len]
theorem New.below {w0 w w' : World} {v : Value} (hn : New w0 v) (hb : Below w0.heap.size w0 w) (t : Touch (fun k => v.ownBlock = some k) w w') : Below w0.heap.size w0 w' :=
  below_touch hb t hb.size (fun k hk => hn k hk)
set_option maxHeartbeats 1000000 in
theorem around_any {w : World} {k c n : Nat} (hk : k ≤ 1000) (h1 : 1 ≤ c) (hc : c ≤ 1000) (hn : 1 ≤ n) (hn2 : n ≤ 1000) :
    Calls Try.prog 9 #[.int .i64 k, .int .i64 c, .int .i64 n] w fun e w' => ∃ v, e = .returned v ∧ IL w' v (arnd k c n) ∧ New w v ∧ Below w.heap.size w w' := by
  go_enter Try.func9, Try.ntmps9
  go_wp2
  go_loopg [7, 8, 10, 19, 20] c (fun gg s7 _ s10 _ _ wr => ∃ i : Nat, i ≤ c ∧ c - i ≤ gg ∧ s10 = .int .i64 i ∧ Hid (IL wr s7 (rawA k i n)) ∧ Hid (New w s7) ∧ Hid (Below w.heap.size w wr))
  case atStart => exact ⟨0, Nat.zero_le _, by omega, rfl, hide (IL.nil _), hide (New.nil _), hide (Below.refl _ _)⟩
  case round =>
    obtain ⟨i, hi, hg, rfl, HI, HN, HB⟩ := hrel
    by_cases hlt : i < c
    · have hltz : (i : Int) < (c : Int) := by omega
      obtain ⟨a, cp, e7, _⟩ := (unhide HI).iat
      subst e7
      have w1 : wrap64 ((k : Int) + (i : Int)) = ((k + i : Nat) : Int) := by rw [wrap64_low (by omega) (by omega)]; omega
      have w2 : IntKind.i64.wrap ((k : Int) + (i : Int)) = ((k + i : Nat) : Int) := by rw [wrap_low (by omega) (by omega)]; omega
      have n0 : ((n : Int) == 0) = false := by simp; omega
      have R1 : (rawA k i n).length + [(((k : Int) + (i : Int)) % (n : Int))].length ≤ 17592186044416 := by rw [rawA_len]; simp; omega
      have HL := hide R1
      clear R1
      generalize hm : (rawA k i n).length = m at *
      have HM := hide hm
      clear hm
      have HA := fun x : Int => hide ((unhide HI).later ((Below.refl _ wr).alloc (Nat.le_refl _) (.cells #[.int .i64 x] 3)))
      go_wp2_with (at_builtin; refine wpList_ints _ rfl (.tmp 13) (.tmp 19) rfl _ (rawA k i n) rfl (unhide (HA _)) _ 1 [((k : Int) + (i : Int)) % (n : Int)] rfl (IAt.one wr _ _) (fun h => by cases h) (by rw [unhide HM]; exact unhide HL) ?_; intro v' w' o1 o2 o3; have O1 := hide o1; have O2 := hide o2; have O3 := hide o3; clear o1 o2 o3)
      go_roundg (c - (i + 1))
      case measure => omega
      case rel =>
        have hb' : Below w.heap.size w (wr.alloc (.cells #[.int .i64 (((k : Int) + (i : Int)) % (n : Int))] 3)) := (unhide HB).alloc (unhide HB).size _
        refine ⟨i + 1, by omega, by omega, by go_num, hide (by rw [rawA_succ]; exact unhide O1), hide ((unhide HN).moved (unhide O3) hb'.size), hide ((unhide HN).below hb' (unhide O2))⟩
    · have hltz : ¬ (i : Int) < (c : Int) := by omega
      have e : i = c := by omega
      subst e
      obtain ⟨a, cp, e7, _⟩ := (unhide HI).iat
      have K := hide (sort_any (unhide HI) (fun h => by have := rawA_len k i n; rw [h] at this; simp at this; omega) (by rw [rawA_len]; omega))
      generalize (rawA k i n).length = m at *
      subst e7
      go_wp2_with (go_at_call 17; refine (unhide K).mono ?_; rintro e w' ⟨rfl, t2, t3⟩; have T2 := hide t2; have T3 := hide t3; clear t2 t3)
      go_ret
      exact ⟨_, rfl, unhide T2, unhide HN, (unhide HN).below (unhide HB) (unhide T3)⟩
end Go.Proofs.Ytfakjcaolpmkeaa
