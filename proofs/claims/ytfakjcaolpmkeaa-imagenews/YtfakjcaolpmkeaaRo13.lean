/-
  The document's New, walked. Conditions: numbers that may be.
-/
import Derived.Test.YtfakjcaolpmkeaaRn13
import Derived.Deep.CutBlock
namespace Go.Proofs.Ytfakjcaolpmkeaa
open Go.RowKit Go.Maps
set_option linter.unusedVariables false

theorem onF_succ (k n x i : Nat) : onF k n x (i + 1) = onF k n x i ++ (if (k + i) % n == x then [(x : Int)] else []) := by
  unfold onF
  rw [List.range_succ, List.filter_append, List.map_append]
  congr 1
  by_cases h : ((k + i) % n == x) = true
  · rw [if_pos h]; simp [h]
  · rw [if_neg h]; simp [h]
def onU (k c n u : Nat) : List Int := (List.range u).flatMap (fun x => onF k n x c)
theorem onU_succ (k c n u : Nat) : onU k c n (u + 1) = onU k c n u ++ onF k n u c := by
  unfold onU
  rw [List.range_succ, List.flatMap_append]
  simp
theorem onF_len (k n x i : Nat) : (onF k n x i).length ≤ i := by
  unfold onF
  rw [List.length_map]
  exact Nat.le_trans (List.length_filter_le _ _) (by simp)
theorem onU_len (k c n u : Nat) : (onU k c n u).length ≤ u * c := by
  induction u with
  | zero => simp [onU]
  | succ u ih =>
    rw [onU_succ, List.length_append, Nat.add_mul]
    have := onF_len k n u c
    omega
theorem wr_add {k i : Nat} (hk : k ≤ 1000) (hi : i ≤ 1000) : wrap64 ((k : Int) + (i : Int)) = (k : Int) + (i : Int) ∧ IntKind.i64.wrap ((k : Int) + (i : Int)) = (k : Int) + (i : Int) :=
  ⟨wrap64_low (by omega) (by omega), wrap_low (by omega) (by omega)⟩
theorem num13 {i : Nat} (h : i ≤ 1000) : Value.int .i64 (wrap64 ((i : Int) + 1)) = Value.int .i64 ((i + 1 : Nat) : Int) := by rw [wrap64_low (by omega) (by omega)]; simp
theorem nz13 {n : Nat} (h : 1 ≤ n) : ((n : Int) == 0) = false := by simp; omega
theorem mod13 {k i n : Nat} : ((k : Int) + (i : Int)) % (n : Int) = (((k + i) % n : Nat) : Int) := by simp
theorem al4 (w : World) (A B C D : Obj) : ((((w.alloc A).alloc B).alloc C).alloc D).drew.heap[w.heap.size]? = some A ∧ ((((w.alloc A).alloc B).alloc C).alloc D).drew.heap[w.heap.size + 1]? = some B ∧ ((((w.alloc A).alloc B).alloc C).alloc D).drew.heap[w.heap.size + 1 + 1]? = some C ∧ ((((w.alloc A).alloc B).alloc C).alloc D).drew.heap[w.heap.size + 1 + 1 + 1]? = some D ∧ Below w.heap.size w ((((w.alloc A).alloc B).alloc C).alloc D).drew := by
  have s1 : (w.alloc A).heap.size = w.heap.size + 1 := by simp
  have s2 : ((w.alloc A).alloc B).heap.size = w.heap.size + 1 + 1 := by simp
  have s3 : (((w.alloc A).alloc B).alloc C).heap.size = w.heap.size + 1 + 1 + 1 := by simp
  have b1 := (Below.refl w.heap.size w).alloc (Nat.le_refl _) A
  have b2 := b1.alloc b1.size B
  have b3 := b2.alloc b2.size C
  have b4 := b3.alloc b3.size D
  refine ⟨heap_old _ (heap_old _ (heap_old _ (heap_new w A))), ?_, ?_, ?_, b4.drew⟩
  · have := heap_old D (heap_old C (heap_new (w.alloc A) B))
    rw [s1] at this; exact this
  · have := heap_old D (heap_new ((w.alloc A).alloc B) C)
    rw [s2] at this; exact this
  · have := heap_new (((w.alloc A).alloc B).alloc C) D
    rw [s3] at this; exact this
set_option maxRecDepth 100000 in
set_option maxHeartbeats 4000000 in
theorem rnew_any {w : World} {n p c : Nat} (h1 : 1 ≤ n) (h2 : n ≤ 5) (h3 : 1 ≤ p) (h4 : p ≤ 6) (h5 : 1 ≤ c) (h6 : c ≤ n) :
    Calls Try.prog 5 #[.int .i64 n, .int .i64 p, .int .i64 c] w fun e w' => DNewP w n p c e w' := by
  have g1 : ¬ ((n : Int) < 1) := by omega
  have g2 : ¬ (5 < (n : Int)) := by omega
  have g3 : ¬ ((p : Int) < 1) := by omega
  have g4 : ¬ (6 < (p : Int)) := by omega
  have g5 : ¬ ((c : Int) < 1) := by omega
  have g6 : ¬ ((n : Int) < (c : Int)) := by omega
  obtain ⟨i1, z1, a1, a2, a3, a4, a5⟩ := bool_info
  obtain ⟨N1, n1, m1⟩ := made_one Try.underlying43 a1 a2 a3 a4 (by omega) a5 h1 h2
  obtain ⟨i2, z2, b1, b2, b3, b4, b5⟩ := int_info
  obtain ⟨N2, n2, m2⟩ := made_one Try.underlying39 b1 b2 b3 b4 (by omega) b5 h1 h2
  obtain ⟨i3, z3, c1, c2, c3, c4, c5⟩ := u64_info
  obtain ⟨N3, n3, m3⟩ := made_one Try.underlying44 c1 c2 c3 c4 (by omega) c5 h1 h2
  have Q1 := hide n1
  have Q2 := hide n2
  have Q3 := hide n3
  clear a1 a2 a3 a4 a5 b1 b2 b3 b4 b5 c1 c2 c3 c4 c5 n1 n2 n3
  go_enter Try.func5, Try.ntmps5
  go_upto_region 3 with fail
  go_cut [8] from 36 (fun s8 wx => ∃ rb, s8 = .pointer (some ⟨rb, 0, none⟩) ∧ Hid (DN w wx rb n (.slice none 0 0) []))
  case first =>
    go_region_law (fail)
    all_goals
      go_wp2_with fail
      go_meet
      exact ⟨_, rfl, hide (dn0 (al4 w _ _ _ _).2.2.2.1 (by first | exact (al4 w _ _ _ _).1 | exact (al4 w _ _ _ _).2.1 | exact (al4 w _ _ _ _).2.2.1) (unhide Q1) (by first | exact (al4 w _ _ _ _).1 | exact (al4 w _ _ _ _).2.1 | exact (al4 w _ _ _ _).2.2.1) (unhide Q2) (by first | exact (al4 w _ _ _ _).1 | exact (al4 w _ _ _ _).2.1 | exact (al4 w _ _ _ _).2.2.1) (unhide Q3) (by omega) (al4 w _ _ _ _).2.2.2.2)⟩
  case rest =>
    obtain ⟨rb, rfl, D0⟩ := hcut
    clear m1 m2 m3 Q1 Q2 Q3
    go_wp2_with fail
    go_loopg [9] p (fun gg s9 wr => ∃ (k : Nat) (pv : Value) (ps : List Pm), k ≤ p ∧ p - k ≤ gg ∧ s9 = .int .i64 k ∧ Hid (DN w wr rb n pv ps) ∧ Hid (ps.map Pm.q = (List.range k).map (newP n c)))
    case atStart => exact ⟨0, _, [], by omega, by omega, rfl, D0, hide rfl⟩
    case round =>
      obtain ⟨k, pv, ps, hk, hgk, rfl, D, PQ⟩ := hrel
      obtain ⟨w0, hw0⟩ : ∃ w0, w0 = wr := ⟨_, rfl⟩
      subst hw0
      by_cases hkp : k < p
      · have hkz : (k : Int) < (p : Int) := by omega
        go_wp2_with fail
        go_loopg [10, 11] n (fun gu s10 s11 wq => ∃ u : Nat, u ≤ n ∧ n - u ≤ gu ∧ s11 = .int .i64 u ∧ Hid (IL wq s10 (onU k c n u)) ∧ Hid (New w0 s10) ∧ Hid (Below w0.heap.size w0 wq))
        case atStart => exact ⟨0, by omega, by omega, rfl, hide (by simp [onU]; exact IL.nil _), hide (New.nil _), hide (Below.refl _ _)⟩
        case round =>
          obtain ⟨u, hu, hgu, rfl, I1, N1, B1⟩ := hrel
          by_cases hun : u < n
          · have huz : (u : Int) < (n : Int) := by omega
            go_wp2_with fail
            go_loopg [10, 12] c (fun gi s10 s12 wq => ∃ i : Nat, i ≤ c ∧ c - i ≤ gi ∧ s12 = .int .i64 i ∧ Hid (IL wq s10 (onU k c n u ++ onF k n u i)) ∧ Hid (New w0 s10) ∧ Hid (Below w0.heap.size w0 wq))
            case atStart => exact ⟨0, by omega, by omega, rfl, hide (by simp [onF]; exact unhide I1), N1, B1⟩
            case round =>
              clear I1 N1 B1
              obtain ⟨i, hi, hgi, rfl, I1, N1, B1⟩ := hrel
              obtain ⟨oa, oc, eo, _⟩ := (unhide I1).iat
              subst eo
              by_cases hic : i < c
              · have hiz : (i : Int) < (c : Int) := by omega
                obtain ⟨w1, w2⟩ := wr_add (k := k) (i := i) (Nat.le_of_lt (Nat.lt_of_lt_of_le hkp (Nat.le_trans h4 (by decide)))) (Nat.le_of_lt (Nat.lt_of_lt_of_le hic (Nat.le_trans h6 (Nat.le_trans h2 (by decide)))))
                have n0 := nz13 h1
                have n1 : ¬ n = 0 := Nat.ne_of_gt h1
                have n2 : ¬ (n : Int) = 0 := fun e => n1 (Int.ofNat.inj e)
                have SC := hide (onF_succ k n u i)
                have RM : Hid ((onU k c n u ++ onF k n u i).length + [(u : Int)].length ≤ 17592186044416) := hide (by
                  have q1 := onU_len k c n u
                  have q2 := onF_len k n u i
                  have q3 : u * c ≤ 5 * 5 := Nat.mul_le_mul (by omega) (by omega)
                  rw [List.length_append]
                  simp
                  omega)
                have HA := hide ((unhide I1).later ((Below.refl _ wr).alloc (Nat.le_refl _) (.cells #[.int .i64 (u : Int)] 3)))
                have hb' := hide ((unhide B1).alloc (unhide B1).size (.cells #[.int .i64 (u : Int)] 3))
                by_cases hx : (k + i) % n = u
                · have hx1 : ((k : Int) + (i : Int)) % (n : Int) = (u : Int) := by rw [mod13, hx]
                  have hx2 : (((k : Int) + (i : Int)) % (n : Int) == (u : Int)) = true := by simpa using hx1
                  have NX : Hid (onF k n u (i + 1) = onF k n u i ++ [(u : Int)]) := hide (by rw [unhide SC, if_pos (by simpa using hx)])
                  clear hx SC hx1
                  generalize hll : (onU k c n u ++ onF k n u i).length = ll at *
                  have HLL := hide hll
                  clear hll
                  have AR := hide (And.intro hi (And.intro hgi (And.intro hic (show c ≤ 5 from Nat.le_trans h6 h2))))
                  clear g1 g2 g3 g4 g5 g6 h1 h2 h3 h4 h5 h6 hgk hkp hkz hk hu hgu hun huz hi hgi hic
                  go_wp2_with (at_builtin; refine wpList_ints _ rfl (.tmp 66) (.tmp 68) rfl _ (onU k c n u ++ onF k n u i) rfl (unhide HA) _ 1 [(u : Int)] rfl (IAt.one wr _ _) (fun h => by cases h) (by rw [unhide HLL]; exact unhide RM) ?_; intro v' w' o1 o2 o3; have O1 := hide o1; have O2 := hide o2; have O3 := hide o3; clear o1 o2 o3)
                  obtain ⟨hi, hgi, hic, hc5⟩ := unhide AR
                  go_roundg (c - (i + 1))
                  case measure => omega
                  case rel => exact ⟨i + 1, by omega, by omega, num13 (by omega), hide (by rw [unhide NX, ← List.append_assoc]; exact unhide O1), hide ((unhide N1).moved (unhide O3) (unhide hb').size), hide ((unhide N1).below (unhide hb') (unhide O2))⟩
                · have hx1 : ¬ ((k : Int) + (i : Int)) % (n : Int) = (u : Int) := fun e => hx (by rw [mod13] at e; exact Int.ofNat.inj e)
                  have hx2 : (((k : Int) + (i : Int)) % (n : Int) == (u : Int)) = false := by simpa using hx1
                  have NX : Hid (onF k n u (i + 1) = onF k n u i) := hide (by rw [unhide SC, if_neg (by simpa using hx), List.append_nil])
                  clear hx SC hx1
                  generalize (onU k c n u ++ onF k n u i).length = ll at *
                  have AR := hide (And.intro hi (And.intro hgi (And.intro hic (show c ≤ 5 from Nat.le_trans h6 h2))))
                  clear g1 g2 g3 g4 g5 g6 h1 h2 h3 h4 h5 h6 hgk hkp hkz hk hu hgu hun huz hi hgi hic
                  go_wp2
                  obtain ⟨hi, hgi, hic, hc5⟩ := unhide AR
                  go_roundg (c - (i + 1))
                  case measure => omega
                  case rel => exact ⟨i + 1, by omega, by omega, num13 (by omega), hide (by rw [unhide NX]; exact unhide I1), N1, B1⟩
              · have hiz : ¬ (i : Int) < (c : Int) := by omega
                have I2 : Hid (IL wr (.slice oa (onU k c n u ++ onF k n u i).length oc) (onU k c n (u + 1))) := hide (by
                  have e : i = c := by omega
                  subst e
                  rw [onU_succ]; exact unhide I1)
                clear I1
                generalize (onU k c n u ++ onF k n u i).length = ll at *
                go_wp2
                go_roundg (n - (u + 1))
                case measure => omega
                case rel => exact ⟨u + 1, by omega, by omega, by go_num, I2, N1, B1⟩
          · have huz : ¬ (u : Int) < (n : Int) := by omega
            have eu : u = n := by omega
            have hon : onU k c n u = arnd k c n := by rw [eu]; exact on_eq (by omega) (by omega) (by omega) h1 h6
            obtain ⟨oa, oc, eo, _⟩ := (unhide I1).iat
            subst eo
            have hol : (onU k c n u).length = c := by rw [hon]; exact arnd_len k c n
            have I2 : Hid (IL wr (.slice oa c oc) (arnd k c n)) := hide (by have := unhide I1; rw [hol, hon] at this; exact this)
            have N2 : Hid (New w0 (.slice oa c oc)) := hide (by have := unhide N1; rw [hol] at this; exact this)
            have D1 := hide ((unhide D).later (unhide B1))
            rw [hol]
            clear I1 N1 hon hol eu
            have hpl : ps.length = k := by have := congrArg List.length (unhide PQ); simpa using this
            obtain ⟨pa, pc, ep, _⟩ := (unhide D1).row.parts
            obtain ⟨ab, cb, bb, ho, _⟩ := (unhide D1).ex
            rw [ep, hpl] at ho
            have r3 := cell_of ho 3
            have f3 := frozen_of ho 3
            simp at r3
            have EP : Hid (pv = .slice pa k pc) := hide (by rw [ep, hpl])
            have HPL := hide hpl
            clear ep hpl ho
            obtain ⟨oi, oz, q1, q2, q3, q4, q5⟩ := part_info
            have b2 := (Below.refl wr.heap.size wr).alloc (Nat.le_refl _) (.cells #[.int .i64 (-1), .int .i64 0, .int .i64 0, .slice oa c oc, .slice oa c oc, .slice none 0 0] 42)
            have ROW : Hid (Wide (wr.alloc (.cells #[.int .i64 (-1), .int .i64 0, .int .i64 0, .slice oa c oc, .slice oa c oc, .slice none 0 0] 42)) 42 6 (.slice pa k pc) k (ps.flatMap pmC)) := hide (by
              have := ((unhide D1).later b2).row
              rw [unhide EP, unhide HPL] at this
              exact this)
            have DP := hide (show DPt (wr.alloc (.cells #[.int .i64 (-1), .int .i64 0, .int .i64 0, .slice oa c oc, .slice oa c oc, .slice none 0 0] 42)) ⟨newP n c k, .slice oa c oc, .slice oa c oc, .slice none 0 0⟩ from ⟨(unhide I2).later b2, rfl, rfl, rfl, rfl⟩)
            have CE : Hid (∀ (j : Nat) (x : Value), [Value.int .i64 (-1), .int .i64 0, .int .i64 0, .slice oa c oc, .slice oa c oc, .slice none 0 0][j]? = some x → (wr.alloc (.cells #[.int .i64 (-1), .int .i64 0, .int .i64 0, .slice oa c oc, .slice oa c oc, .slice none 0 0] 42)).cell? ⟨wr.heap.size, 0 + j, none⟩ = some x) := hide (fun j x hj => by rw [cell_of (heap_new wr _), Nat.zero_add]; simpa using hj)
            have KOB : Hid (∀ W, Touch (fun x => (Value.slice pa k pc).ownBlock = some x) (wr.alloc (.cells #[.int .i64 (-1), .int .i64 0, .int .i64 0, .slice oa c oc, .slice oa c oc, .slice none 0 0] 42)) W → W.cell? ⟨rb, 3, none⟩ = some (.slice pa k pc) ∧ W.frozen? ⟨rb, 3, none⟩ = false) := hide (fun W t => by
              obtain ⟨ab, cb, bb, ho, _⟩ := ((unhide D1).later b2).ex
              rw [unhide EP] at ho
              have ho2 := t.keep ho (fun e => by
                obtain ⟨cs', e'⟩ := (unhide ROW).heap e
                exact absurd (ty_ne ho e') (by decide))
              exact ⟨cell_of ho2 3, frozen_of ho2 3⟩)
            have B2 := hide b2
            have AR := hide (And.intro hk (And.intro hgk (And.intro hkp h4)))
            clear b2 g1 g2 g3 g4 g5 g6 h1 h2 h3 h4 h5 h6 hgk hkp hkz hk hu hgu
            go_wp2_with (at_builtin; refine wpList_wide _ rfl (.tmp 74) (.tmp 78) 36 rfl 42 oi oz 6 96 Try.underlying36 q1 q2 q3 q4 q5 (by omega) (.slice pa k pc) k (ps.flatMap pmC) rfl (unhide ROW) wr.heap.size 0 1 [.int .i64 (-1), .int .i64 0, .int .i64 0, .slice oa c oc, .slice oa c oc, .slice none 0 0] rfl rfl (unhide CE) (by simp [Value.oneCell']) (by have := unhide AR; unfold maxLen; omega) (by have := unhide AR; omega) ?_; intro v3 w3 o1 o2 o3; obtain ⟨va, vc, ev, _⟩ := o1.parts; subst ev; obtain ⟨y3, z3⟩ := unhide KOB w3 o2; have O1 := hide o1; have O2 := hide o2; have O3 := hide o3; clear o1 o2 o3)
            have DD : Hid (DN w (w3.setCell ⟨rb, 3, none⟩ (.slice va (k + 1) vc)) rb n (.slice va (k + 1) vc) (ps ++ [⟨newP n c k, .slice oa c oc, .slice oa c oc, .slice none 0 0⟩])) := hide ((unhide D1).push (unhide B2) (unhide DP) (by rw [unhide HPL]; exact unhide O1) (by rw [unhide EP]; exact unhide O2) (by rw [unhide EP]; exact unhide O3))
            have PP : Hid ((ps ++ [(⟨newP n c k, .slice oa c oc, .slice oa c oc, .slice none 0 0⟩ : Pm)]).map Pm.q = (List.range (k + 1)).map (newP n c)) := hide (by rw [List.map_append, unhide PQ, List.range_succ, List.map_append]; rfl)
            obtain ⟨hk, hgk, hkp, h4⟩ := unhide AR
            go_roundg (p - (k + 1))
            case measure => omega
            case rel => exact ⟨k + 1, _, _, by omega, by omega, num13 (by omega), DD, PP⟩
      · have hkz : ¬ (k : Int) < (p : Int) := by omega
        obtain rfl : p = k := by omega
        go_wp2
        go_returns
        exact ⟨rb, pv, ps, rfl, unhide D, unhide PQ⟩
end Go.Proofs.Ytfakjcaolpmkeaa
