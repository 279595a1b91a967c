/-
  Are these no settings, by the document: the law's own test. Conditions: lengths as memory allows them.
-/
import Derived.Test.YtbonlonkienhaaaCs4
import Derived.Deep.CutBlock
namespace Go.Proofs.Ytbonlonkienhaaa
open Go.RowKit
set_option linter.unusedVariables false

theorem pr_bad {n : Int} {p : Pg} {j : Nat} (hj : j < p.os.length) (h : opB p.os[j] n = false) : prB n p = false := by
  have e : p.os.any (fun o => !(opB o n)) = true := List.any_eq_true.2 ⟨p.os[j], List.getElem_mem hj, by simp [h]⟩
  simp [prB, e]
theorem st_bad {c : Cf} {j : Nat} (hj : j < c.ps.length) (h : prB c.pt c.ps[j] = false) : stB c = false := by
  have e : c.ps.any (fun p => !(prB c.pt p)) = true := List.any_eq_true.2 ⟨c.ps[j], List.getElem_mem hj, by simp [h]⟩
  simp [stB, e]
theorem all_good {α : Type} {l : List α} {f : α → Bool} (h : ∀ j (hj : j < l.length), f l[j] = true) : l.any (fun x => !(f x)) = false := by
  refine Bool.eq_false_iff.2 (fun e => ?_)
  obtain ⟨x, hx, hf⟩ := List.any_eq_true.1 e
  obtain ⟨j, hj, rfl⟩ := List.getElem_of_mem hx
  rw [h j hj] at hf
  cases hf
set_option maxRecDepth 100000 in
set_option maxHeartbeats 16000000 in
theorem bad_any {w : World} {c : Cf} (h : CfIn w c) : Calls Try.prog 8 #[.agg (cellsCf c).toArray] w fun e w' => e = .returned (.bool (!(stB c))) ∧ Below w.heap.size w w' := by
  have b0 := (Below.refl w.heap.size w).alloc (Nat.le_refl _) (.cells (cellsCf c).toArray 24)
  have B0 := hide b0
  have HY := hide (heap_new w (.cells (cellsCf c).toArray 24))
  have HR := hide (h.r.keep (Touch.of_below b0))
  have HP := hide (fun p hp => (h.p p hp).keep (Touch.of_below b0))
  obtain ⟨q, hq⟩ : ∃ q, q = !(stB c) := ⟨_, rfl⟩
  rw [← hq]
  have HQ := hide hq
  clear b0 h hq
  unfold cellsCf at *
  go_enter Try.func8, Try.ntmps8
  go_upto_region 1 with fail
  change Code.wp _ _ _ _ (w.alloc (.cells [Value.int .i64 c.nd, .int .i64 c.pt, .int .i64 c.cp, .slice c.a c.ps.length c.c].toArray 24))
  generalize w.alloc (.cells [Value.int .i64 c.nd, .int .i64 c.pt, .int .i64 c.cp, .slice c.a c.ps.length c.c].toArray 24) = W1 at *
  have HW : Hid (w.heap.size < W1.heap.size) := hide (lt_of_heap (unhide HY))
  generalize hg : w.heap.size = g at *
  have HG := hide hg
  clear hg
  have y0 : W1.cell? ⟨g, 0, none⟩ = some (.int .i64 c.nd) := cell_of (unhide HY) 0
  have y1 : W1.cell? ⟨g, 1, none⟩ = some (.int .i64 c.pt) := cell_of (unhide HY) 1
  have y2 : W1.cell? ⟨g, 2, none⟩ = some (.int .i64 c.cp) := cell_of (unhide HY) 2
  have y3 : W1.cell? ⟨g, 3, none⟩ = some (.slice c.a c.ps.length c.c) := cell_of (unhide HY) 3
  by_cases h0 : c.nd < 1
  · have hn : ¬ (1 ≤ c.nd) := by omega
    obtain rfl : q = true := by rw [unhide HQ]; simp [stB, hn]
    clear HQ
    go_wp2
    go_ret
    exact ⟨by first | rfl | (simp; done), by rw [unhide HG]; exact unhide B0⟩
  · skip
    by_cases h1 : 5 < c.nd
    · have hn : ¬ (c.nd ≤ 5) := by omega
      obtain rfl : q = true := by rw [unhide HQ]; simp [stB, hn]
      clear HQ
      go_wp2
      go_ret
      exact ⟨by first | rfl | (simp; done), by rw [unhide HG]; exact unhide B0⟩
    · skip
      by_cases h2 : c.pt < 1
      · have hn : ¬ (1 ≤ c.pt) := by omega
        obtain rfl : q = true := by rw [unhide HQ]; simp [stB, hn]
        clear HQ
        go_wp2
        go_ret
        exact ⟨by first | rfl | (simp; done), by rw [unhide HG]; exact unhide B0⟩
      · skip
        by_cases h3 : 4 < c.pt
        · have hn : ¬ (c.pt ≤ 4) := by omega
          obtain rfl : q = true := by rw [unhide HQ]; simp [stB, hn]
          clear HQ
          go_wp2
          go_ret
          exact ⟨by first | rfl | (simp; done), by rw [unhide HG]; exact unhide B0⟩
        · skip
          by_cases h4 : c.cp < 1
          · have hn : ¬ (1 ≤ c.cp) := by omega
            obtain rfl : q = true := by rw [unhide HQ]; simp [stB, hn]
            clear HQ
            go_wp2
            go_ret
            exact ⟨by first | rfl | (simp; done), by rw [unhide HG]; exact unhide B0⟩
          · skip
            by_cases h5 : c.nd < c.cp
            · have hn : ¬ (c.cp ≤ c.nd) := by omega
              obtain rfl : q = true := by rw [unhide HQ]; simp [stB, hn]
              clear HQ
              go_wp2
              go_ret
              exact ⟨by first | rfl | (simp; done), by rw [unhide HG]; exact unhide B0⟩
            · skip
              by_cases h6 : (4 : Int) < (c.ps.length : Int)
              · have hn : ¬ ((c.ps.length : Int) ≤ 4) := by omega
                obtain rfl : q = true := by rw [unhide HQ]; simp [stB, hn]
                clear HQ
                go_wp2
                go_ret
                exact ⟨by first | rfl | (simp; done), by rw [unhide HG]; exact unhide B0⟩
              · skip
                have G0 : Hid (1 ≤ c.nd) := hide (by omega)
                have G1 : Hid (c.nd ≤ 5) := hide (by omega)
                have G2 : Hid (1 ≤ c.pt) := hide (by omega)
                have G3 : Hid (c.pt ≤ 4) := hide (by omega)
                have G4 : Hid (1 ≤ c.cp) := hide (by omega)
                have G5 : Hid (c.cp ≤ c.nd) := hide (by omega)
                go_upto_region 3 with fail
                go_wp2_with fail
                clear y0 y1 y2 y3 h0 h1 h2 h3 h4 h5
                generalize c.a = ca at *
                generalize hn : c.ps.length = n at *
                have G6 : Hid ((n : Int) ≤ 4) := hide (by omega)
                have HN := hide hn
                clear hn h6
                go_loopw [46] (fun i wr => ∃ k : Nat, k ≤ n ∧ i = .int .i64 (k : Int) ∧ Touch (fun _ => False) W1 wr ∧ Hid (∀ j (hj : j < c.ps.length), j < k → prB c.pt c.ps[j] = true)) (fun i _ => n - (intOf i).toNat)
                case atStart => exact ⟨0, Nat.zero_le _, rfl, Touch.refl _ _, hide (fun j hj h => absurd h (Nat.not_lt_zero _))⟩
                case round =>
                  obtain ⟨k, hk, rfl, tk, gk⟩ := hrel
                  have TK := hide tk
                  have GK := gk
                  by_cases hkn : k < n
                  · have hkn' : (k : Int) < (n : Int) := by omega
                    have HK := hide hkn
                    have hkl : k < c.ps.length := by have := unhide HN; omega
                    have HKL := hide hkl
                    obtain ⟨p, hp⟩ : ∃ p, p = c.ps[k] := ⟨_, rfl⟩
                    have HPK := hide hp.symm
                    have hpg := (unhide HP p (by rw [hp]; exact List.getElem_mem hkl)).keep tk
                    obtain ⟨gb, off, ea, _, hcell⟩ := ((unhide HR).keep tk).at_ hkl hp.symm
                    have z0 := hcell 0 (by omega)
                    have z1 := hcell 1 (by omega)
                    rw [Nat.add_zero] at z0
                    simp only [cellsPg, List.getElem?_cons_zero, List.getElem?_cons_succ] at z0 z1
                    subst ea
                    have t2 := (Touch.refl (fun _ => False) wr).alloc (.cells #[.int .i64 p.g, .slice p.a p.os.length p.c] 69)
                    have HPG := hide (hpg.keep t2)
                    have hx := heap_new wr (.cells #[.int .i64 p.g, .slice p.a p.os.length p.c] 69)
                    have HX := hide hx
                    have T2 := hide t2
                    have B2 : Hid (Below g w (wr.alloc (.cells #[.int .i64 p.g, .slice p.a p.os.length p.c] 69))) := hide (below_touch (unhide B0) (tk.trans t2) (Nat.le_of_lt (unhide HW)) (fun k hk => hk.elim))
                    have HY2 := hide ((tk.trans t2).keep (unhide HY) (fun h => h))
                    clear hcell hp tk gk hkl hkn hpg t2 hx
                    go_upto_region 6 with fail
                    change Code.wp _ _ _ _ (wr.alloc (.cells #[.int .i64 p.g, .slice p.a p.os.length p.c] 69))
                    clear z0 z1
                    generalize wr.alloc (.cells #[.int .i64 p.g, .slice p.a p.os.length p.c] 69) = w2 at *
                    have HW2 : Hid (g ≤ w2.heap.size) := hide (Nat.le_of_lt (lt_of_heap (unhide HY2)))
                    have x0 := cell_of (unhide HX) 0
                    have x1 := cell_of (unhide HX) 1
                    simp at x0 x1
                    by_cases h0 : p.g < 0
                    · have hn2 : ¬ (0 ≤ p.g) := by omega
                      have hf : prB c.pt p = false := by simp [prB, hn2]
                      obtain rfl : q = true := by rw [unhide HQ, st_bad (unhide HKL) ((congrArg (prB c.pt) (unhide HPK)).trans hf)]; rfl
                      clear HQ
                      go_wp2
                      go_returns
                      exact ⟨by first | rfl | (simp; done), by rw [unhide HG]; exact unhide B2⟩
                    · skip
                      by_cases h1 : 7 < p.g
                      · have hn2 : ¬ (p.g ≤ 7) := by omega
                        have hf : prB c.pt p = false := by simp [prB, hn2]
                        obtain rfl : q = true := by rw [unhide HQ, st_bad (unhide HKL) ((congrArg (prB c.pt) (unhide HPK)).trans hf)]; rfl
                        clear HQ
                        go_wp2
                        go_returns
                        exact ⟨by first | rfl | (simp; done), by rw [unhide HG]; exact unhide B2⟩
                      · skip
                        by_cases h2 : (64 : Int) < (p.os.length : Int)
                        · have hn2 : ¬ ((p.os.length : Int) ≤ 64) := by omega
                          have hf : prB c.pt p = false := by simp [prB, hn2]
                          obtain rfl : q = true := by rw [unhide HQ, st_bad (unhide HKL) ((congrArg (prB c.pt) (unhide HPK)).trans hf)]; rfl
                          clear HQ
                          go_wp2
                          go_returns
                          exact ⟨by first | rfl | (simp; done), by rw [unhide HG]; exact unhide B2⟩
                        · skip
                          have P0 : Hid (0 ≤ p.g) := hide (by omega)
                          have P1 : Hid (p.g ≤ 7) := hide (by omega)
                          have P2 : Hid ((p.os.length : Int) ≤ 64) := hide (by omega)
                          go_upto_region 8 with fail
                          clear h0 h1 h2
                          go_wp2_with fail
                          clear x0 x1
                          have HRO := hide ((unhide HPG).1)
                          generalize hpa : p.a = pa at *
                          clear hpa
                          generalize hm : p.os.length = m at *
                          have HM := hide hm
                          clear hm
                          go_loopw [67] (fun i wi => ∃ j : Nat, j ≤ m ∧ i = .int .i64 (j : Int) ∧ Touch (fun _ => False) w2 wi ∧ Hid (∀ j' (h : j' < p.os.length), j' < j → opB p.os[j'] c.pt = true)) (fun i _ => m - (intOf i).toNat)
                          case atStart => exact ⟨0, Nat.zero_le _, rfl, Touch.refl _ _, hide (fun j hj h => absurd h (Nat.not_lt_zero _))⟩
                          case round =>
                            obtain ⟨j, hj, rfl, tj, gj⟩ := hrel
                            have TJ := hide tj
                            have GJ := gj
                            by_cases hjm : j < m
                            · have hjm' : (j : Int) < (m : Int) := by omega
                              have HJ := hide hjm
                              have hjl : j < p.os.length := by have := unhide HM; omega
                              have HJL := hide hjl
                              obtain ⟨o, ho⟩ : ∃ o, o = p.os[j] := ⟨_, rfl⟩
                              have HOJ := hide ho.symm
                              obtain ⟨gd, od, ed, _, hcd⟩ := ((unhide HRO).keep tj).at_ hjl ho.symm
                              have v0 := hcd 0 (by omega)
                              have v1 := hcd 1 (by omega)
                              have v2 := hcd 2 (by omega)
                              have v3 := hcd 3 (by omega)
                              have v4 := hcd 4 (by omega)
                              rw [Nat.add_zero] at v0
                              simp only [cellsPo, List.getElem?_cons_zero, List.getElem?_cons_succ] at v0 v1 v2 v3 v4
                              subst ed
                              clear hcd ho tj gj hjl hjm
                              go_upto_region 11 with fail
                              change Code.wp _ _ _ _ (wr.alloc (.cells #[.int .i64 o.kd, .int .i64 o.pt, .int .i64 o.tt, .int .i64 o.ct, .string o.s] 36))
                              have hu := heap_new wr (.cells #[.int .i64 o.kd, .int .i64 o.pt, .int .i64 o.tt, .int .i64 o.ct, .string o.s] 36)
                              have t5 := (Touch.refl (fun _ => False) wr).alloc (.cells #[.int .i64 o.kd, .int .i64 o.pt, .int .i64 o.tt, .int .i64 o.ct, .string o.s] 36)
                              have T5 := hide t5
                              have B6 : Hid (Below g w (wr.alloc (.cells #[.int .i64 o.kd, .int .i64 o.pt, .int .i64 o.tt, .int .i64 o.ct, .string o.s] 36))) := hide (below_touch (unhide B2) ((unhide TJ).trans t5) (unhide HW2) (fun k hk => hk.elim))
                              have y1 : (wr.alloc (.cells #[.int .i64 o.kd, .int .i64 o.pt, .int .i64 o.tt, .int .i64 o.ct, .string o.s] 36)).cell? ⟨g, 1, none⟩ = some (.int .i64 c.pt) := cell_of (((unhide TJ).trans t5).keep (unhide HY2) (fun h => h)) 1
                              have HU := hide hu
                              clear hu t5 v0 v1 v2 v3 v4
                              generalize wr.alloc (.cells #[.int .i64 o.kd, .int .i64 o.pt, .int .i64 o.tt, .int .i64 o.ct, .string o.s] 36) = w6 at *
                              have u0 := cell_of (unhide HU) 0
                              have u1 := cell_of (unhide HU) 1
                              have u2 := cell_of (unhide HU) 2
                              have u3 := cell_of (unhide HU) 3
                              have u4 := cell_of (unhide HU) 4
                              simp at u0 u1 u2 u3 u4
                              by_cases h0 : o.kd < 1
                              · have hn3 : ¬ (1 ≤ o.kd) := by omega
                                have hf : opB o c.pt = false := by simp [opB, hn3]
                                obtain rfl : q = true := by rw [unhide HQ, st_bad (unhide HKL) ((congrArg (prB c.pt) (unhide HPK)).trans (pr_bad (unhide HJL) ((congrArg (fun x => opB x c.pt) (unhide HOJ)).trans hf)))]; rfl
                                clear HQ
                                go_wp2
                                go_returns
                                exact ⟨by first | rfl | (simp; done), by rw [unhide HG]; exact unhide B6⟩
                              · skip
                                by_cases h1 : 5 < o.kd
                                · have hn3 : ¬ (o.kd ≤ 5) := by omega
                                  have hf : opB o c.pt = false := by simp [opB, hn3]
                                  obtain rfl : q = true := by rw [unhide HQ, st_bad (unhide HKL) ((congrArg (prB c.pt) (unhide HPK)).trans (pr_bad (unhide HJL) ((congrArg (fun x => opB x c.pt) (unhide HOJ)).trans hf)))]; rfl
                                  clear HQ
                                  go_wp2
                                  go_returns
                                  exact ⟨by first | rfl | (simp; done), by rw [unhide HG]; exact unhide B6⟩
                                · skip
                                  by_cases h2 : o.pt < 0
                                  · have hn3 : ¬ (0 ≤ o.pt) := by omega
                                    have hf : opB o c.pt = false := by simp [opB, hn3]
                                    obtain rfl : q = true := by rw [unhide HQ, st_bad (unhide HKL) ((congrArg (prB c.pt) (unhide HPK)).trans (pr_bad (unhide HJL) ((congrArg (fun x => opB x c.pt) (unhide HOJ)).trans hf)))]; rfl
                                    clear HQ
                                    go_wp2
                                    go_returns
                                    exact ⟨by first | rfl | (simp; done), by rw [unhide HG]; exact unhide B6⟩
                                  · skip
                                    by_cases h3 : c.pt ≤ o.pt
                                    · have hn3 : ¬ (o.pt < c.pt) := by omega
                                      have hf : opB o c.pt = false := by simp [opB, hn3]
                                      obtain rfl : q = true := by rw [unhide HQ, st_bad (unhide HKL) ((congrArg (prB c.pt) (unhide HPK)).trans (pr_bad (unhide HJL) ((congrArg (fun x => opB x c.pt) (unhide HOJ)).trans hf)))]; rfl
                                      clear HQ
                                      go_wp2
                                      go_returns
                                      exact ⟨by first | rfl | (simp; done), by rw [unhide HG]; exact unhide B6⟩
                                    · skip
                                      by_cases h4 : o.tt < 0
                                      · have hn3 : ¬ (0 ≤ o.tt) := by omega
                                        have hf : opB o c.pt = false := by simp [opB, hn3]
                                        obtain rfl : q = true := by rw [unhide HQ, st_bad (unhide HKL) ((congrArg (prB c.pt) (unhide HPK)).trans (pr_bad (unhide HJL) ((congrArg (fun x => opB x c.pt) (unhide HOJ)).trans hf)))]; rfl
                                        clear HQ
                                        go_wp2
                                        go_returns
                                        exact ⟨by first | rfl | (simp; done), by rw [unhide HG]; exact unhide B6⟩
                                      · skip
                                        by_cases h5 : c.pt ≤ o.tt
                                        · have hn3 : ¬ (o.tt < c.pt) := by omega
                                          have hf : opB o c.pt = false := by simp [opB, hn3]
                                          obtain rfl : q = true := by rw [unhide HQ, st_bad (unhide HKL) ((congrArg (prB c.pt) (unhide HPK)).trans (pr_bad (unhide HJL) ((congrArg (fun x => opB x c.pt) (unhide HOJ)).trans hf)))]; rfl
                                          clear HQ
                                          go_wp2
                                          go_returns
                                          exact ⟨by first | rfl | (simp; done), by rw [unhide HG]; exact unhide B6⟩
                                        · skip
                                          by_cases h6 : o.ct < 0
                                          · have hn3 : ¬ (0 ≤ o.ct) := by omega
                                            have hf : opB o c.pt = false := by simp [opB, hn3]
                                            obtain rfl : q = true := by rw [unhide HQ, st_bad (unhide HKL) ((congrArg (prB c.pt) (unhide HPK)).trans (pr_bad (unhide HJL) ((congrArg (fun x => opB x c.pt) (unhide HOJ)).trans hf)))]; rfl
                                            clear HQ
                                            go_wp2
                                            go_returns
                                            exact ⟨by first | rfl | (simp; done), by rw [unhide HG]; exact unhide B6⟩
                                          · skip
                                            by_cases h7 : 16 < o.ct
                                            · have hn3 : ¬ (o.ct ≤ 16) := by omega
                                              have hf : opB o c.pt = false := by simp [opB, hn3]
                                              obtain rfl : q = true := by rw [unhide HQ, st_bad (unhide HKL) ((congrArg (prB c.pt) (unhide HPK)).trans (pr_bad (unhide HJL) ((congrArg (fun x => opB x c.pt) (unhide HOJ)).trans hf)))]; rfl
                                              clear HQ
                                              go_wp2
                                              go_returns
                                              exact ⟨by first | rfl | (simp; done), by rw [unhide HG]; exact unhide B6⟩
                                            · skip
                                              by_cases h8 : (64 : Int) < (o.s.size : Int)
                                              · have hn3 : ¬ ((o.s.size : Int) ≤ 64) := by omega
                                                have hf : opB o c.pt = false := by simp [opB, hn3]
                                                obtain rfl : q = true := by rw [unhide HQ, st_bad (unhide HKL) ((congrArg (prB c.pt) (unhide HPK)).trans (pr_bad (unhide HJL) ((congrArg (fun x => opB x c.pt) (unhide HOJ)).trans hf)))]; rfl
                                                clear HQ
                                                go_wp2
                                                go_returns
                                                exact ⟨by first | rfl | (simp; done), by rw [unhide HG]; exact unhide B6⟩
                                              · skip
                                                have hf : opB o c.pt = true := by simp [opB]; omega
                                                have HF := hide hf
                                                clear hf
                                                have q1 := unhide P2
                                                have q2 := unhide HJ
                                                have q3 : (j : Int) ≤ 9223372036854775806 := by omega
                                                go_wp2
                                                go_roundw
                                                case rel => exact ⟨j + 1, (by have := unhide HJ; omega), by go_num, (unhide TJ).trans (unhide T5), hide (fun j' hj' hlt => by
                                                  rcases Nat.lt_succ_iff_lt_or_eq.1 hlt with h | h
                                                  · exact unhide GJ j' hj' h
                                                  · subst h
                                                    exact (congrArg (fun x => opB x c.pt) (unhide HOJ)).trans (unhide HF))⟩
                                                case measure => have := unhide HJ; simp [intOf]; omega
                            · obtain rfl : j = m := by omega
                              have hf : prB c.pt p = true := by
                                have e := all_good (l := p.os) (f := fun o => opB o c.pt) (fun j' hj' => unhide GJ j' hj' (by have := unhide HM; omega))
                                have g0 := unhide P0
                                have g1 := unhide P1
                                have g2 := unhide P2
                                have hm := unhide HM
                                simp [prB, e, g0, g1, hm, g2]
                              have HF := hide hf
                              clear tj gj hf hjm
                              have q1 := unhide G6
                              have q2 := unhide HK
                              have q3 : (k : Int) ≤ 9223372036854775806 := by omega
                              go_wp2
                              go_roundw
                              case rel => exact ⟨k + 1, (by have := unhide HK; omega), by go_num, ((unhide TK).trans (unhide T2)).trans (unhide TJ), hide (fun j' hj' hlt => by
                                rcases Nat.lt_succ_iff_lt_or_eq.1 hlt with h | h
                                · exact unhide GK j' hj' h
                                · subst h
                                  exact (congrArg (prB c.pt) (unhide HPK)).trans (unhide HF))⟩
                              case measure => have := unhide HK; simp [intOf]; omega
                  · obtain rfl : k = n := by omega
                    obtain rfl : q = false := by
                      have e := all_good (l := c.ps) (f := fun p => prB c.pt p) (fun j' hj' => unhide GK j' hj' (by have := unhide HN; omega))
                      have g0 := unhide G0
                      have g1 := unhide G1
                      have g2 := unhide G2
                      have g3 := unhide G3
                      have g4 := unhide G4
                      have g5 := unhide G5
                      have g6 := unhide G6
                      have hn := unhide HN
                      rw [unhide HQ]
                      simp [stB, e, g0, g1, g2, g3, g4, g5, hn, g6]
                    have FF := hide (below_touch (unhide B0) tk (Nat.le_of_lt (unhide HW)) (fun k hk => hk.elim))
                    clear tk gk HQ hkn
                    go_wp2
                    go_ret
                    exact ⟨rfl, by rw [unhide HG]; exact unhide FF⟩
end Go.Proofs.Ytbonlonkienhaaa
