/-
  penstockref07's Size and DocCheck. Conditions: none beyond those of the parameters' types.
-/
import Derived.Test.YtmknecfoemebnaaCkz
namespace Go.Proofs.Ytmknecfoemebnaa
open Go.RowKit
set_option linter.unusedVariables false

set_option maxRecDepth 100000 in
theorem rsize_any (b : Bt) (a : Option Addr) (cap : Nat) (w : World) :
    Calls Try.prog 15 #[bv b a cap] w fun e w' => IntPost w (if b.ctl = true then 1 else b.vs.length) e w' := by
  obtain ⟨base, epoch, pid, pep, seq, txn, ctl, com, vs⟩ := b
  cases ctl
  · go_enter Try.func15, Try.ntmps15
    go_wp2
    go_returns
    exact ⟨rfl, (Below.refl _ _).alloc (Nat.le_refl _) _⟩
  · go_enter Try.func15, Try.ntmps15
    go_wp2
    go_returns
    exact ⟨rfl, (Below.refl _ _).alloc (Nat.le_refl _) _⟩

set_option maxRecDepth 100000 in
set_option maxHeartbeats 8000000 in
theorem doccheck_any (b : Bt) (a : Option Addr) (cap : Nat) (w : World) (hp : RAt w a b.vs) :
    Calls Try.prog 11 #[bv b a cap] w fun e w' => IntPost w (chk b) e w' := by
  have HP := hide hp
  clear hp
  obtain ⟨base, epoch, pid, pep, seq, txn, ctl, com, vs⟩ := b
  have XO := hide (chk_out (b := ⟨base, epoch, pid, pep, seq, txn, ctl, com, vs⟩))
  have XF := hide (chk_form (b := ⟨base, epoch, pid, pep, seq, txn, ctl, com, vs⟩))
  have XL := hide (chk_long (b := ⟨base, epoch, pid, pep, seq, txn, ctl, com, vs⟩))
  have XK := hide (chk_ok (b := ⟨base, epoch, pid, pep, seq, txn, ctl, com, vs⟩))
  show Calls Try.prog 11 #[.agg #[.int .i64 base, .int .i64 epoch, .int .u64 (pid : Int), .int .i64 pep, .int .i64 seq, .bool txn, .bool ctl, .bool com, .slice a vs.length cap]] w _
  generalize hn : vs.length = n
  have HN := hide hn
  clear hn
  have B0 : Hid (Below w.heap.size w ((w.alloc (.cells #[.int .i64 base, .int .i64 epoch, .int .u64 (pid : Int), .int .i64 pep, .int .i64 seq, .bool txn, .bool ctl, .bool com, .slice a n cap] 30)).alloc (.cells #[.int .i64 base, .int .i64 epoch, .int .i64 pep, .int .i64 seq] 3))) := ((Below.refl _ _).alloc (Nat.le_refl _) _).alloc (by simp) _
  go_enter Try.func11, Try.ntmps11
  go_wp2_with fail
  go_loop [16] (fun i => ∃ k : Nat, k ≤ 4 ∧ i = .int .i64 k ∧ (1 ≤ k → 0 ≤ base) ∧ (2 ≤ k → 0 ≤ epoch) ∧ (3 ≤ k → 0 ≤ pep) ∧ (4 ≤ k → 0 ≤ seq)) (fun i => 4 - (intOf i).toNat)
  case atStart => exact ⟨0, by omega, rfl, by omega, by omega, by omega, by omega⟩
  case round =>
    obtain ⟨k, hk, rfl, g1, g2, g3, g4⟩ := hrel
    have G := hide (And.intro g1 (And.intro g2 (And.intro g3 g4)))
    clear g1 g2 g3 g4
    have C : k = 0 ∨ k = 1 ∨ k = 2 ∨ k = 3 ∨ k = 4 := by omega
    rcases C with rfl | rfl | rfl | rfl | rfl
    · by_cases t : base < 0
      · have E := hide (unhide XO (.inl t))
        clear XO XF XL XK
        go_wp2
        go_returns
        exact IntPost.mk (by rw [unhide E]; rfl) (unhide B0)
      · have T := hide t
        go_wp2
        go_round
        case rel => exact ⟨1, by omega, by go_num, unhide (hide (by have := unhide G; have := unhide T; omega)), unhide (hide (by have := unhide G; have := unhide T; omega)), unhide (hide (by have := unhide G; have := unhide T; omega)), unhide (hide (by have := unhide G; have := unhide T; omega))⟩
        case measure => simp [intOf]
    · by_cases t : epoch < 0
      · have E := hide (unhide XO (.inr (.inl t)))
        clear XO XF XL XK
        go_wp2
        go_returns
        exact IntPost.mk (by rw [unhide E]; rfl) (unhide B0)
      · have T := hide t
        go_wp2
        go_round
        case rel => exact ⟨2, by omega, by go_num, unhide (hide (by have := unhide G; have := unhide T; omega)), unhide (hide (by have := unhide G; have := unhide T; omega)), unhide (hide (by have := unhide G; have := unhide T; omega)), unhide (hide (by have := unhide G; have := unhide T; omega))⟩
        case measure => simp [intOf]
    · by_cases t : pep < 0
      · have E := hide (unhide XO (.inr (.inr (.inl t))))
        clear XO XF XL XK
        go_wp2
        go_returns
        exact IntPost.mk (by rw [unhide E]; rfl) (unhide B0)
      · have T := hide t
        go_wp2
        go_round
        case rel => exact ⟨3, by omega, by go_num, unhide (hide (by have := unhide G; have := unhide T; omega)), unhide (hide (by have := unhide G; have := unhide T; omega)), unhide (hide (by have := unhide G; have := unhide T; omega)), unhide (hide (by have := unhide G; have := unhide T; omega))⟩
        case measure => simp [intOf]
    · by_cases t : seq < 0
      · have E := hide (unhide XO (.inr (.inr (.inr (.inl t)))))
        clear XO XF XL XK
        go_wp2
        go_returns
        exact IntPost.mk (by rw [unhide E]; rfl) (unhide B0)
      · have T := hide t
        go_wp2
        go_round
        case rel => exact ⟨4, by omega, by go_num, unhide (hide (by have := unhide G; have := unhide T; omega)), unhide (hide (by have := unhide G; have := unhide T; omega)), unhide (hide (by have := unhide G; have := unhide T; omega)), unhide (hide (by have := unhide G; have := unhide T; omega))⟩
        case measure => simp [intOf]
    · have h1 : 0 ≤ base := by have := unhide G; omega
      have h2 : 0 ≤ epoch := by have := unhide G; omega
      have h3 : 0 ≤ pep := by have := unhide G; omega
      have h4 : 0 ≤ seq := by have := unhide G; omega
      by_cases t5 : (1000 : Int) < pep
      · have E := hide (unhide XO (.inr (.inr (.inr (.inr (.inl t5))))))
        clear XO XF XL XK G
        go_wp2
        go_returns
        exact IntPost.mk (by rw [unhide E]; rfl) (unhide B0)
      · by_cases t6 : (1000 : Int) < (pid : Int)
        · have E := hide (unhide XO (.inr (.inr (.inr (.inr (.inr (by show 1000 < pid; omega)))))))
          clear XO XF XL XK G
          go_wp2
          go_returns
          exact IntPost.mk (by rw [unhide E]; rfl) (unhide B0)
        · have NO : ¬ outB ⟨base, epoch, pid, pep, seq, txn, ctl, com, vs⟩ := by simp only [outB]; omega
          have XF2 := hide (unhide XF NO)
          have XL2 := hide (unhide XL NO)
          have XK2 := hide (unhide XK NO)
          clear NO
          have D1 : n = 0 ∨ (0 : Int) < (n : Int) := by omega
          have D2 : pid = 0 ∨ ¬ (pid : Int) = 0 := by omega
          have D3 : ¬ seq = 0 ∨ seq = 0 := by omega
          have D4 : (0 : Int) < pep ∨ pep = 0 := by omega
          cases ctl
          · rcases D1 with rfl | t1
            · clear D2 D3 D4
              have E := hide (unhide XF2 (.inr (.inr ⟨rfl, .inl (unhide HN)⟩)))
              clear XF2 XL2 XK2 XO XF XL XK G
              go_wp2
              go_returns
              exact IntPost.mk (by rw [unhide E]; rfl) (unhide B0)
            · have t2 : ¬ (n : Int) = 0 := by omega
              cases com
              · rcases D2 with rfl | t3
                · cases txn
                  · rcases D4 with t4 | rfl
                    · clear D3
                      have E := hide (unhide XF2 (.inl ⟨rfl, .inr (.inl (by show pep ≠ 0; omega))⟩))
                      clear XF2 XL2 XK2 XO XF XL XK G
                      go_wp2
                      go_returns
                      exact IntPost.mk (by rw [unhide E]; rfl) (unhide B0)
                    · rcases D3 with t5 | rfl
                      · have t5' : (0 : Int) < seq := by omega
                        have E := hide (unhide XF2 (.inl ⟨rfl, .inr (.inr t5)⟩))
                        clear XF2 XL2 XK2 XO XF XL XK G
                        go_wp2
                        go_returns
                        exact IntPost.mk (by rw [unhide E]; rfl) (unhide B0)
                      · have NF : ¬ (prodB ⟨base, epoch, 0, 0, 0, false, false, false, vs⟩ ∨ kindB ⟨base, epoch, 0, 0, 0, false, false, false, vs⟩) := by
                          have hv := unhide HN
                          intro h
                          rcases h with ⟨h1, h2 | h2 | h2⟩ | ⟨h1, h2 | h2 | h2 | h2⟩ | ⟨h1, h2 | h2⟩
                          all_goals simp only at h1 h2
                          all_goals first | omega | (cases h1; done) | (cases h2; done) | exact absurd rfl h2
                        have XL3 := hide (unhide XL2 NF)
                        have XK3 := hide (unhide XK2 NF)
                        clear NF XF2 XL2 XK2
                        by_cases h16 : (16 : Int) < (n : Int)
                        · have E := hide (unhide XL3 (.inl (by have := unhide HN; show 16 < vs.length; omega)))
                          clear XL3 XK3 XO XF XL XK G
                          go_wp2
                          go_returns
                          exact IntPost.mk (by rw [unhide E]; rfl) (unhide B0)
                        · clear XO XF XL XK G
                          go_wp2_with fail
                          go_loop [5] (fun i => ∃ k : Nat, k ≤ n ∧ i = .int .i64 k ∧ ∀ j, j < k → (vs.getD j []).length ≤ 64) (fun i => n - (intOf i).toNat)
                          case atStart => exact ⟨0, Nat.zero_le _, rfl, fun j hj => by omega⟩
                          case round =>
                            obtain ⟨k, hk, rfl, hall⟩ := hrel
                            have HA := hide hall
                            clear hall
                            by_cases hkc : k < n
                            · have hkc' : (k : Int) < (n : Int) := by omega
                              have hkv : k < vs.length := by have := unhide HN; omega
                              obtain ⟨bb, off, x, c, rfl, hlt, hcell, _, _⟩ := (unhide HP).cell hkv
                              have LG := hide (long_at hkv)
                              have HK := hide hkv
                              clear hkv
                              by_cases h64 : 64 < (vs.getD k []).length
                              · have E := hide (unhide XL3 (unhide LG h64))
                                clear XL3 XK3 LG
                                generalize vs.getD k [] = p at *
                                have h64' : (64 : Int) < (p.length : Int) := by omega
                                go_wp2
                                go_returns
                                exact IntPost.mk (by rw [unhide E]; rfl) (unhide B0)
                              · have HA2 : Hid (∀ j, j < k + 1 → (vs.getD j []).length ≤ 64) := fun j hj => by
                                  by_cases e : j = k
                                  · subst e; omega
                                  · exact unhide HA j (by omega)
                                clear LG
                                generalize vs.getD k [] = p at *
                                have h64' : ¬ (64 : Int) < (p.length : Int) := by omega
                                go_wp2
                                go_round
                                case rel => exact ⟨k + 1, by omega, by go_num, unhide HA2⟩
                                case measure => simp [intOf]; omega
                            · obtain rfl : k = n := by omega
                              have E := hide (unhide XK3 (long_no (by have := unhide HN; omega) (fun j hj => unhide HA j (by have := unhide HN; omega))))
                              clear XL3 XK3
                              go_wp2
                              go_returns
                              exact IntPost.mk (by rw [unhide E]; rfl) (unhide B0)
                  · clear D3 D4
                    have E := hide (unhide XF2 (.inl ⟨rfl, .inl rfl⟩))
                    clear XF2 XL2 XK2 XO XF XL XK G
                    go_wp2
                    go_returns
                    exact IntPost.mk (by rw [unhide E]; rfl) (unhide B0)
                · have NF : ¬ (prodB ⟨base, epoch, pid, pep, seq, txn, false, false, vs⟩ ∨ kindB ⟨base, epoch, pid, pep, seq, txn, false, false, vs⟩) := by
                    have hv := unhide HN
                    intro h
                    rcases h with ⟨h1, h2 | h2 | h2⟩ | ⟨h1, h2 | h2 | h2 | h2⟩ | ⟨h1, h2 | h2⟩
                    all_goals simp only at h1 h2
                    all_goals first | omega | (cases h1; done) | (cases h2; done) | exact absurd rfl h2
                  have XL3 := hide (unhide XL2 NF)
                  have XK3 := hide (unhide XK2 NF)
                  clear NF XF2 XL2 XK2 D3 D4
                  by_cases h16 : (16 : Int) < (n : Int)
                  · have E := hide (unhide XL3 (.inl (by have := unhide HN; show 16 < vs.length; omega)))
                    clear XL3 XK3 XO XF XL XK G
                    go_wp2
                    go_returns
                    exact IntPost.mk (by rw [unhide E]; rfl) (unhide B0)
                  · clear XO XF XL XK G
                    go_wp2_with fail
                    go_loop [5] (fun i => ∃ k : Nat, k ≤ n ∧ i = .int .i64 k ∧ ∀ j, j < k → (vs.getD j []).length ≤ 64) (fun i => n - (intOf i).toNat)
                    case atStart => exact ⟨0, Nat.zero_le _, rfl, fun j hj => by omega⟩
                    case round =>
                      obtain ⟨k, hk, rfl, hall⟩ := hrel
                      have HA := hide hall
                      clear hall
                      by_cases hkc : k < n
                      · have hkc' : (k : Int) < (n : Int) := by omega
                        have hkv : k < vs.length := by have := unhide HN; omega
                        obtain ⟨bb, off, x, c, rfl, hlt, hcell, _, _⟩ := (unhide HP).cell hkv
                        have LG := hide (long_at hkv)
                        have HK := hide hkv
                        clear hkv
                        by_cases h64 : 64 < (vs.getD k []).length
                        · have E := hide (unhide XL3 (unhide LG h64))
                          clear XL3 XK3 LG
                          generalize vs.getD k [] = p at *
                          have h64' : (64 : Int) < (p.length : Int) := by omega
                          go_wp2
                          go_returns
                          exact IntPost.mk (by rw [unhide E]; rfl) (unhide B0)
                        · have HA2 : Hid (∀ j, j < k + 1 → (vs.getD j []).length ≤ 64) := fun j hj => by
                            by_cases e : j = k
                            · subst e; omega
                            · exact unhide HA j (by omega)
                          clear LG
                          generalize vs.getD k [] = p at *
                          have h64' : ¬ (64 : Int) < (p.length : Int) := by omega
                          go_wp2
                          go_round
                          case rel => exact ⟨k + 1, by omega, by go_num, unhide HA2⟩
                          case measure => simp [intOf]; omega
                      · obtain rfl : k = n := by omega
                        have E := hide (unhide XK3 (long_no (by have := unhide HN; omega) (fun j hj => unhide HA j (by have := unhide HN; omega))))
                        clear XL3 XK3
                        go_wp2
                        go_returns
                        exact IntPost.mk (by rw [unhide E]; rfl) (unhide B0)
              · clear D2 D3 D4
                have E := hide (unhide XF2 (.inr (.inr ⟨rfl, .inr rfl⟩)))
                clear XF2 XL2 XK2 XO XF XL XK G
                go_wp2
                go_returns
                exact IntPost.mk (by rw [unhide E]; rfl) (unhide B0)
          · rcases D1 with rfl | t1
            · cases txn
              · clear D2 D3 D4
                have E := hide (unhide XF2 (.inr (.inl ⟨rfl, .inr (.inl rfl)⟩)))
                clear XF2 XL2 XK2 XO XF XL XK G
                go_wp2
                go_returns
                exact IntPost.mk (by rw [unhide E]; rfl) (unhide B0)
              · rcases D2 with rfl | t3
                · clear D3 D4
                  have E := hide (unhide XF2 (.inr (.inl ⟨rfl, .inr (.inr (.inl rfl))⟩)))
                  clear XF2 XL2 XK2 XO XF XL XK G
                  go_wp2
                  go_returns
                  exact IntPost.mk (by rw [unhide E]; rfl) (unhide B0)
                · rcases D3 with t5 | rfl
                  · clear D4
                    have E := hide (unhide XF2 (.inr (.inl ⟨rfl, .inr (.inr (.inr t5))⟩)))
                    have t6 : (seq == 0) = false := by simpa using t5
                    have t7 : (seq != 0) = true := by simpa using t5
                    clear h1 h2 h3 h4
                    clear XF2 XL2 XK2 XO XF XL XK G
                    go_wp2
                    go_returns
                    exact IntPost.mk (by rw [unhide E]; rfl) (unhide B0)
                  · have NF : ¬ (prodB ⟨base, epoch, pid, pep, 0, true, true, com, vs⟩ ∨ kindB ⟨base, epoch, pid, pep, 0, true, true, com, vs⟩) := by
                      have hv := unhide HN
                      intro h
                      rcases h with ⟨h1, h2 | h2 | h2⟩ | ⟨h1, h2 | h2 | h2 | h2⟩ | ⟨h1, h2 | h2⟩
                      all_goals simp only at h1 h2
                      all_goals first | omega | (cases h1; done) | (cases h2; done) | exact absurd rfl h2
                    have XL3 := hide (unhide XL2 NF)
                    have XK3 := hide (unhide XK2 NF)
                    clear NF XF2 XL2 XK2 D4
                    have E := hide (unhide XK3 (long_no (by have := unhide HN; omega) (fun j hj => by have := unhide HN; omega)))
                    clear XO XF XL XK G XL3 XK3
                    go_wp2_with fail
                    go_loop [5] (fun i => i = .int .i64 0) (fun _ => 0)
                    case atStart => rfl
                    case round =>
                      subst hrel
                      go_wp2
                      go_returns
                      exact IntPost.mk (by rw [unhide E]; rfl) (unhide B0)
            · clear D2 D3 D4
              have E := hide (unhide XF2 (.inr (.inl ⟨rfl, .inl (by have := unhide HN; show 0 < vs.length; omega)⟩)))
              clear XF2 XL2 XK2 XO XF XL XK G
              go_wp2
              go_returns
              exact IntPost.mk (by rw [unhide E]; rfl) (unhide B0)
end Go.Proofs.Ytmknecfoemebnaa
