/-
  penstockref07's DocEncode: a batch's form, or the refusal. Conditions: none beyond those of the parameters' types.
-/
import Derived.Test.YtblmondkdcpkaaaZ07
import Derived.Test.YtblmondkdcpkaaaZ08

/-
  penstockref07's Size and DocCheck. Conditions: none beyond those of the parameters' types.
-/
namespace Go.Proofs.Ytblmondkdcpkaaa
open Go.RowKit
set_option linter.unusedVariables false

set_option maxRecDepth 100000 in
set_option maxHeartbeats 8000000 in
theorem doccheck_any (b : Bt) (a : Option Addr) (cap : Nat) (w : World) (hp : RAt w a b.vs) :
    Calls Try.prog 56 #[bv b a cap] w fun e w' => IntPost w (chk b) e w' := by
  have HP := hide hp
  clear hp
  obtain ⟨base, epoch, pid, pep, seq, txn, ctl, com, vs⟩ := b
  have XO := hide (chk_out (b := ⟨base, epoch, pid, pep, seq, txn, ctl, com, vs⟩))
  have XF := hide (chk_form (b := ⟨base, epoch, pid, pep, seq, txn, ctl, com, vs⟩))
  have XL := hide (chk_long (b := ⟨base, epoch, pid, pep, seq, txn, ctl, com, vs⟩))
  have XK := hide (chk_ok (b := ⟨base, epoch, pid, pep, seq, txn, ctl, com, vs⟩))
  show Calls Try.prog 56 #[.agg #[.int .i64 base, .int .i64 epoch, .int .u64 (pid : Int), .int .i64 pep, .int .i64 seq, .bool txn, .bool ctl, .bool com, .slice a vs.length cap]] w _
  generalize hn : vs.length = n
  have HN := hide hn
  clear hn
  have B0 : Hid (Below w.heap.size w ((w.alloc (.cells #[.int .i64 base, .int .i64 epoch, .int .u64 (pid : Int), .int .i64 pep, .int .i64 seq, .bool txn, .bool ctl, .bool com, .slice a n cap] 38)).alloc (.cells #[.int .i64 base, .int .i64 epoch, .int .i64 pep, .int .i64 seq] 3))) := ((Below.refl _ _).alloc (Nat.le_refl _) _).alloc (by simp) _
  go_enter Try.func56, Try.ntmps56
  go_wp2_with fail
  go_loop [16] (fun i => ∃ k : Nat, k ≤ 4 ∧ i = .int .i64 k ∧ (1 ≤ k → 0 ≤ base) ∧ (2 ≤ k → 0 ≤ epoch) ∧ (3 ≤ k → 0 ≤ pep) ∧ (4 ≤ k → 0 ≤ seq)) (fun i => 4 - (intOf i).toNat)
  case atStart => exact ⟨0, by omega, rfl, by omega, by omega, by omega, by omega⟩
  case round =>
    obtain ⟨k, hk, rfl, g1, g2, g3, g4⟩ := hrel
    have G := hide (And.intro g1 (And.intro g2 (And.intro g3 g4)))
    clear g1 g2 g3 g4
    have C : k = 0 ∨ k = 1 ∨ k = 2 ∨ k = 3 ∨ k = 4 := by omega
    rcases C with rfl | rfl | rfl | rfl | rfl
    · by_cases t : base < 0
      · have E := hide (unhide XO (.inl t))
        clear XO XF XL XK
        go_wp2
        go_returns
        exact IntPost.mk (by rw [unhide E]; rfl) (unhide B0)
      · have T := hide t
        go_wp2
        go_round
        case rel => exact ⟨1, by omega, by go_num, unhide (hide (by have := unhide G; have := unhide T; omega)), unhide (hide (by have := unhide G; have := unhide T; omega)), unhide (hide (by have := unhide G; have := unhide T; omega)), unhide (hide (by have := unhide G; have := unhide T; omega))⟩
        case measure => simp [intOf]
    · by_cases t : epoch < 0
      · have E := hide (unhide XO (.inr (.inl t)))
        clear XO XF XL XK
        go_wp2
        go_returns
        exact IntPost.mk (by rw [unhide E]; rfl) (unhide B0)
      · have T := hide t
        go_wp2
        go_round
        case rel => exact ⟨2, by omega, by go_num, unhide (hide (by have := unhide G; have := unhide T; omega)), unhide (hide (by have := unhide G; have := unhide T; omega)), unhide (hide (by have := unhide G; have := unhide T; omega)), unhide (hide (by have := unhide G; have := unhide T; omega))⟩
        case measure => simp [intOf]
    · by_cases t : pep < 0
      · have E := hide (unhide XO (.inr (.inr (.inl t))))
        clear XO XF XL XK
        go_wp2
        go_returns
        exact IntPost.mk (by rw [unhide E]; rfl) (unhide B0)
      · have T := hide t
        go_wp2
        go_round
        case rel => exact ⟨3, by omega, by go_num, unhide (hide (by have := unhide G; have := unhide T; omega)), unhide (hide (by have := unhide G; have := unhide T; omega)), unhide (hide (by have := unhide G; have := unhide T; omega)), unhide (hide (by have := unhide G; have := unhide T; omega))⟩
        case measure => simp [intOf]
    · by_cases t : seq < 0
      · have E := hide (unhide XO (.inr (.inr (.inr (.inl t)))))
        clear XO XF XL XK
        go_wp2
        go_returns
        exact IntPost.mk (by rw [unhide E]; rfl) (unhide B0)
      · have T := hide t
        go_wp2
        go_round
        case rel => exact ⟨4, by omega, by go_num, unhide (hide (by have := unhide G; have := unhide T; omega)), unhide (hide (by have := unhide G; have := unhide T; omega)), unhide (hide (by have := unhide G; have := unhide T; omega)), unhide (hide (by have := unhide G; have := unhide T; omega))⟩
        case measure => simp [intOf]
    · have h1 : 0 ≤ base := by have := unhide G; omega
      have h2 : 0 ≤ epoch := by have := unhide G; omega
      have h3 : 0 ≤ pep := by have := unhide G; omega
      have h4 : 0 ≤ seq := by have := unhide G; omega
      by_cases t5 : (1000 : Int) < pep
      · have E := hide (unhide XO (.inr (.inr (.inr (.inr (.inl t5))))))
        clear XO XF XL XK G
        go_wp2
        go_returns
        exact IntPost.mk (by rw [unhide E]; rfl) (unhide B0)
      · by_cases t6 : (1000 : Int) < (pid : Int)
        · have E := hide (unhide XO (.inr (.inr (.inr (.inr (.inr (by show 1000 < pid; omega)))))))
          clear XO XF XL XK G
          go_wp2
          go_returns
          exact IntPost.mk (by rw [unhide E]; rfl) (unhide B0)
        · have NO : ¬ outB ⟨base, epoch, pid, pep, seq, txn, ctl, com, vs⟩ := by simp only [outB]; omega
          have XF2 := hide (unhide XF NO)
          have XL2 := hide (unhide XL NO)
          have XK2 := hide (unhide XK NO)
          clear NO
          have D1 : n = 0 ∨ (0 : Int) < (n : Int) := by omega
          have D2 : pid = 0 ∨ ¬ (pid : Int) = 0 := by omega
          have D3 : ¬ seq = 0 ∨ seq = 0 := by omega
          have D4 : (0 : Int) < pep ∨ pep = 0 := by omega
          cases ctl
          · rcases D1 with rfl | t1
            · clear D2 D3 D4
              have E := hide (unhide XF2 (.inr (.inr ⟨rfl, .inl (unhide HN)⟩)))
              clear XF2 XL2 XK2 XO XF XL XK G
              go_wp2
              go_returns
              exact IntPost.mk (by rw [unhide E]; rfl) (unhide B0)
            · have t2 : ¬ (n : Int) = 0 := by omega
              cases com
              · rcases D2 with rfl | t3
                · cases txn
                  · rcases D4 with t4 | rfl
                    · clear D3
                      have E := hide (unhide XF2 (.inl ⟨rfl, .inr (.inl (by show pep ≠ 0; omega))⟩))
                      clear XF2 XL2 XK2 XO XF XL XK G
                      go_wp2
                      go_returns
                      exact IntPost.mk (by rw [unhide E]; rfl) (unhide B0)
                    · rcases D3 with t5 | rfl
                      · have t5' : (0 : Int) < seq := by omega
                        have E := hide (unhide XF2 (.inl ⟨rfl, .inr (.inr t5)⟩))
                        clear XF2 XL2 XK2 XO XF XL XK G
                        go_wp2
                        go_returns
                        exact IntPost.mk (by rw [unhide E]; rfl) (unhide B0)
                      · have NF : ¬ (prodB ⟨base, epoch, 0, 0, 0, false, false, false, vs⟩ ∨ kindB ⟨base, epoch, 0, 0, 0, false, false, false, vs⟩) := by
                          have hv := unhide HN
                          intro h
                          rcases h with ⟨h1, h2 | h2 | h2⟩ | ⟨h1, h2 | h2 | h2 | h2⟩ | ⟨h1, h2 | h2⟩
                          all_goals simp only at h1 h2
                          all_goals first | omega | (cases h1; done) | (cases h2; done) | exact absurd rfl h2
                        have XL3 := hide (unhide XL2 NF)
                        have XK3 := hide (unhide XK2 NF)
                        clear NF XF2 XL2 XK2
                        by_cases h16 : (16 : Int) < (n : Int)
                        · have E := hide (unhide XL3 (.inl (by have := unhide HN; show 16 < vs.length; omega)))
                          clear XL3 XK3 XO XF XL XK G
                          go_wp2
                          go_returns
                          exact IntPost.mk (by rw [unhide E]; rfl) (unhide B0)
                        · clear XO XF XL XK G
                          go_wp2_with fail
                          go_loop [5] (fun i => ∃ k : Nat, k ≤ n ∧ i = .int .i64 k ∧ ∀ j, j < k → (vs.getD j []).length ≤ 64) (fun i => n - (intOf i).toNat)
                          case atStart => exact ⟨0, Nat.zero_le _, rfl, fun j hj => by omega⟩
                          case round =>
                            obtain ⟨k, hk, rfl, hall⟩ := hrel
                            have HA := hide hall
                            clear hall
                            by_cases hkc : k < n
                            · have hkc' : (k : Int) < (n : Int) := by omega
                              have hkv : k < vs.length := by have := unhide HN; omega
                              obtain ⟨bb, off, x, c, rfl, hlt, hcell, _, _⟩ := (unhide HP).cell hkv
                              have LG := hide (long_at hkv)
                              have HK := hide hkv
                              clear hkv
                              by_cases h64 : 64 < (vs.getD k []).length
                              · have E := hide (unhide XL3 (unhide LG h64))
                                clear XL3 XK3 LG
                                generalize vs.getD k [] = p at *
                                have h64' : (64 : Int) < (p.length : Int) := by omega
                                go_wp2
                                go_returns
                                exact IntPost.mk (by rw [unhide E]; rfl) (unhide B0)
                              · have HA2 : Hid (∀ j, j < k + 1 → (vs.getD j []).length ≤ 64) := fun j hj => by
                                  by_cases e : j = k
                                  · subst e; omega
                                  · exact unhide HA j (by omega)
                                clear LG
                                generalize vs.getD k [] = p at *
                                have h64' : ¬ (64 : Int) < (p.length : Int) := by omega
                                go_wp2
                                go_round
                                case rel => exact ⟨k + 1, by omega, by go_num, unhide HA2⟩
                                case measure => simp [intOf]; omega
                            · obtain rfl : k = n := by omega
                              have E := hide (unhide XK3 (long_no (by have := unhide HN; omega) (fun j hj => unhide HA j (by have := unhide HN; omega))))
                              clear XL3 XK3
                              go_wp2
                              go_returns
                              exact IntPost.mk (by rw [unhide E]; rfl) (unhide B0)
                  · clear D3 D4
                    have E := hide (unhide XF2 (.inl ⟨rfl, .inl rfl⟩))
                    clear XF2 XL2 XK2 XO XF XL XK G
                    go_wp2
                    go_returns
                    exact IntPost.mk (by rw [unhide E]; rfl) (unhide B0)
                · have NF : ¬ (prodB ⟨base, epoch, pid, pep, seq, txn, false, false, vs⟩ ∨ kindB ⟨base, epoch, pid, pep, seq, txn, false, false, vs⟩) := by
                    have hv := unhide HN
                    intro h
                    rcases h with ⟨h1, h2 | h2 | h2⟩ | ⟨h1, h2 | h2 | h2 | h2⟩ | ⟨h1, h2 | h2⟩
                    all_goals simp only at h1 h2
                    all_goals first | omega | (cases h1; done) | (cases h2; done) | exact absurd rfl h2
                  have XL3 := hide (unhide XL2 NF)
                  have XK3 := hide (unhide XK2 NF)
                  clear NF XF2 XL2 XK2 D3 D4
                  by_cases h16 : (16 : Int) < (n : Int)
                  · have E := hide (unhide XL3 (.inl (by have := unhide HN; show 16 < vs.length; omega)))
                    clear XL3 XK3 XO XF XL XK G
                    go_wp2
                    go_returns
                    exact IntPost.mk (by rw [unhide E]; rfl) (unhide B0)
                  · clear XO XF XL XK G
                    go_wp2_with fail
                    go_loop [5] (fun i => ∃ k : Nat, k ≤ n ∧ i = .int .i64 k ∧ ∀ j, j < k → (vs.getD j []).length ≤ 64) (fun i => n - (intOf i).toNat)
                    case atStart => exact ⟨0, Nat.zero_le _, rfl, fun j hj => by omega⟩
                    case round =>
                      obtain ⟨k, hk, rfl, hall⟩ := hrel
                      have HA := hide hall
                      clear hall
                      by_cases hkc : k < n
                      · have hkc' : (k : Int) < (n : Int) := by omega
                        have hkv : k < vs.length := by have := unhide HN; omega
                        obtain ⟨bb, off, x, c, rfl, hlt, hcell, _, _⟩ := (unhide HP).cell hkv
                        have LG := hide (long_at hkv)
                        have HK := hide hkv
                        clear hkv
                        by_cases h64 : 64 < (vs.getD k []).length
                        · have E := hide (unhide XL3 (unhide LG h64))
                          clear XL3 XK3 LG
                          generalize vs.getD k [] = p at *
                          have h64' : (64 : Int) < (p.length : Int) := by omega
                          go_wp2
                          go_returns
                          exact IntPost.mk (by rw [unhide E]; rfl) (unhide B0)
                        · have HA2 : Hid (∀ j, j < k + 1 → (vs.getD j []).length ≤ 64) := fun j hj => by
                            by_cases e : j = k
                            · subst e; omega
                            · exact unhide HA j (by omega)
                          clear LG
                          generalize vs.getD k [] = p at *
                          have h64' : ¬ (64 : Int) < (p.length : Int) := by omega
                          go_wp2
                          go_round
                          case rel => exact ⟨k + 1, by omega, by go_num, unhide HA2⟩
                          case measure => simp [intOf]; omega
                      · obtain rfl : k = n := by omega
                        have E := hide (unhide XK3 (long_no (by have := unhide HN; omega) (fun j hj => unhide HA j (by have := unhide HN; omega))))
                        clear XL3 XK3
                        go_wp2
                        go_returns
                        exact IntPost.mk (by rw [unhide E]; rfl) (unhide B0)
              · clear D2 D3 D4
                have E := hide (unhide XF2 (.inr (.inr ⟨rfl, .inr rfl⟩)))
                clear XF2 XL2 XK2 XO XF XL XK G
                go_wp2
                go_returns
                exact IntPost.mk (by rw [unhide E]; rfl) (unhide B0)
          · rcases D1 with rfl | t1
            · cases txn
              · clear D2 D3 D4
                have E := hide (unhide XF2 (.inr (.inl ⟨rfl, .inr (.inl rfl)⟩)))
                clear XF2 XL2 XK2 XO XF XL XK G
                go_wp2
                go_returns
                exact IntPost.mk (by rw [unhide E]; rfl) (unhide B0)
              · rcases D2 with rfl | t3
                · clear D3 D4
                  have E := hide (unhide XF2 (.inr (.inl ⟨rfl, .inr (.inr (.inl rfl))⟩)))
                  clear XF2 XL2 XK2 XO XF XL XK G
                  go_wp2
                  go_returns
                  exact IntPost.mk (by rw [unhide E]; rfl) (unhide B0)
                · rcases D3 with t5 | rfl
                  · clear D4
                    have E := hide (unhide XF2 (.inr (.inl ⟨rfl, .inr (.inr (.inr t5))⟩)))
                    have t6 : (seq == 0) = false := by simpa using t5
                    have t7 : (seq != 0) = true := by simpa using t5
                    clear h1 h2 h3 h4
                    clear XF2 XL2 XK2 XO XF XL XK G
                    go_wp2
                    go_returns
                    exact IntPost.mk (by rw [unhide E]; rfl) (unhide B0)
                  · have NF : ¬ (prodB ⟨base, epoch, pid, pep, 0, true, true, com, vs⟩ ∨ kindB ⟨base, epoch, pid, pep, 0, true, true, com, vs⟩) := by
                      have hv := unhide HN
                      intro h
                      rcases h with ⟨h1, h2 | h2 | h2⟩ | ⟨h1, h2 | h2 | h2 | h2⟩ | ⟨h1, h2 | h2⟩
                      all_goals simp only at h1 h2
                      all_goals first | omega | (cases h1; done) | (cases h2; done) | exact absurd rfl h2
                    have XL3 := hide (unhide XL2 NF)
                    have XK3 := hide (unhide XK2 NF)
                    clear NF XF2 XL2 XK2 D4
                    have E := hide (unhide XK3 (long_no (by have := unhide HN; omega) (fun j hj => by have := unhide HN; omega)))
                    clear XO XF XL XK G XL3 XK3
                    go_wp2_with fail
                    go_loop [5] (fun i => i = .int .i64 0) (fun _ => 0)
                    case atStart => rfl
                    case round =>
                      subst hrel
                      go_wp2
                      go_returns
                      exact IntPost.mk (by rw [unhide E]; rfl) (unhide B0)
            · clear D2 D3 D4
              have E := hide (unhide XF2 (.inr (.inl ⟨rfl, .inl (by have := unhide HN; show 0 < vs.length; omega)⟩)))
              clear XF2 XL2 XK2 XO XF XL XK G
              go_wp2
              go_returns
              exact IntPost.mk (by rw [unhide E]; rfl) (unhide B0)
end Go.Proofs.Ytblmondkdcpkaaa


namespace Go.Proofs.Ytblmondkdcpkaaa
open Go.RowKit
set_option linter.unusedVariables false

theorem eflag_enc (q : Bool) (w : World) : Calls Try.prog 19 #[.bool q] w fun e w' => ∃ v, e = .returned v ∧ Fresh w w' v (enc q.toNat) := by
  rw [← flag_enc]; exact eflag_any q w

set_option maxRecDepth 100000 in
set_option maxHeartbeats 8000000 in
theorem docencode_any (b : Bt) (a : Option Addr) (cap : Nat) (w : World) (hp : RAt w a b.vs) (hf : b.Fits) :
    Calls Try.prog 38 #[bv b a cap] w fun e w' => EnPost w b e w' := by
  have HP := hide hp
  have HF := hide hf
  have LN := hide (encB_len hf)
  have CZ := hide (chk_zero (b := b))
  have KC := hide (fun w1 (hb : Below w.heap.size w w1) => doccheck_any b a cap w1 (hp.later hb))
  clear hp hf
  obtain ⟨base, epoch, pid, pep, seq, txn, ctl, com, vs⟩ := b
  have B0 : Hid (Below w.heap.size w (w.alloc (.cells #[.int .i64 base, .int .i64 epoch, .int .u64 (pid : Int), .int .i64 pep, .int .i64 seq, .bool txn, .bool ctl, .bool com, .slice a vs.length cap] 38))) := (Below.refl _ _).alloc (Nat.le_refl _) _
  have BX0 := hide (Box.new w ⟨base, epoch, pid, pep, seq, txn, ctl, com, vs⟩ a cap)
  go_enter Try.func38, Try.ntmps38
  go_wp2_with fail
  refine (unhide KC _ (unhide B0)).mono ?_
  rintro e w1 ⟨rfl, b1⟩
  have B1 := hide ((unhide B0).trans (b1.mono (unhide B0).size))
  have BX1 := hide ((unhide BX0).later b1)
  have P1 := hide ((unhide HP).later (unhide B1))
  clear b1 B0 BX0 HP KC
  by_cases hz : chk ⟨base, epoch, pid, pep, seq, txn, ctl, com, vs⟩ = 0
  · have HZ := hide hz
    have hlen := unhide LN hz
    have hcz := unhide CZ hz
    have h16 : vs.length ≤ 16 := hcz.1
    have H64 := hide hcz.2
    have LE := hide hlen
    have e1 := enc_len10 (zig_lt (unhide HF).base.1 (unhide HF).base.2)
    have e2 := enc_len10 (zig_lt (unhide HF).epoch.1 (unhide HF).epoch.2)
    have e3 := enc_len10 (unhide HF).pid
    have e4 := enc_len10 (zig_lt (unhide HF).pep.1 (unhide HF).pep.2)
    have e5 := enc_len10 (zig_lt (unhide HF).seq.1 (unhide HF).seq.2)
    have e6 := enc_len10 (bool_lt txn)
    have e7 := enc_len10 (bool_lt ctl)
    have e8 := enc_len10 (bool_lt com)
    have e9 := enc_len10 (n := vs.length) (by omega)
    simp only at e1 e2 e3 e4 e5 e6 e7 e8 e9
    rw [hz]
    clear hz hlen hcz LN CZ
    have k1 := (unhide BX1).c0
    simp only at k1
    go_wp2_with fail
    refine (eint_any base _ (unhide HF).base.1 (unhide HF).base.2).mono ?_
    rintro e w2 ⟨v2, rfl, f2⟩
    have F2 := hide f2
    have hl2 : (enc (zig base)).length ≤ 10 := e1
    clear f2 k1
    obtain ⟨L2, hL2⟩ : ∃ L, L = enc (zig base) := ⟨_, rfl⟩
    have HL2 := hide hL2
    rw [← hL2] at F2 hl2
    clear hL2
    have k2 := ((unhide BX1).later (unhide F2).2.2).c1
    simp only at k2
    go_wp2_with fail
    refine (eint_any epoch _ (unhide HF).epoch.1 (unhide HF).epoch.2).mono ?_
    rintro e wx2 ⟨vx2, rfl, fx2⟩
    obtain ⟨ax2, cx2, rfl, lx2, _, _, nx2, _⟩ := fx2.1.parts
    have BB2 := hide fx2.2.2
    have LX2 := hide lx2
    have R2 := hide ((unhide F2).1.later fx2.2.2)
    clear fx2 lx2 k2
    go_wp2_with (at_builtin; refine wpList_row _ rfl (.tmp 15) (.tmp 18) rfl v2 L2 rfl (unhide R2) ax2 cx2 (enc (zig epoch)) rfl (unhide LX2) nx2 (by omega) ?_)
    intro v3 w3 r3 t3 m3
    have F3 := hide (fresh_app (unhide F2) (unhide BB2) r3 t3 m3)
    have hl3 : (L2 ++ enc (zig epoch)).length ≤ 20 := by rw [List.length_append]; omega
    obtain ⟨L3, hL3⟩ : ∃ L, L = L2 ++ enc (zig epoch) := ⟨_, rfl⟩
    have HL3 := hide hL3
    rw [← hL3] at F3 hl3
    obtain ⟨y3, n3, q3, rfl⟩ := r3.shape
    clear hL3 r3 t3 m3 BB2 LX2 R2 F2 hl2
    have k3 := ((unhide BX1).later (unhide F3).2.2).c2
    simp only at k3
    go_wp2_with fail
    refine (euint_any pid _ (unhide HF).pid).mono ?_
    rintro e wx3 ⟨vx3, rfl, fx3⟩
    obtain ⟨ax3, cx3, rfl, lx3, _, _, nx3, _⟩ := fx3.1.parts
    have BB3 := hide fx3.2.2
    have LX3 := hide lx3
    have R3 := hide ((unhide F3).1.later fx3.2.2)
    clear fx3 lx3 k3
    go_wp2_with (at_builtin; refine wpList_row _ rfl (.tmp 20) (.tmp 23) rfl (.slice y3 n3 q3) L3 rfl (unhide R3) ax3 cx3 (enc pid) rfl (unhide LX3) nx3 (by omega) ?_)
    intro v4 w4 r4 t4 m4
    have F4 := hide (fresh_app (unhide F3) (unhide BB3) r4 t4 m4)
    have hl4 : (L3 ++ enc pid).length ≤ 30 := by rw [List.length_append]; omega
    obtain ⟨L4, hL4⟩ : ∃ L, L = L3 ++ enc pid := ⟨_, rfl⟩
    have HL4 := hide hL4
    rw [← hL4] at F4 hl4
    obtain ⟨y4, n4, q4, rfl⟩ := r4.shape
    clear hL4 r4 t4 m4 BB3 LX3 R3 F3 hl3
    have k4 := ((unhide BX1).later (unhide F4).2.2).c3
    simp only at k4
    go_wp2_with fail
    refine (eint_any pep _ (unhide HF).pep.1 (unhide HF).pep.2).mono ?_
    rintro e wx4 ⟨vx4, rfl, fx4⟩
    obtain ⟨ax4, cx4, rfl, lx4, _, _, nx4, _⟩ := fx4.1.parts
    have BB4 := hide fx4.2.2
    have LX4 := hide lx4
    have R4 := hide ((unhide F4).1.later fx4.2.2)
    clear fx4 lx4 k4
    go_wp2_with (at_builtin; refine wpList_row _ rfl (.tmp 25) (.tmp 28) rfl (.slice y4 n4 q4) L4 rfl (unhide R4) ax4 cx4 (enc (zig pep)) rfl (unhide LX4) nx4 (by omega) ?_)
    intro v5 w5 r5 t5 m5
    have F5 := hide (fresh_app (unhide F4) (unhide BB4) r5 t5 m5)
    have hl5 : (L4 ++ enc (zig pep)).length ≤ 40 := by rw [List.length_append]; omega
    obtain ⟨L5, hL5⟩ : ∃ L, L = L4 ++ enc (zig pep) := ⟨_, rfl⟩
    have HL5 := hide hL5
    rw [← hL5] at F5 hl5
    obtain ⟨y5, n5, q5, rfl⟩ := r5.shape
    clear hL5 r5 t5 m5 BB4 LX4 R4 F4 hl4
    have k5 := ((unhide BX1).later (unhide F5).2.2).c4
    simp only at k5
    go_wp2_with fail
    refine (eint_any seq _ (unhide HF).seq.1 (unhide HF).seq.2).mono ?_
    rintro e wx5 ⟨vx5, rfl, fx5⟩
    obtain ⟨ax5, cx5, rfl, lx5, _, _, nx5, _⟩ := fx5.1.parts
    have BB5 := hide fx5.2.2
    have LX5 := hide lx5
    have R5 := hide ((unhide F5).1.later fx5.2.2)
    clear fx5 lx5 k5
    go_wp2_with (at_builtin; refine wpList_row _ rfl (.tmp 30) (.tmp 33) rfl (.slice y5 n5 q5) L5 rfl (unhide R5) ax5 cx5 (enc (zig seq)) rfl (unhide LX5) nx5 (by omega) ?_)
    intro v6 w6 r6 t6 m6
    have F6 := hide (fresh_app (unhide F5) (unhide BB5) r6 t6 m6)
    have hl6 : (L5 ++ enc (zig seq)).length ≤ 50 := by rw [List.length_append]; omega
    obtain ⟨L6, hL6⟩ : ∃ L, L = L5 ++ enc (zig seq) := ⟨_, rfl⟩
    have HL6 := hide hL6
    rw [← hL6] at F6 hl6
    obtain ⟨y6, n6, q6, rfl⟩ := r6.shape
    clear hL6 r6 t6 m6 BB5 LX5 R5 F5 hl5
    have k6 := ((unhide BX1).later (unhide F6).2.2).c5
    simp only at k6
    go_wp2_with fail
    refine (eflag_enc txn _).mono ?_
    rintro e wx6 ⟨vx6, rfl, fx6⟩
    obtain ⟨ax6, cx6, rfl, lx6, _, _, nx6, _⟩ := fx6.1.parts
    have BB6 := hide fx6.2.2
    have LX6 := hide lx6
    have R6 := hide ((unhide F6).1.later fx6.2.2)
    clear fx6 lx6 k6
    go_wp2_with (at_builtin; refine wpList_row _ rfl (.tmp 35) (.tmp 38) rfl (.slice y6 n6 q6) L6 rfl (unhide R6) ax6 cx6 (enc txn.toNat) rfl (unhide LX6) nx6 (by omega) ?_)
    intro v7 w7 r7 t7 m7
    have F7 := hide (fresh_app (unhide F6) (unhide BB6) r7 t7 m7)
    have hl7 : (L6 ++ enc txn.toNat).length ≤ 60 := by rw [List.length_append]; omega
    obtain ⟨L7, hL7⟩ : ∃ L, L = L6 ++ enc txn.toNat := ⟨_, rfl⟩
    have HL7 := hide hL7
    rw [← hL7] at F7 hl7
    obtain ⟨y7, n7, q7, rfl⟩ := r7.shape
    clear hL7 r7 t7 m7 BB6 LX6 R6 F6 hl6
    have k7 := ((unhide BX1).later (unhide F7).2.2).c6
    simp only at k7
    go_wp2_with fail
    refine (eflag_enc ctl _).mono ?_
    rintro e wx7 ⟨vx7, rfl, fx7⟩
    obtain ⟨ax7, cx7, rfl, lx7, _, _, nx7, _⟩ := fx7.1.parts
    have BB7 := hide fx7.2.2
    have LX7 := hide lx7
    have R7 := hide ((unhide F7).1.later fx7.2.2)
    clear fx7 lx7 k7
    go_wp2_with (at_builtin; refine wpList_row _ rfl (.tmp 40) (.tmp 43) rfl (.slice y7 n7 q7) L7 rfl (unhide R7) ax7 cx7 (enc ctl.toNat) rfl (unhide LX7) nx7 (by omega) ?_)
    intro v8 w8 r8 t8 m8
    have F8 := hide (fresh_app (unhide F7) (unhide BB7) r8 t8 m8)
    have hl8 : (L7 ++ enc ctl.toNat).length ≤ 70 := by rw [List.length_append]; omega
    obtain ⟨L8, hL8⟩ : ∃ L, L = L7 ++ enc ctl.toNat := ⟨_, rfl⟩
    have HL8 := hide hL8
    rw [← hL8] at F8 hl8
    obtain ⟨y8, n8, q8, rfl⟩ := r8.shape
    clear hL8 r8 t8 m8 BB7 LX7 R7 F7 hl7
    have k8 := ((unhide BX1).later (unhide F8).2.2).c7
    simp only at k8
    go_wp2_with fail
    refine (eflag_enc com _).mono ?_
    rintro e wx8 ⟨vx8, rfl, fx8⟩
    obtain ⟨ax8, cx8, rfl, lx8, _, _, nx8, _⟩ := fx8.1.parts
    have BB8 := hide fx8.2.2
    have LX8 := hide lx8
    have R8 := hide ((unhide F8).1.later fx8.2.2)
    clear fx8 lx8 k8
    go_wp2_with (at_builtin; refine wpList_row _ rfl (.tmp 45) (.tmp 48) rfl (.slice y8 n8 q8) L8 rfl (unhide R8) ax8 cx8 (enc com.toNat) rfl (unhide LX8) nx8 (by omega) ?_)
    intro v9 w9 r9 t9 m9
    have F9 := hide (fresh_app (unhide F8) (unhide BB8) r9 t9 m9)
    have hl9 : (L8 ++ enc com.toNat).length ≤ 80 := by rw [List.length_append]; omega
    obtain ⟨L9, hL9⟩ : ∃ L, L = L8 ++ enc com.toNat := ⟨_, rfl⟩
    have HL9 := hide hL9
    rw [← hL9] at F9 hl9
    obtain ⟨y9, n9, q9, rfl⟩ := r9.shape
    clear hL9 r9 t9 m9 BB8 LX8 R8 F8 hl8
    have k9 := ((unhide BX1).later (unhide F9).2.2).c8
    simp only at k9
    go_wp2_with fail
    refine (euint_any vs.length _ (by omega)).mono ?_
    rintro e wx9 ⟨vx9, rfl, fx9⟩
    obtain ⟨ax9, cx9, rfl, lx9, _, _, nx9, _⟩ := fx9.1.parts
    have BB9 := hide fx9.2.2
    have LX9 := hide lx9
    have R9 := hide ((unhide F9).1.later fx9.2.2)
    clear fx9 lx9 k9
    go_wp2_with (at_builtin; refine wpList_row _ rfl (.tmp 50) (.tmp 55) rfl (.slice y9 n9 q9) L9 rfl (unhide R9) ax9 cx9 (enc vs.length) rfl (unhide LX9) nx9 (by omega) ?_)
    intro v10 w10 r10 t10 m10
    have F10 := hide (fresh_app (unhide F9) (unhide BB9) r10 t10 m10)
    have hl10 : (L9 ++ enc vs.length).length ≤ 90 := by rw [List.length_append]; omega
    obtain ⟨L10, hL10⟩ : ∃ L, L = L9 ++ enc vs.length := ⟨_, rfl⟩
    have HL10 := hide hL10
    rw [← hL10] at F10 hl10
    obtain ⟨y10, n10, q10, rfl⟩ := r10.shape
    clear hL10 r10 t10 m10 BB9 LX9 R9 F9 hl9
    have LL : Hid (L10 ++ encVs vs = encB ⟨base, epoch, pid, pep, seq, txn, ctl, com, vs⟩) := by
      show _ = _
      rw [unhide HL10, unhide HL9, unhide HL8, unhide HL7, unhide HL6, unhide HL5, unhide HL4, unhide HL3, unhide HL2]
      unfold encB
      simp only [List.append_assoc]
    clear e1 e2 e3 e4 e5 e6 e7 e8 e9 HL2 HL3 HL4 HL5 HL6 HL7 HL8 HL9 HL10
    go_wp2_with fail
    go_loopw [5, 6] (fun vb i wr => ∃ (k : Nat) (v' : Value), v' = vb ∧ k ≤ vs.length ∧ i = .int .i64 k ∧ Fresh w1 wr v' (L10 ++ encVs (vs.take k))) (fun _ i _ => vs.length - (intOf i).toNat)
    case atStart => exact ⟨0, _, rfl, Nat.zero_le _, rfl, by simpa [encVs] using unhide F10⟩
    case round =>
      obtain ⟨k, v', rfl, hk, rfl, hc⟩ := hrel
      have HC := hide hc
      have kk := ((unhide BX1).later hc.2.2).c8
      simp only at kk
      obtain ⟨yy, ny, qy, rfl⟩ := hc.1.shape
      clear hc
      by_cases hkc : k < vs.length
      · have hkc' : (k : Int) < (vs.length : Int) := by omega
        obtain ⟨bb, off, x, c, rfl, hbb, hcell, lx, hnx⟩ := ((unhide P1).later (unhide HC).2.2).cell hkc
        have hp4 : (vs.getD k []).length ≤ 64 := unhide H64 _ (by simp [List.getD, hkc])
        have ET := hide (encVs_take hkc)
        have hLk : (L10 ++ encVs (vs.take k)).length ≤ 2000 := by
          have := encVs_len (vs.take k) (fun v hv => unhide H64 v (List.mem_of_mem_take hv))
          rw [List.length_append]
          rw [List.length_take] at this
          omega
        have LX := hide lx
        clear lx
        generalize vs.getD k [] = p at *
        obtain ⟨LK, hLK⟩ : ∃ L, L = L10 ++ encVs (vs.take k) := ⟨_, rfl⟩
        have HLK := hide hLK
        rw [← hLK] at HC hLk
        clear hLK
        go_wp2_with fail
        refine (ebytes_any x c p _ (unhide LX) hnx (by omega)).mono ?_
        rintro e wn ⟨vn, rfl, fn⟩
        have hl10 : (enc p.length ++ p).length ≤ 74 := by
          have := enc_len10 (n := p.length) (by omega)
          rw [List.length_append]; omega
        obtain ⟨an, cn, rfl, ln, _, _, nn, _⟩ := fn.1.parts
        have BN := hide fn.2.2
        have LN2 := hide ln
        have RN := hide ((unhide HC).1.later fn.2.2)
        clear fn ln kk hcell
        obtain ⟨PP, hPP⟩ : ∃ L, L = enc p.length ++ p := ⟨_, rfl⟩
        have HPP := hide hPP
        rw [← hPP] at LN2 hl10 ⊢
        clear hPP
        go_wp2_with (at_builtin; refine wpList_row _ rfl (.tmp 64) (.tmp 70) rfl (.slice yy ny qy) LK rfl (unhide RN) an cn PP rfl (unhide LN2) nn (by omega) ?_)
        intro vm wm rm tm mm
        have FM := fresh_app (unhide HC) (unhide BN) rm tm mm
        rw [unhide HLK, unhide HPP, List.append_assoc, ← unhide ET] at FM
        have FM2 := hide FM
        obtain ⟨ym, nm, qm, rfl⟩ := rm.shape
        clear rm tm mm FM
        go_wp2
        go_roundw
        case rel => exact ⟨k + 1, _, rfl, by omega, by go_num, unhide FM2⟩
        case measure => simp [intOf]; omega
      · obtain rfl : k = vs.length := by omega
        rw [List.take_length] at HC
        have E : Hid (EnPost w ⟨base, epoch, pid, pep, seq, txn, ctl, com, vs⟩ (.returned (.tuple #[.slice yy ny qy, .int .i64 0])) wr) := EnPost.ok (unhide HZ) (unhide LL) (unhide HC).1 (unhide HC).2.1 (unhide B1) ((unhide B1).trans ((unhide HC).2.2.mono (unhide B1).size))
        go_wp2
        go_returns
        exact unhide E
  · generalize hcc : chk ⟨base, epoch, pid, pep, seq, txn, ctl, com, vs⟩ = cc at *
    have HCC := hide hcc
    clear hcc LN CZ
    have hz' : ¬ (cc : Int) = 0 := by omega
    go_wp2
    go_returns
    exact EnPost.no (unhide HCC) hz (unhide B1)
end Go.Proofs.Ytblmondkdcpkaaa
