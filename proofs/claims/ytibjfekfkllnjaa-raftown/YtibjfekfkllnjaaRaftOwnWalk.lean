/-
  RaftOwn's walk: what is handed in isn't kept, and what is told is the caller's. Conditions: the list is handed in whole.
-/
import Derived.Test.YtibjfekfkllnjaaRo1
import Derived.Test.YtibjfekfkllnjaaRtj
import Derived.Test.YtibjfekfkllnjaaRk0
namespace Go.Proofs.Ytibjfekfkllnjaa
open Go.RowKit Go.Maps
set_option linter.unusedVariables false

/-- append([]byte{}, b...): what comes of it. -/
theorem lit_new {w : World} {v' : Value} {w' : World} {l : List Nat} (r : Row w' v' ([] ++ l)) (t : Touch (fun k => (Value.slice (some ⟨w.heap.size, 0, none⟩) 0 0).ownBlock = some k) (w.alloc (.cells #[] 5)) w') (m : Moved (w.alloc (.cells #[] 5)) (.slice (some ⟨w.heap.size, 0, none⟩) 0 0) v') : ∃ a c, v' = .slice a l.length c ∧ Row w' (.slice a l.length c) l ∧ New w (.slice a l.length c) ∧ Below w.heap.size w w' := by
  have HA : Below w.heap.size w (w.alloc (.cells #[] 5)) := (Below.refl _ _).alloc (Nat.le_refl _) _
  obtain ⟨a', c', e, h1, h2, h3, h4, h5, _⟩ := r.parts
  simp only [List.nil_append] at e r
  subst e
  refine ⟨a', c', rfl, r, fun k hk => ?_, ?_⟩
  · rcases m k hk with e | e
    · have : w.heap.size = k := by simpa [Value.ownBlock] using e
      omega
    · simp at e; omega
  · refine below_touch HA t (by simp) (fun k hk => ?_)
    have : w.heap.size = k := by simpa [Value.ownBlock] using hk
    omega
theorem row_ein {w : World} {a : Option Addr} {c : Nat} {l : List Nat} (t : Int) (h : Row w (.slice a l.length c) l) (hl : l.length ≤ 140737488355328) : EIn w ⟨t, a, c, l⟩ := (ERow.mk (p := ⟨t, a, c, l⟩) h hl).ein
set_option maxRecDepth 100000 in
set_option maxHeartbeats 4000000 in
theorem raftOwn_walk {w : World} {la : Option Addr} {lc : Nat} {ls : List En} (x : BRow w la ls) (hfew : ls.length ≤ 9223372036854775807) : Calls Try.prog 6 #[.slice la ls.length lc] w fun e w' => e = .returned (.bool true) ∧ Below w.heap.size w w' := by
  have HX := hide x
  clear x
  have NW := hide (begun1 w)
  go_enter Try.func6, Try.ntmps6
  go_wp2_with fail
  refine (unhide NW).mono ?_
  rintro e w1 ⟨rb, rfl, b1⟩
  have AW := hide (awake12_any w1)
  have B := hide b1
  clear NW b1
  go_wp2_with fail
  refine (unhide AW).mono ?_
  rintro e w1' ⟨rfl, b1'⟩
  have B' : Hid (B1 w w1' rb 0) := by
    obtain ⟨sa, sc, v, q1, q2, q3, q4⟩ := (unhide B).ex
    exact ⟨⟨sa, sc, v, q1, below_keep b1' q2, q3.later b1', q4⟩, (unhide B).below.trans (b1'.mono (unhide B).below.size)⟩
  clear AW b1' B
  go_wp2_with fail
  go_loopw [5] (fun s5 wr => ∃ i : Nat, i ≤ 4 ∧ s5 = .int .i64 (i : Int) ∧ (i < 4 → B1 w wr rb i) ∧ (i = 4 → ∃ p, p.abs = (1, []) ∧ A1 w wr rb [p] 0 true)) (fun pl _ => 4 - (intOf pl).toNat)
  case atStart => exact ⟨0, by omega, rfl, fun _ => unhide B', fun h => by omega⟩
  case round =>
    obtain ⟨i, hi, rfl, hb, ha⟩ := hrel
    clear B'
    rcases Nat.lt_or_ge i 4 with h4 | h4
    · have hi' : (i : Int) < 4 := by omega
      rcases Nat.lt_or_ge i 3 with h3 | h3
      · have TK := hide (tick1 h3 (hb h4))
        clear hb ha
        go_wp2_with fail
        refine (unhide TK).mono ?_
        rintro e w2 ⟨rfl, b2⟩
        have B2 := hide b2
        clear b2
        go_wp2
        go_roundw
        case rel => exact ⟨i + 1, by omega, by go_num, fun _ => unhide B2, fun h => by omega⟩
        case measure => simp [intOf]; omega
      · obtain rfl : i = 3 := by omega
        have TK := hide (tick4 (hb h4))
        clear hb ha
        go_wp2_with fail
        refine (unhide TK).mono ?_
        rintro e w2 ⟨rfl, b2⟩
        have B2 := hide b2
        clear b2
        go_wp2
        go_roundw
        case rel => exact ⟨4, by omega, by go_num, fun h => by omega, fun _ => unhide B2⟩
        case measure => simp [intOf]
    · obtain rfl : i = 4 := by omega
      obtain ⟨p, hp, a1⟩ := ha rfl
      obtain ⟨R0, a2⟩ := a1.set
      have A0 : Hid (∃ ps R, A2 w wr rb R ps 0 true ∧ ps.map En.abs = lgL ls 0) := ⟨[p], R0, a2, by simp [lgL, hp]⟩
      clear hb ha a1 a2 hp
      go_wp2_with fail
      go_loopw [42] (fun s42 wq => ∃ k : Nat, k ≤ ls.length ∧ k ≤ 51 ∧ s42 = .int .i64 (k : Int) ∧ ∃ ps R, A2 w wq rb R ps 0 true ∧ ps.map En.abs = lgL ls k) (fun pl _ => ls.length - (intOf pl).toNat)
      case atStart => exact ⟨0, Nat.zero_le _, by omega, rfl, unhide A0⟩
      case round =>
        obtain ⟨k, hk, hk51, rfl, ps, R, aq, hps⟩ := hrel
        clear A0
        have hpl : ps.length = k + 1 := by
          have := congrArg List.length hps
          rw [lgL_len hk] at this
          simpa using this
        by_cases hkl : k < ls.length
        · have hkl' : (k : Int) < (ls.length : Int) := by omega
          have hz : (0 : Int) ≤ (k : Int) := by omega
          obtain ⟨b, off, rfl, hbl, y0⟩ := ((unhide HX).later aq.below).cell k hkl
          have PI := hide (((unhide HX).later aq.below).each _ (List.getElem_mem hkl))
          have TK := hide (lgL_succ hkl)
          generalize ls[k] = p at *
          obtain ⟨t, pa, pc, l⟩ := p
          simp only [enS] at y0
          by_cases h4 : 4096 < l.length
          · have h4' : (4096 : Int) < (l.length : Int) := by omega
            have BF := hide aq.below
            clear aq hps
            go_wp2
            go_returns
            exact ⟨rfl, unhide BF⟩
          · have h4' : ¬ (4096 : Int) < (l.length : Int) := by omega
            by_cases h5 : 50 < k
            · have h5' : (50 : Int) < (k : Int) := by omega
              have BF := hide aq.below
              clear aq hps
              go_wp2
              go_returns
              exact ⟨rfl, unhide BF⟩
            · have h5' : ¬ (50 : Int) < (k : Int) := by omega
              have AQ := hide aq
              have HPS := hide hps
              have HPL := hide hpl
              have hA : Below wr.heap.size wr (wr.alloc (.cells #[] 5)) := (Below.refl _ _).alloc (Nat.le_refl _) _
              have SRC := hide ((unhide PI).later hA)
              have R0 : Hid (Row (wr.alloc (.cells #[] 5)) (.slice (some ⟨wr.heap.size, 0, none⟩) 0 0) []) := Row.lit wr [] (by simp) #[] rfl (Nat.zero_le _)
              have HN := hide (unhide PI).none
              clear aq hps hpl hA PI
              simp only at HN
              go_wp2_with (at_builtin; refine wpList_row _ rfl (.tmp 54) (.tmp 55) rfl _ [] rfl (unhide R0) _ _ l rfl (unhide SRC).at_ (unhide HN) (by simp; omega) ?_; intro v' w' r t m)
              obtain ⟨ca, cc, rfl, cr, cn, cb⟩ := lit_new r t m
              have CR := hide cr
              have A3 := hide ((unhide AQ).later cb)
              have CN := hide cn
              have PR := hide (propose2 (unhide A3) (row_ein 1 cr (by omega)) (by omega) (by rw [unhide HPL]; omega))
              clear r t m cr cn R0 SRC HN y0
              have HCB := hide cb
              clear cb
              generalize hml : l.length = ml at *
              have HML := hide hml
              clear hml
              go_wp2_with fail
              refine (unhide PR).mono ?_
              rintro e w2 ⟨rfl, p', R', hp', a4, t4, n4⟩
              have A4 := hide a4
              have CB : Hid (∀ j, (Value.slice ca ml cc).ownBlock = some j → ¬ R' j ∧ w.heap.size ≤ j) := fun j hj => by
                have c1 := unhide CN j hj
                have c2 := (unhide CR).lt j hj
                have c3 := (unhide AQ).below.size
                refine ⟨fun hr => ?_, by omega⟩
                rcases n4 j hr with e | e
                · have := (unhide AQ).lt j e
                  omega
                · omega
              have C4 : Hid (Row w2 (.slice ca ml cc) l) := (unhide CR).keep t4 (fun j hj e => by
                have c1 := unhide CN j hj
                have := (unhide AQ).lt j e
                omega)
              have HPP : Hid ((ps ++ [p']).map En.abs = lgL ls (k + 1)) := by
                show _ = _
                rw [unhide TK, List.map_append, List.map_singleton, unhide HPS, hp']
              clear PR A3 CN CR HCB a4 t4 n4 hp' AQ HPS TK
              go_wp2_with fail
              go_loopw [67] (fun s67 wz => ∃ (i : Nat) (l' : List Nat), i ≤ ml ∧ l'.length = ml ∧ s67 = .int .i64 (i : Int) ∧ Row wz (.slice ca ml cc) l' ∧ A2 w wz rb R' (ps ++ [p']) 0 true) (fun pl _ => ml - (intOf pl).toNat)
              case atStart => exact ⟨0, l, Nat.zero_le _, unhide HML, rfl, unhide C4, unhide A4⟩
              case round =>
                obtain ⟨i, l', hi, hl', rfl, rz, az⟩ := hrel
                clear C4 A4
                by_cases hil : i < ml
                · have hil' : (i : Int) < (ml : Int) := by omega
                  have hzi : (0 : Int) ≤ (i : Int) := by omega
                  obtain ⟨qa, qc, qe, q1, _, _, _, _, q7⟩ := rz.parts
                  injection qe with e1 e2 e3
                  subst e1 e3
                  obtain ⟨g, rfl, q8⟩ := q7 i (by omega)
                  obtain ⟨_, _, e4, _, q9, _⟩ := q1.cell (i := i) (by omega)
                  cases e4
                  simp only [Nat.zero_add] at q9
                  have FF : Hid (Row (wr.setCell ⟨g, i, none⟩ (.int .u8 1)) (.slice (some ⟨g, 0, none⟩) ml cc) (l'.set i 1) ∧ A2 w (wr.setCell ⟨g, i, none⟩ (.int .u8 1)) rb R' (ps ++ [p']) 0 true) := by
                    refine ⟨rz.set i (x := 1) (by omega), az.keep (touch_set wr g i _) (fun j hj e => ?_) (fun j hj => ?_)⟩
                    · rw [e] at hj; exact (unhide CB g rfl).1 hj
                    · rw [hj]; exact (unhide CB g rfl).2
                  have HL2 : Hid ((l'.set i 1).length = ml) := by show _ = _; rw [List.length_set]; exact hl'
                  clear rz az q1 e2 hl'
                  go_wp2
                  go_roundw
                  case rel => exact ⟨i + 1, l'.set i 1, by omega, unhide HL2, by go_num, unhide FF⟩
                  case measure => simp [intOf]; omega
                · obtain rfl : i = ml := by omega
                  have AZ := hide az
                  clear rz az hl'
                  go_wp2
                  go_roundw
                  case rel =>
                    (repeat apply Exists.intro)
                    refine ⟨?_, ?_⟩
                    rotate_left
                    · (repeat' (first | exact rfl | apply And.intro))
                    · exact ⟨k + 1, by omega, by omega, by go_num, _, _, unhide AZ, unhide HPP⟩
                  case measure => simp [intOf]; omega
        · obtain rfl : k = ls.length := by omega
          have TK := hide (take2 aq (by omega) (by omega))
          have HPS := hide hps
          have HPL := hide hpl
          have AQ := hide aq
          have hls51 : ls.length ≤ 51 := hk51
          clear aq hps hpl
          go_wp2_with fail
          refine (unhide TK).mono ?_
          rintro e w3 ⟨g, v, ks, rfl, s⟩
          have hkl : ks.length = ls.length + 1 := by
            have := congrArg List.length s.abs
            rw [cmE_len, List.drop_zero, unhide HPL] at this
            simpa using this
          have hgl : g.ps.length = ls.length + 1 := by
            have := congrArg List.length s.T
            simp only [List.length_map] at this
            rw [this, unhide HPL]
          have hks : ks.map En.abs = cmE 0 ps := by have := s.abs; rwa [List.drop_zero] at this
          have hgs := s.T
          obtain ⟨va, vc, rfl⟩ := s.list.row.shape
          have XX0 := hide (s.lists (unhide AQ).lt (unhide AQ).below.size)
          obtain ⟨gT, gvo, gbase, gbt, ga, gc, gll, gla, glc, gps⟩ := g
          simp only at hgl hgs
          have XX : Hid (XI w wr.heap.size R (.slice va ks.length vc) (.slice gla gps.length glc) ks gps) := unhide XX0
          clear XX0
          have S0 : Hid (∀ xb xc w2, Below w3.heap.size w3 w2 → w2.heap[xb]? = some (.cells xc 57) → XS w w2 rb xb R ps (.slice va ks.length vc) (.slice gla gps.length glc) ks gps xc 0) := fun xb xc w2 hb hx => s.xs hb hx
          have RD : (.agg #[.bool true, .int .i64 gT, .int .i64 gvo, .int .i64 gbase, .int .i64 gbt, .slice ga gll.length gc, .slice gla gps.length glc, .slice none 0 0, .bool false, .slice none 0 0, .slice va ks.length vc]) = rdV true ⟨gT, gvo, gbase, gbt, ga, gc, gll, gla, glc, gps⟩ (.slice none 0 0) false (.slice none 0 0) (.slice va ks.length vc) := rfl
          rw [← RD]
          have TC : Hid (∀ j (hj : j < ls.length), ∃ h : j + 1 < ks.length, (ks[j + 1]'h).l = ls[j].l) := fun j hj => told_l (unhide HPS) hks hj
          have TG : Hid (∀ j (hj : j < ls.length), ∃ h : j + 1 < gps.length, (gps[j + 1]'h).l = ls[j].l) := fun j hj => laid_l ⟨[], by rw [List.append_nil]; exact unhide HPS⟩ hgs hj
          have HKL := hide hkl
          have HGL := hide hgl
          rw [hkl, hgl] at *
          clear RD s TK AQ hkl hgl hks hgs
          generalize gll.length = gl at *
          have hwN : IntKind.i64.wrap (((ls.length + 1 : Nat) : Int) - 1) = (ls.length : Int) := by rw [wrap_low (by omega) (by omega)]; omega
          have hw1 : IntKind.i64.wrap (1 + (ls.length : Int)) = ((ls.length + 1 : Nat) : Int) := by rw [wrap_low (by omega) (by omega)]; omega
          have hNN : ls.length < ls.length + 1 := by omega
          generalize hN : ls.length + 1 = N at *
          have HNE := hide hN
          clear hN
          have hAx : Below w3.heap.size w3 (w3.alloc (.cells #[.bool true, .int .i64 gT, .int .i64 gvo, .int .i64 gbase, .int .i64 gbt, .slice ga gl gc, .slice gla N glc, .slice none 0 0, .bool false, .slice none 0 0, .slice va N vc] 57)) := (Below.refl _ _).alloc (Nat.le_refl _) _
          have G : (w3.alloc (.cells #[.bool true, .int .i64 gT, .int .i64 gvo, .int .i64 gbase, .int .i64 gbt, .slice ga gl gc, .slice gla N glc, .slice none 0 0, .bool false, .slice none 0 0, .slice va N vc] 57)).heap[w3.heap.size]? = some (.cells #[.bool true, .int .i64 gT, .int .i64 gvo, .int .i64 gbase, .int .i64 gbt, .slice ga gl gc, .slice gla N glc, .slice none 0 0, .bool false, .slice none 0 0, .slice va N vc] 57) := heap_new _ _
          have X0 := hide (unhide S0 _ _ _ hAx G)
          have gx6 : (w3.alloc (.cells #[.bool true, .int .i64 gT, .int .i64 gvo, .int .i64 gbase, .int .i64 gbt, .slice ga gl gc, .slice gla N glc, .slice none 0 0, .bool false, .slice none 0 0, .slice va N vc] 57)).cell? ⟨w3.heap.size, 6, none⟩ = some (.slice gla N glc) := cell_of G 6
          have gx10 : (w3.alloc (.cells #[.bool true, .int .i64 gT, .int .i64 gvo, .int .i64 gbase, .int .i64 gbt, .slice ga gl gc, .slice gla N glc, .slice none 0 0, .bool false, .slice none 0 0, .slice va N vc] 57)).cell? ⟨w3.heap.size, 10, none⟩ = some (.slice va N vc) := cell_of G 10
          clear S0 hAx G
          go_wp2_with fail
          generalize w3.alloc (.cells #[.bool true, .int .i64 gT, .int .i64 gvo, .int .i64 gbase, .int .i64 gbt, .slice ga gl gc, .slice gla N glc, .slice none 0 0, .bool false, .slice none 0 0, .slice va N vc] 57) = W4 at *
          generalize hxb : w3.heap.size = xb at *
          clear hxb gx6 gx10
          go_loopw [101] (fun s101 wz => ∃ k : Nat, k ≤ ls.length ∧ s101 = .int .i64 (k : Int) ∧ XS w wz rb xb R ps (.slice va N vc) (.slice gla N glc) ks gps #[.bool true, .int .i64 gT, .int .i64 gvo, .int .i64 gbase, .int .i64 gbt, .slice ga gl gc, .slice gla N glc, .slice none 0 0, .bool false, .slice none 0 0, .slice va N vc] k) (fun pl _ => ls.length - (intOf pl).toNat)
          case atStart => exact ⟨0, Nat.zero_le _, rfl, unhide X0⟩
          case round =>
            obtain ⟨k, hk, rfl, xs⟩ := hrel
            clear X0
            by_cases hkl : k < ls.length
            · have hkl' : (k : Int) < (ls.length : Int) := by omega
              have hz : (0 : Int) ≤ (k : Int) := by omega
              obtain ⟨b, off, rfl, hbl, y0⟩ := ((unhide HX).later xs.raft.below).cell k hkl
              have PI := hide (((unhide HX).later xs.raft.below).each _ (List.getElem_mem hkl))
              obtain ⟨hc1, hc2⟩ := unhide TC k hkl
              obtain ⟨hg1, hg2⟩ := unhide TG k hkl
              obtain ⟨gk, capk, ek, zc⟩ := xs.atC hc1
              obtain ⟨gg, capg, eg, zg⟩ := xs.atL hg1
              injection ek with ek1 ek2 ek3
              injection eg with eg1 eg2 eg3
              subst ek1 ek3 eg1 eg3
              clear ek2 eg2
              have rc0 := (xs.datC _ hc1 (by omega)).row
              have rg0 := (xs.datL _ hg1 (by omega)).row
              obtain ⟨ca, eca⟩ : ∃ y, y = (ks[k + 1]'hc1).a := ⟨_, rfl⟩
              obtain ⟨cc, ecc⟩ : ∃ y, y = (ks[k + 1]'hc1).c := ⟨_, rfl⟩
              obtain ⟨da, eda⟩ : ∃ y, y = (gps[k + 1]'hg1).a := ⟨_, rfl⟩
              obtain ⟨dc, edc⟩ : ∃ y, y = (gps[k + 1]'hg1).c := ⟨_, rfl⟩
              have ec : ∀ h : k + 1 < ks.length, enS (ks[k + 1]'h) = .slice ca ls[k].l.length cc := fun h => by
                show Value.slice (ks[k + 1]'h).a (ks[k + 1]'h).l.length (ks[k + 1]'h).c = _
                rw [eca, ecc, hc2]
              have eg : ∀ h : k + 1 < gps.length, enS (gps[k + 1]'h) = .slice da ls[k].l.length dc := fun h => by
                show Value.slice (gps[k + 1]'h).a (gps[k + 1]'h).l.length (gps[k + 1]'h).c = _
                rw [eda, edc, hg2]
              rw [ec hc1] at zc
              rw [eg hg1] at zg
              have rc : Row wr (.slice ca ls[k].l.length cc) ls[k].l := by rw [ec hc1, hc2] at rc0; exact rc0
              have rg : Row wr (.slice da ls[k].l.length dc) ls[k].l := by rw [eg hg1, hg2] at rg0; exact rg0
              have OC : Hid (∀ j, (Value.slice ca ls[k].l.length cc).ownBlock = some j → ∃ h : k + 1 < ks.length, (enS (ks[k + 1]'h)).ownBlock = some j) := fun j hj => ⟨hc1, by rw [ec hc1]; exact hj⟩
              have OG : Hid (∀ j, (Value.slice da ls[k].l.length dc).ownBlock = some j → ∃ h : k + 1 < gps.length, (enS (gps[k + 1]'h)).ownBlock = some j) := fun j hj => ⟨hg1, by rw [eg hg1]; exact hj⟩
              have LL := hide (unhide PI).len
              have LP := hide (unhide PI).at_
              have IC := hide hc1
              have IG := hide hg1
              have VC := hide ec
              have VG := hide eg
              simp only [enS] at y0
              clear ec eg eca ecc eda edc rc0 rg0
              generalize ls[k].a = pa at *
              generalize ls[k].c = pc at *
              generalize ls[k].l = l at *
              have SA : Hid (∀ n, Calls Try.prog 15 #[.slice ca l.length cc, .slice pa l.length pc] (wr.drewN n) fun e w' => e = .returned (.bool true) ∧ ∃ m, w' = (wr.drewN n).drewN m) := fun n => same03_any (wr.drewN n) ca pa cc pc l ((row_ein 0 rc (unhide LL)).at_.keep ((Touch.refl (fun _ => False) wr).drewN n) (fun _ _ _ h => h)) ((unhide LP).keep ((Touch.refl (fun _ => False) wr).drewN n) (fun _ _ _ h => h)) (by have := unhide LL; omega)
              have SB : Hid (∀ n, Calls Try.prog 15 #[.slice da l.length dc, .slice pa l.length pc] (wr.drewN n) fun e w' => e = .returned (.bool true) ∧ ∃ m, w' = (wr.drewN n).drewN m) := fun n => same03_any (wr.drewN n) da pa dc pc l ((row_ein 0 rg (unhide LL)).at_.keep ((Touch.refl (fun _ => False) wr).drewN n) (fun _ _ _ h => h)) ((unhide LP).keep ((Touch.refl (fun _ => False) wr).drewN n) (fun _ _ _ h => h)) (by have := unhide LL; omega)
              have XN : Hid (∀ n, XS w (wr.drewN n) rb xb R ps (.slice (some ⟨gk, 0, none⟩) N vc) (.slice (some ⟨gg, 0, none⟩) N glc) ks gps #[.bool true, .int .i64 gT, .int .i64 gvo, .int .i64 gbase, .int .i64 gbt, .slice ga gl gc, .slice (some ⟨gg, 0, none⟩) N glc, .slice none 0 0, .bool false, .slice none 0 0, .slice (some ⟨gk, 0, none⟩) N vc] (k + 1)) := fun n => xs.next.later (below_drewN3 (Below.refl _ _) n)
              have RC : Hid (∀ n, Row (wr.drewN n) (.slice ca l.length cc) l) := fun n => rc.later (below_drewN3 (Below.refl _ _) n)
              have RG : Hid (∀ n, Row (wr.drewN n) (.slice da l.length dc) l) := fun n => rg.later (below_drewN3 (Below.refl _ _) n)
              have x6 : wr.cell? ⟨xb, 6, none⟩ = some (.slice (some ⟨gg, 0, none⟩) N glc) := cell_of xs.box 6
              have x10 : wr.cell? ⟨xb, 10, none⟩ = some (.slice (some ⟨gk, 0, none⟩) N vc) := cell_of xs.box 10
              have hwK : IntKind.i64.wrap ((k : Int) + 1) = ((k + 1 : Nat) : Int) := by rw [wrap_low (by omega) (by omega)]; omega
              have hKN : ((k + 1 : Nat) : Int) < (N : Int) := by have := unhide HNE; omega
              have hK0 : (0 : Int) ≤ ((k + 1 : Nat) : Int) := by omega
              clear xs rc rg PI hc1 hc2 hg1 hg2
              generalize hK1 : k + 1 = K1 at *
              have HK1 := hide hK1
              clear hK1
              generalize hml : l.length = ml at *
              have HML := hide hml
              clear hml
              have SA0 : Hid (Calls Try.prog 15 #[.slice ca ml cc, .slice pa ml pc] wr fun e w' => e = .returned (.bool true) ∧ ∃ m, w' = wr.drewN m) := unhide SA 0
              go_wp2_with fail
              refine (unhide SA0).mono ?_
              rintro e wA ⟨rfl, nA, rfl⟩
              have v6 : (wr.drewN nA).cell? ⟨xb, 6, none⟩ = some (.slice (some ⟨gg, 0, none⟩) N glc) := x6
              have vg : (wr.drewN nA).cell? ⟨gg, K1 * 2 + 1, none⟩ = some (.slice da ml dc) := zg
              go_wp2_with fail
              refine (unhide SB nA).mono ?_
              rintro e wB ⟨rfl, nB, rfl⟩
              have XW : Hid (XS w ((wr.drewN nA).drewN nB) rb xb R ps (.slice (some ⟨gk, 0, none⟩) N vc) (.slice (some ⟨gg, 0, none⟩) N glc) ks gps #[.bool true, .int .i64 gT, .int .i64 gvo, .int .i64 gbase, .int .i64 gbt, .slice ga gl gc, .slice (some ⟨gg, 0, none⟩) N glc, .slice none 0 0, .bool false, .slice none 0 0, .slice (some ⟨gk, 0, none⟩) N vc] K1) := (unhide XN nA).later (below_drewN3 (Below.refl _ _) nB)
              have RC2 : Hid (Row ((wr.drewN nA).drewN nB) (.slice ca ml cc) l) := (unhide RC nA).later (below_drewN3 (Below.refl _ _) nB)
              have RG2 : Hid (Row ((wr.drewN nA).drewN nB) (.slice da ml dc) l) := (unhide RG nA).later (below_drewN3 (Below.refl _ _) nB)
              have u10 : ((wr.drewN nA).drewN nB).cell? ⟨xb, 10, none⟩ = some (.slice (some ⟨gk, 0, none⟩) N vc) := x10
              have uc : ((wr.drewN nA).drewN nB).cell? ⟨gk, K1 * 2 + 1, none⟩ = some (.slice ca ml cc) := zc
              clear SA SA0 SB XN RC RG x6 x10 v6 vg zc zg y0
              generalize (wr.drewN nA).drewN nB = WB at *
              go_wp2_with fail
              clear u10 uc
              go_loopw [137] (fun s137 wy => ∃ (m : Nat) (l1 l2 : List Nat), m ≤ ml ∧ l1.length = ml ∧ l2.length = ml ∧ s137 = .int .i64 (m : Int) ∧ Row wy (.slice ca ml cc) l1 ∧ Row wy (.slice da ml dc) l2 ∧ XS w wy rb xb R ps (.slice (some ⟨gk, 0, none⟩) N vc) (.slice (some ⟨gg, 0, none⟩) N glc) ks gps #[.bool true, .int .i64 gT, .int .i64 gvo, .int .i64 gbase, .int .i64 gbt, .slice ga gl gc, .slice (some ⟨gg, 0, none⟩) N glc, .slice none 0 0, .bool false, .slice none 0 0, .slice (some ⟨gk, 0, none⟩) N vc] K1) (fun pl _ => ml - (intOf pl).toNat)
              case atStart => exact ⟨0, l, l, Nat.zero_le _, unhide HML, unhide HML, rfl, unhide RC2, unhide RG2, unhide XW⟩
              case round =>
                obtain ⟨m, l1, l2, hm, hl1, hl2, rfl, r1, r2, xw⟩ := hrel
                clear RC2 RG2 XW
                by_cases hmm : m < ml
                · have hmm' : (m : Int) < (ml : Int) := by omega
                  have hzm : (0 : Int) ≤ (m : Int) := by omega
                  obtain ⟨qa, qc, qe, q1, _, _, _, qo, q7⟩ := r1.parts
                  injection qe with e1 e2 e3
                  subst e1 e3
                  obtain ⟨g1, rfl, q8⟩ := q7 m (by omega)
                  obtain ⟨_, _, e4, _, q9, _⟩ := q1.cell (i := m) (by omega)
                  cases e4
                  obtain ⟨ta, tc, te, t1, _, _, _, tO, t7⟩ := r2.parts
                  injection te with f1 f2 f3
                  subst f1 f3
                  obtain ⟨g2, rfl, t8⟩ := t7 m (by omega)
                  obtain ⟨_, _, f4, _, t9, _⟩ := t1.cell (i := m) (by omega)
                  cases f4
                  simp only [Nat.zero_add] at q9 t9
                  obtain ⟨hd1, hd2⟩ := r1.heap (k := g1) rfl
                  obtain ⟨he1, he2⟩ := r2.heap (k := g2) rfl
                  have oc := unhide OC g1 rfl
                  have og := unhide OG g2 rfl
                  have hne : g1 ≠ g2 := fun e => by
                    obtain ⟨h1, h2⟩ := oc
                    obtain ⟨h3, h4⟩ := og
                    exact (unhide XX).apart g1 (.inr ⟨_, List.getElem_mem h1, h2⟩) (.inr ⟨_, List.getElem_mem h3, by rw [e]; exact h4⟩)
                  have xw1 := xw.write (unhide XX) hd2 (.inl oc) m (.int .u8 2)
                  have he3 := (touch_set wr g1 m (.int .u8 2)).keep he2 (Ne.symm hne)
                  have xw2 := xw1.write (unhide XX) he3 (.inr og) m (.int .u8 3)
                  have rr1 : Row (wr.setCell ⟨g1, m, none⟩ (.int .u8 2)) (.slice (some ⟨g1, 0, none⟩) ml cc) (l1.set m 2) := r1.set m (x := 2) (by omega)
                  have rr2 : Row (wr.setCell ⟨g1, m, none⟩ (.int .u8 2)) (.slice (some ⟨g2, 0, none⟩) ml dc) l2 := r2.keep (touch_set wr g1 m _) (fun k hk e => hne (by rw [← e]; have : some g2 = some k := hk; exact (Option.some.inj this).symm))
                  have FF : Hid (Row ((wr.setCell ⟨g1, m, none⟩ (.int .u8 2)).setCell ⟨g2, m, none⟩ (.int .u8 3)) (.slice (some ⟨g1, 0, none⟩) ml cc) (l1.set m 2) ∧ Row ((wr.setCell ⟨g1, m, none⟩ (.int .u8 2)).setCell ⟨g2, m, none⟩ (.int .u8 3)) (.slice (some ⟨g2, 0, none⟩) ml dc) (l2.set m 3) ∧ XS w ((wr.setCell ⟨g1, m, none⟩ (.int .u8 2)).setCell ⟨g2, m, none⟩ (.int .u8 3)) rb xb R ps (.slice (some ⟨gk, 0, none⟩) N vc) (.slice (some ⟨gg, 0, none⟩) N glc) ks gps #[.bool true, .int .i64 gT, .int .i64 gvo, .int .i64 gbase, .int .i64 gbt, .slice ga gl gc, .slice (some ⟨gg, 0, none⟩) N glc, .slice none 0 0, .bool false, .slice none 0 0, .slice (some ⟨gk, 0, none⟩) N vc] K1) :=
                    ⟨rr1.keep (touch_set _ g2 m _) (fun k hk e => hne (by have : some g1 = some k := hk; rw [← e]; exact Option.some.inj this)), rr2.set m (x := 3) (by omega), xw2⟩
                  obtain ⟨i1, hzc⟩ : ∃ h : K1 < ks.length, wr.cell? ⟨gk, K1 * 2 + 1, none⟩ = some (.slice (some ⟨g1, 0, none⟩) ml cc) := ⟨unhide IC, by
                    obtain ⟨g, cap, e, hz⟩ := xw.atC (unhide IC)
                    injection e with e1 _ _
                    cases e1
                    rw [hz]
                    exact congrArg some (unhide VC _)⟩
                  have hzg : (wr.setCell ⟨g1, m, none⟩ (.int .u8 2)).cell? ⟨gg, K1 * 2 + 1, none⟩ = some (.slice (some ⟨g2, 0, none⟩) ml dc) := by
                    obtain ⟨g, cap, e, hz⟩ := xw1.atL (unhide IG)
                    injection e with e1 _ _
                    cases e1
                    rw [hz]
                    exact congrArg some (unhide VG _)
                  have a10 : wr.cell? ⟨xb, 10, none⟩ = some (.slice (some ⟨gk, 0, none⟩) N vc) := cell_of xw.box 10
                  have a6 : (wr.setCell ⟨g1, m, none⟩ (.int .u8 2)).cell? ⟨xb, 6, none⟩ = some (.slice (some ⟨gg, 0, none⟩) N glc) := cell_of xw1.box 6
                  have c9 : (wr.setCell ⟨g1, m, none⟩ (.int .u8 2)).cell? ⟨g2, m, none⟩ = some (.int .u8 (l2.getD m 0 : Nat)) := by rw [World.cell?_of_block (a := ⟨g2, m, none⟩) ((touch_set wr g1 m (.int .u8 2)).block g2 (lt_of_heap he2) (Ne.symm hne))]; exact t9
                  have c8 : (wr.setCell ⟨g1, m, none⟩ (.int .u8 2)).frozen? ⟨g2, m, none⟩ = false := frozen_of he3 m
                  have HL1 : Hid ((l1.set m 2).length = ml) := by show _ = _; rw [List.length_set]; exact hl1
                  have HL2 : Hid ((l2.set m 3).length = ml) := by show _ = _; rw [List.length_set]; exact hl2
                  have hwm : IntKind.i64.wrap ((m : Int) + 1) = (m : Int) + 1 := wrap_low (by omega) (by have := unhide LL; omega)
                  generalize l1.getD m 0 = z1 at *
                  generalize l2.getD m 0 = z2 at *
                  clear r1 r2 xw xw1 xw2 rr1 rr2 q1 t1 e2 f2 hl1 hl2 qo tO q7 t7 he1 he2 he3 hd1 hd2 oc og
                  go_wp2
                  go_roundw
                  case rel => exact ⟨m + 1, _, _, by omega, unhide HL1, unhide HL2, by go_num, unhide FF⟩
                  case measure => simp [intOf]; omega
                · obtain rfl : m = ml := by omega
                  have XF := hide xw
                  clear r1 r2 xw hl1 hl2
                  go_wp2
                  go_roundw
                  case rel => exact ⟨K1, by have := unhide HK1; omega, by go_num, unhide XF⟩
                  case measure => have := unhide HK1; simp [intOf]; omega
            · obtain rfl : k = ls.length := by omega
              have AR := hide xs.raft
              have hpn := unhide HPL
              have PN := hide (propose2 (a := none) (c := 0) (l := []) (unhide AR) ⟨fun i hi => by simp at hi, fun _ => rfl, by simp⟩ (by simp) (by rw [unhide HPL]; have := unhide HNE; omega))
              clear xs XX hpn
              go_wp2_with fail
              refine (unhide PN).mono ?_
              rintro e w5 ⟨rfl, p', R', hp', a5, t5, n5⟩
              have hps' : ∃ t, (ps ++ [p']).map En.abs = lgL ls ls.length ++ t := ⟨_, by rw [List.map_append, unhide HPS]⟩
              have TK2 := hide (take2 a5 (by rw [List.length_append, List.length_singleton]; omega) (by rw [List.length_append, List.length_singleton, unhide HPL]; have := unhide HNE; omega))
              clear PN AR a5 t5 n5 hp'
              have HPS2 := hide hps'
              clear hps'
              go_wp2_with fail
              refine (unhide TK2).mono ?_
              rintro e w6 ⟨g, v, ks2, rfl, s⟩
              obtain ⟨va2, vc2, rfl⟩ := s.list.row.shape
              have TH : Hid (∀ j (hj : j < ls.length), ∃ h : j + 1 < g.ps.length, (g.ps[j + 1]'h).l = ls[j].l) := fun j hj => laid_l (unhide HPS2) s.T hj
              have EL6 := hide s.own.log
              have BF := hide s.raft.below
              obtain ⟨hT, hvo, hbase, hbt, ha, hc, hll, hla, hlc, hps3⟩ := g
              have RD : (.agg #[.bool true, .int .i64 hT, .int .i64 hvo, .int .i64 hbase, .int .i64 hbt, .slice ha hll.length hc, .slice hla hps3.length hlc, .slice none 0 0, .bool false, .slice none 0 0, .slice va2 ks2.length vc2]) = rdV true ⟨hT, hvo, hbase, hbt, ha, hc, hll, hla, hlc, hps3⟩ (.slice none 0 0) false (.slice none 0 0) (.slice va2 ks2.length vc2) := rfl
              rw [← RD]
              have EL7 : Hid (EL 64 w6 (.slice hla hps3.length hlc) hps3) := unhide EL6
              have TH2 : Hid (∀ j (hj : j < ls.length), ∃ h : j + 1 < hps3.length, (hps3[j + 1]'h).l = ls[j].l) := unhide TH
              clear RD s TK2 EL6 TH HPS2
              generalize hll.length = hl at *
              generalize ks2.length = vn2 at *
              have hAx : Below w6.heap.size w6 (w6.alloc (.cells #[.bool true, .int .i64 hT, .int .i64 hvo, .int .i64 hbase, .int .i64 hbt, .slice ha hl hc, .slice hla hps3.length hlc, .slice none 0 0, .bool false, .slice none 0 0, .slice va2 vn2 vc2] 57)) := (Below.refl _ _).alloc (Nat.le_refl _) _
              have G6 : (w6.alloc (.cells #[.bool true, .int .i64 hT, .int .i64 hvo, .int .i64 hbase, .int .i64 hbt, .slice ha hl hc, .slice hla hps3.length hlc, .slice none 0 0, .bool false, .slice none 0 0, .slice va2 vn2 vc2] 57)).heap[w6.heap.size]? = some (.cells #[.bool true, .int .i64 hT, .int .i64 hvo, .int .i64 hbase, .int .i64 hbt, .slice ha hl hc, .slice hla hps3.length hlc, .slice none 0 0, .bool false, .slice none 0 0, .slice va2 vn2 vc2] 57) := heap_new _ _
              have EL8 := hide ((unhide EL7).later hAx)
              have BF8 := hide ((unhide BF).trans (hAx.mono (unhide BF).size))
              have gx6 : (w6.alloc (.cells #[.bool true, .int .i64 hT, .int .i64 hvo, .int .i64 hbase, .int .i64 hbt, .slice ha hl hc, .slice hla hps3.length hlc, .slice none 0 0, .bool false, .slice none 0 0, .slice va2 vn2 vc2] 57)).cell? ⟨w6.heap.size, 6, none⟩ = some (.slice hla hps3.length hlc) := cell_of G6 6
              clear EL7 BF hAx G6
              go_wp2_with fail
              generalize w6.alloc (.cells #[.bool true, .int .i64 hT, .int .i64 hvo, .int .i64 hbase, .int .i64 hbt, .slice ha hl hc, .slice hla hps3.length hlc, .slice none 0 0, .bool false, .slice none 0 0, .slice va2 vn2 vc2] 57) = W7 at *
              generalize w6.heap.size = yb at *
              go_loopw [167] (fun s167 wz => ∃ k n : Nat, k ≤ ls.length ∧ s167 = .int .i64 (k : Int) ∧ wz = W7.drewN n) (fun pl _ => ls.length - (intOf pl).toNat)
              case atStart => exact ⟨0, 0, Nat.zero_le _, rfl, rfl⟩
              case round =>
                obtain ⟨k, n, hk, rfl, rfl⟩ := hrel
                by_cases hkl : k < ls.length
                · have hkl' : (k : Int) < (ls.length : Int) := by omega
                  have hz : (0 : Int) ≤ (k : Int) := by omega
                  obtain ⟨b, off, rfl, hbl, y0⟩ := ((unhide HX).later (unhide BF8)).cell k hkl
                  have PI := hide (((unhide HX).later (unhide BF8)).each _ (List.getElem_mem hkl))
                  obtain ⟨hg1, hg2⟩ := unhide TH2 k hkl
                  obtain ⟨gg2, capg, eg, x1, x2, x3, x4, zg⟩ := (unhide EL8).at_ hg1
                  clear x1 x2 x3 x4
                  injection eg with eg1 eg2 eg3
                  subst eg1 eg3
                  have rg0 := ((unhide EL8).each _ (List.getElem_mem hg1)).row
                  have LL := hide (unhide PI).len
                  have LP := hide (unhide PI).at_
                  simp only [enS] at zg rg0 y0
                  rw [hg2] at zg rg0
                  have hKN : ((k + 1 : Nat) : Int) < (hps3.length : Int) := by omega
                  have SB : Hid (Calls Try.prog 15 #[.slice (hps3[k + 1]'hg1).a ls[k].l.length (hps3[k + 1]'hg1).c, .slice ls[k].a ls[k].l.length ls[k].c] (W7.drewN n) fun e w' => e = .returned (.bool true) ∧ ∃ m, w' = (W7.drewN n).drewN m) := same03_any (W7.drewN n) _ _ _ _ ls[k].l ((row_ein 0 rg0 (unhide LL)).at_.keep ((Touch.refl (fun _ => False) W7).drewN n) (fun _ _ _ h => h)) ((unhide LP).keep ((Touch.refl (fun _ => False) W7).drewN n) (fun _ _ _ h => h)) (by have := unhide LL; omega)
                  clear PI rg0 LL LP eg2
                  generalize (hps3[k + 1]'hg1).a = da at *
                  generalize (hps3[k + 1]'hg1).c = dc at *
                  generalize ls[k].a = pa at *
                  generalize ls[k].c = pc at *
                  generalize ls[k].l.length = ml at *
                  clear hg2
                  clear hg1
                  have hwK : IntKind.i64.wrap ((k : Int) + 1) = ((k + 1 : Nat) : Int) := by rw [wrap_low (by omega) (by omega)]; omega
                  have hK0 : (0 : Int) ≤ ((k + 1 : Nat) : Int) := by omega
                  generalize hK1 : k + 1 = K1 at *
                  have HK1 := hide hK1
                  clear hK1
                  have y0' : (W7.drewN n).cell? ⟨b, off + k, none⟩ = some (.slice pa ml pc) := y0
                  have gx6' : (W7.drewN n).cell? ⟨yb, 6, none⟩ = some (.slice (some ⟨gg2, 0, none⟩) hps3.length hlc) := gx6
                  have zg' : (W7.drewN n).cell? ⟨gg2, K1 * 2 + 1, none⟩ = some (.slice da ml dc) := zg
                  go_wp2_with fail
                  refine (unhide SB).mono ?_
                  rintro e wB ⟨rfl, nB, rfl⟩
                  clear SB
                  go_wp2
                  go_roundw
                  case rel => exact ⟨K1, n + nB, by have := unhide HK1; omega, by go_num, by simp⟩
                  case measure => have := unhide HK1; simp [intOf]; omega
                · obtain rfl : k = ls.length := by omega
                  go_wp2
                  go_returns
                  exact ⟨rfl, below_drewN3 (unhide BF8) n⟩
end Go.Proofs.Ytibjfekfkllnjaa
