/-
  The road of ImageMoves. Conditions: its arguments as they are read.
-/
import Derived.Test.YthaedepnglincaaMw13
import Derived.Deep.CutBlock
namespace Go.Proofs.Ythaedepnglincaa
open Go.RowKit Go.Maps
set_option linter.unusedVariables false

theorem LX.cut {w wr : World} {mb : Nat} {g : Img} {S : Nat → Prop} (h : LX w wr mb g S) : LX w wr mb g (fun x => S x ∧ x < wr.heap.size) := by
  obtain ⟨m, h1, h2, h3⟩ := h.ex
  exact ⟨m, h1, h2, fun k hk => ⟨h3 k hk, h1.at_.lt hk⟩⟩
/-- Those that are to be said in sync, as far as n. -/
structure BlP (ls is : List Int) (ns : List Nd) (n : Nat) (bl : List Int) : Prop where
  sub : ∀ x ∈ bl, x ∈ ls ∨ x ∈ is
  has : ∀ x : Int, 0 ≤ x → x < (n : Int) → (x ∈ ls ∨ x ∈ is) → x ∈ bl
  al : ∀ x : Int, 0 ≤ x → x < (n : Int) → x ∈ ls → thr ns x = true ∨ x ∈ is
theorem BlP.nil (ls is : List Int) (ns : List Nd) : BlP ls is ns 0 [] := ⟨(fun x hx => by cases hx), (fun x h1 h2 => by omega), (fun x h1 h2 => by omega)⟩
theorem BlP.add {ls is : List Int} {ns : List Nd} {n : Nat} {bl : List Int} (h : BlP ls is ns n bl) (hm : (n : Int) ∈ ls ∨ (n : Int) ∈ is) (ha : (n : Int) ∈ ls → thr ns (n : Int) = true ∨ (n : Int) ∈ is) : BlP ls is ns (n + 1) (bl ++ [(n : Int)]) := by
  refine ⟨fun x hx => ?_, fun x h1 h2 hx => ?_, fun x h1 h2 hx => ?_⟩
  · rcases List.mem_append.1 hx with hx | hx
    · exact h.sub x hx
    · simp at hx; rw [hx]; exact hm
  · by_cases e : x = (n : Int)
    · rw [e]; simp
    · exact List.mem_append_left _ (h.has x h1 (by omega) hx)
  · by_cases e : x = (n : Int)
    · rw [e] at hx ⊢; exact ha hx
    · exact h.al x h1 (by omega) hx
theorem BlP.skip {ls is : List Int} {ns : List Nd} {n : Nat} {bl : List Int} (h : BlP ls is ns n bl) (h1 : ls.contains (n : Int) = false) (h2 : is.contains (n : Int) = false) : BlP ls is ns (n + 1) bl := by
  have k1 : (n : Int) ∉ ls := fun e => by simp [e] at h1
  have k2 : (n : Int) ∉ is := fun e => by simp [e] at h2
  refine ⟨h.sub, fun x q1 q2 hx => ?_, fun x q1 q2 hx => ?_⟩
  · by_cases e : x = (n : Int)
    · subst e; rcases hx with hx | hx
      · exact absurd hx k1
      · exact absurd hx k2
    · exact h.has x q1 (by omega) hx
  · by_cases e : x = (n : Int)
    · subst e; exact absurd hx k1
    · exact h.al x q1 (by omega) hx
theorem Rb.fresh {n : Nat} {l : List Int} (h : Rb n l) : l.contains (n : Int) = false := by
  cases hc : l.contains (n : Int) with
  | false => rfl
  | true =>
    have : (n : Int) ∈ l := by simpa using hc
    have := h.2 _ this
    omega
set_option maxRecDepth 100000 in
set_option maxHeartbeats 4000000 in
theorem imageMoves_walk (w : World) (a : Option Addr) (cap : Nat) (cs : List Cm) (hr : RowsAt cmL 6 w a cs) (hin : ∀ c ∈ cs, CGot w c) (hlen : cs.length * 64 ≤ reachBytes) (pt : Nat) (hpt : pt < 256) (ta : Option Addr) (tcap : Nat) (ts : List Nat) (ht : LAt w ta ts) (htl : ts.length ≤ 140737488355328) :
    Calls Try.prog 4 #[.slice a cs.length cap, .int .u8 (pt : Int), .slice ta ts.length tcap] w fun e w' => e = .returned (.bool true) ∧ Below w.heap.size w w' := by
  have KA : Hid (∀ W, Below w.heap.size w W → Calls Try.prog 12 #[.slice a cs.length cap] W fun e w' => AfterP W cs.length e w') := hide (fun W hW =>
    after_any W a cap cs (fun i hi => by
      obtain ⟨g, off, e1, e2, e3⟩ := hr i hi
      exact ⟨g, off, e1, Nat.lt_of_lt_of_le e2 hW.size, fun j hj => (hW.cell (p := ⟨g, off + i * 6 + j, none⟩) e2).trans (e3 j hj)⟩) (fun c hc => (hin c hc).later hW) hlen)
  have HT := hide ht
  unfold reachBytes at hlen
  have hlen2 : cs.length ≤ 2199023255552 := by omega
  have pk : pt % 4 < 4 := Nat.mod_lt _ (by omega)
  have x8 : IntKind.u8.wrap ((pt : Int) % 4) = (pt : Int) % 4 := by simp [IntKind.wrap, IntKind.bits, IntKind.signed]; omega
  have x9 : IntKind.i64.wrap ((pt : Int) % 4) = (pt : Int) % 4 := wrap_low (by omega) (by omega)
  clear hr hin hlen ht
  generalize hnn : cs.length = nn at *
  clear hnn
  generalize htn : ts.length = tn at *
  have HTN := hide htn
  clear htn
  go_enter Try.func4, Try.ntmps4
  go_upto_region 5 with (first
    | (go_at_call 6; refine (awake13 _).mono ?_; rintro e w1 ⟨rfl, b1⟩; have B1 := hide b1; clear b1)
    | (go_at_call 12; refine (unhide KA w1 (unhide B1)).mono ?_; rintro e w2 ⟨mb, g, rfl, l2, g2, c2⟩; have L2 := hide l2; have G2 := hide g2; have C2 := hide c2; clear l2 g2 c2 KA))
  have ek : (pt : Int) % 4 = ((pt % 4 : Nat) : Int) := by omega
  rw [ek]
  generalize pt % 4 = k at *
  clear ek x8 x9 hpt
  have B2 := hide ((unhide B1).trans ((unhide L2).below.mono (unhide B1).size))
  go_wp2_with fail
  go_loopg [9, 10] 5 (fun gg s9 s10 wr => ∃ (n : Nat) (ls : List Int), n ≤ 5 ∧ 5 - n ≤ gg ∧ s10 = .int .i64 n ∧ Hid (IL wr s9 ls) ∧ Hid (New w2 s9) ∧ Hid (Rb n ls) ∧ Hid (Below w2.heap.size w2 wr))
  case atStart => exact ⟨0, [], by omega, by omega, rfl, hide (IL.nil _), hide (New.nil _), hide (Rb.nil _), hide (Below.refl _ _)⟩
  case round =>
    obtain ⟨n, ls, hn, hgg, rfl, I1, N1, R1, BB⟩ := hrel
    by_cases hn5 : n < 5
    · have hnz : (n : Int) < 5 := by omega
      obtain ⟨a9, c9, e9, _⟩ := (unhide I1).iat
      subst e9
      go_wp2_with fail
      go_loopg [9, 42] tn (fun gj s9 s42 wq => ∃ (j : Nat) (lq : List Int), j ≤ tn ∧ tn - j ≤ gj ∧ s42 = .int .i64 j ∧ Hid (IL wq s9 lq) ∧ Hid (New w2 s9) ∧ Hid (Rb (n + 1) lq) ∧ Hid (Below w2.heap.size w2 wq))
      case atStart => exact ⟨0, ls, by omega, by omega, rfl, I1, N1, hide ((unhide R1).up (by omega)), BB⟩
      case round =>
        clear I1 N1 R1 BB
        obtain ⟨j, lq, hj, hgj, rfl, I1, N1, R1, BB⟩ := hrel
        obtain ⟨b9, d9, e9, i9, _⟩ := (unhide I1).iat
        subst e9
        by_cases hjn : j < tn
        · have hjz : (j : Int) < (tn : Int) := by omega
          have hj0 : (0 : Int) ≤ (j : Int) := by omega
          obtain ⟨xb, xo, ex, hxl, hxc, hx256⟩ := ((unhide HT).later ((unhide B2).trans ((unhide BB).mono (unhide B2).size))).cell (i := j) (by rw [unhide HTN]; exact hjn)
          subst ex
          clear hxl
          generalize ts.getD j 0 = x at *
          have y8 : IntKind.u8.wrap ((x : Int) % 5) = (x : Int) % 5 := by simp [IntKind.wrap, IntKind.bits, IntKind.signed]; omega
          have y9 : IntKind.i64.wrap ((x : Int) % 5) = (x : Int) % 5 := wrap_low (by omega) (by omega)
          have KH := hide (has_any (c := d9) (n : Int) i9 (unhide I1).len)
          have h5 := (unhide R1).len
          have hm5 : lq.length + [(n : Int)].length ≤ 17592186044416 := by simp; omega
          have HM5 := hide hm5
          clear i9 hm5
          by_cases hx : (x : Int) % 5 = (n : Int)
          · have hxb : ((x : Int) % 5 == (n : Int)) = true := by simpa using hx
            cases hc : lq.contains (n : Int) with
            | true =>
              rw [hc] at KH
              clear hx
              generalize lq.length = lql at *
              go_wp2_with (go_at_call 11; refine (unhide KH).mono ?_; rintro e w3 ⟨rfl, ey⟩; obtain rfl : wr = w3 := ey.symm)
              go_roundg (tn - (j + 1))
              case measure => omega
              case rel => exact ⟨j + 1, lq, by omega, by omega, by go_num, I1, N1, R1, BB⟩
            | false =>
              rw [hc] at KH
              have R2 := hide ((unhide R1).snoc hn5 hc)
              have HA := hide ((unhide I1).later ((Below.refl _ wr).alloc (Nat.le_refl _) (.cells #[.int .i64 (n : Int)] 3)))
              have hb' := hide ((unhide BB).alloc (unhide BB).size (.cells #[.int .i64 (n : Int)] 3))
              clear hx hc
              generalize hlq : lq.length = lql at *
              have HLQ := hide hlq
              clear hlq
              go_wp2_with (first
                | (go_at_call 11; refine (unhide KH).mono ?_; rintro e w3 ⟨rfl, ey⟩; obtain rfl : wr = w3 := ey.symm)
                | (at_builtin; refine wpList_ints _ rfl (.tmp 57) (.tmp 59) rfl _ lq rfl (unhide HA) _ 1 [(n : Int)] rfl (IAt.one wr _ _) (fun h => by cases h) (by rw [unhide HLQ]; exact unhide HM5) ?_; intro v' w' o1 o2 o3; have O1 := hide o1; have O2 := hide o2; have O3 := hide o3; clear o1 o2 o3))
              go_roundg (tn - (j + 1))
              case measure => omega
              case rel => exact ⟨j + 1, _, by omega, by omega, by go_num, O1, hide ((unhide N1).moved (unhide O3) (unhide hb').size), R2, hide ((unhide N1).below (unhide hb') (unhide O2))⟩
          · have hxb : ((x : Int) % 5 == (n : Int)) = false := by simpa using hx
            clear KH
            generalize lq.length = lql at *
            go_wp2
            go_roundg (tn - (j + 1))
            case measure => omega
            case rel => exact ⟨j + 1, lq, by omega, by omega, by go_num, I1, N1, R1, BB⟩
        · have hjz : ¬ (j : Int) < (tn : Int) := by omega
          clear i9
          generalize lq.length = lql at *
          go_wp2
          go_roundg (5 - (n + 1))
          case measure => omega
          case rel => exact ⟨n + 1, lq, by omega, by omega, by go_num, I1, N1, R1, BB⟩
    · have hnz : ¬ (n : Int) < 5 := by omega
      obtain ⟨a9, c9, e9, _⟩ := (unhide I1).iat
      subst e9
      obtain ⟨q, hq⟩ : ∃ q, g.ps[k]? = some q := ⟨_, List.getElem?_eq_getElem (by rw [(unhide G2).gf.pl]; exact pk)⟩
      have HQ := hide hq
      have KP := hide (ls_part ((unhide L2).later (unhide BB)) (unhide G2) hq)
      clear hq
      generalize hln : ls.length = ln at *
      have HLN := hide hln
      clear hln
      go_upto_region 16 with (go_at_call 9; refine (unhide KP).mono ?_; rintro e w3 ⟨ui, ur, ut, rfl, td⟩; obtain ⟨ai, ki, ei, _⟩ := td.li.iat; subst ei; obtain ⟨ar, kr, er, _⟩ := td.lr.iat; subst er; obtain ⟨at_, kt, et, _⟩ := td.lt.iat; subst et; have TD := hide td; clear td KP)
      have b4 : Below wr.heap.size wr (w3.alloc (.cells #[.int .i64 q.ld, .int .i64 q.ep, .int .i64 q.ve, .slice ai q.is.length ki, .slice ar q.rs.length kr, .slice at_ q.ts.length kt] 30)) := (unhide TD).below.trans (((Below.refl _ _).alloc (Nat.le_refl _) _).mono (unhide TD).below.size)
      have bx := heap_new w3 (.cells #[.int .i64 q.ld, .int .i64 q.ep, .int .i64 q.ve, .slice ai q.is.length ki, .slice ar q.rs.length kr, .slice at_ q.ts.length kt] 30)
      have ba := (Below.refl w3.heap.size w3).alloc (Nat.le_refl _) (.cells #[.int .i64 q.ld, .int .i64 q.ep, .int .i64 q.ve, .slice ai q.is.length ki, .slice ar q.rs.length kr, .slice at_ q.ts.length kt] 30)
      have ws2 : w2.heap.size ≤ wr.heap.size := (unhide BB).size
      have TI := hide ((unhide TD).li.later ba)
      have TR := hide ((unhide TD).lr.later ba)
      have TT := hide ((unhide TD).lt.later ba)
      have NI := hide ((unhide TD).ni.mono ws2)
      have NR := hide ((unhide TD).nr.mono ws2)
      have NT := hide ((unhide TD).nt.mono ws2)
      have B4 := hide ((unhide BB).trans (b4.mono ws2))
      have I4 := hide ((unhide I1).later b4)
      have hpb : w2.heap.size ≤ w3.heap.size := Nat.le_trans ws2 (unhide TD).below.size
      have HPB := hide hpb
      clear b4 ba TD ws2 hpb I1 BB
      generalize w3.alloc (.cells #[.int .i64 q.ld, .int .i64 q.ep, .int .i64 q.ve, .slice ai q.is.length ki, .slice ar q.rs.length kr, .slice at_ q.ts.length kt] 30) = W4 at *
      generalize w3.heap.size = pb at *
      have BXH := hide bx
      clear bx
      have b5 := (Below.refl W4.heap.size W4).alloc (Nat.le_refl _) (.cells #[] 3)
      have HL := hide (il_empty W4)
      have I5 := hide ((unhide I4).later b5)
      have IA5 : Hid (IAt (W4.alloc (.cells #[] 3)) a9 ls ∧ (a9 = none → c9 = 0)) := hide (by
        obtain ⟨a', c', e', h1, _, _, h2, _⟩ := (unhide I5).iat
        injection e' with e1 e2 e3
        subst e1 e3
        exact ⟨h1, h2⟩)
      have HM5 : Hid (([] : List Int).length + ls.length ≤ 17592186044416) := hide (by have := (unhide R1).len; simp; omega)
      have B5 := hide b5
      have KAP : Hid (∀ W a3 c3, Below w2.heap.size w2 W → IL W (.slice a3 ln c3) ls → New w2 (.slice a3 ln c3) → Calls Try.prog 7 #[.pointer (some ⟨mb, 0, none⟩), .agg #[.int .i64 4, .int .i64 0, .int .i64 (k : Int), .int .i64 0, .int .i64 0, .slice a3 ln c3]] W fun e w' => ∃ (E : Int) (g' : Img), e = .returned (.int .i64 E) ∧ Hid (LX w1 w' mb g' (fun x => x < w2.heap.size ∨ W.heap.size ≤ x)) ∧ Hid (Touch (· < w2.heap.size) W w') ∧ Hid (MvP g g' k q ls nn E)) := hide (fun W a3 c3 hW h1 h2 => by
        have hc := unhide C2
        have e1 := unhide HLN
        rw [← e1] at h1 h2 ⊢
        refine (lx_does 4 0 (k : Int) 0 0 (unhide L2).lx (unhide G2) (by omega) (by omega) (by omega) hW h1 h2).mono ?_
        rintro e w' ⟨rfl, x1, x2⟩
        exact ⟨_, _, rfl, hide x1, hide x2, hide (mvP (unhide G2) hc pk (unhide HQ) (unhide R1) a3 c3)⟩)
      clear b5
      have NW5 : Hid (New w2 (.slice (some ⟨W4.heap.size, 0, none⟩) 0 0)) := hide (fun x hx => by
        have e : W4.heap.size = x := Option.some.inj hx
        have := (unhide B4).size
        omega)
      go_upto_region 17 with (first
        | (at_builtin; refine wpList_ints _ rfl (.tmp 70) (.tmp 71) rfl _ [] rfl (unhide HL) a9 c9 ls (by rw [unhide HLN]; rfl) (unhide IA5).1 (unhide IA5).2 (unhide HM5) ?_; intro v5 w5 o1 o2 o3; obtain ⟨a3, c3, e3, _⟩ := o1.iat; simp only [List.nil_append] at e3 o1; rw [unhide HLN] at e3; subst e3; have O1 := hide o1; have O2 := hide o2; have O3 := hide o3; clear o1 o2 o3)
        | (go_at_call 7; refine (unhide KAP w5 a3 c3 ((unhide NW5).below (((unhide B4).trans ((unhide B5).mono (unhide B4).size))) (unhide O2)) (unhide O1) ((unhide NW5).moved (unhide O3) (((unhide B4).trans ((unhide B5).mono (unhide B4).size))).size)).mono ?_; rintro e w6 ⟨E, g', rfl, X6, T6, M6⟩; clear KAP))
      have T46 : Hid (Touch (· < w2.heap.size) W4 w6) := hide (touch_new (touch_new (Touch.of_below (unhide B5)) (unhide O2) (fun x hx => .inr (by
        have e : W4.heap.size = x := Option.some.inj hx
        omega))) (unhide T6) (fun x hx => .inl hx))
      have I6 := hide ((unhide I4).keep (unhide T46) (fun x hx h => by have := unhide N1 x hx; omega))
      have TI6 := hide ((unhide TI).keep (unhide T46) (fun x hx h => by have := unhide NI x hx; omega))
      have TR6 := hide ((unhide TR).keep (unhide T46) (fun x hx h => by have := unhide NR x hx; omega))
      have BX6 := hide ((unhide T46).keep (unhide BXH) (fun h => by have := unhide HPB; omega))
      have B6 : Hid (Below w.heap.size w w6) := hide ((unhide B1).trans ((unhide X6).ls.below.mono (unhide B1).size))
      have s56 : w5.heap.size ≤ w6.heap.size := (unhide T6).size
      have LT5 : Hid (∀ x, (Value.slice a9 ln c9).ownBlock = some x → x < w5.heap.size) := hide (fun x hx => by
        have h1 := (unhide I4).lt x hx
        have h2 := (unhide B5).size
        have h3 := (unhide O2).size
        omega)
      clear T46 O1 O2 O3 NW5 HM5 IA5 I5 HL I4 TI TR TT NI NR NT BXH B4 B5 HPB
      by_cases hl0 : ls = []
      · have e0 : ln = 0 := by rw [← unhide HLN, hl0]; rfl
        have e1 : E = 1 := (unhide M6).none hl0
        subst e0 e1
        clear M6 hl0 HLN
        go_wp2
        go_returns
        exact ⟨rfl, unhide B6⟩
      · have l0 : ¬ (ln : Int) = 0 := fun e => hl0 (List.length_eq_zero_iff.1 (by rw [unhide HLN]; omega))
        have l1 : ((ln : Int) == 0) = false := by simpa using l0
        have l2 : (0 : Int) < (ln : Int) := by omega
        by_cases ht0 : q.ts = []
        · have p5 := cell_of (unhide BX6) 5
          have e5 : q.ts.length = 0 := by rw [ht0]; rfl
          obtain ⟨eE, gn, gp⟩ := (unhide M6).done hl0 ht0
          subst eE
          rw [e5] at p5
          simp at p5
          have GN := hide gn
          have GP := hide gp
          have HL0 := hide hl0
          have HT0 := hide ht0
          clear gn gp e5 hl0 ht0
          go_wp2_with fail
          clear p5
          have p3 := cell_of (unhide BX6) 3
          simp at p3
          have KH : Hid (∀ x, Calls Try.prog 11 #[.slice ai q.is.length ki, .int .i64 x] w6 fun e w' => e = .returned (.bool (q.is.contains x)) ∧ w' = w6) := hide (fun x => by
            obtain ⟨a', k', e', h1, _⟩ := (unhide TI6).iat
            injection e' with e1 e2 e3
            subst e1 e3
            exact has_any x h1 (unhide TI6).len)
          have IA6 : Hid (IAt w6 a9 ls) := hide (by
            obtain ⟨a', c', e', h1, _⟩ := (unhide I6).iat
            injection e' with e1 e2 e3
            subst e1
            exact h1)
          have ln5 : ln ≤ 5 := by rw [← unhide HLN]; exact (unhide R1).len
          generalize hqi : q.is.length = qi at *
          have HQI := hide hqi
          clear hqi
          go_loopg [16, 102] ln (fun gj s16 s102 wq => ∃ (j : Nat) (bb : Bool), j ≤ ln ∧ ln - j ≤ gj ∧ s102 = .int .i64 j ∧ s16 = .bool bb ∧ wq = w6 ∧ Hid (bb = (ls.take j).all q.is.contains))
          case atStart => exact ⟨0, true, by omega, by omega, rfl, rfl, rfl, hide (by simp)⟩
          case round =>
            obtain ⟨j, bb, hj, hgj, rfl, rfl, ew, AB⟩ := hrel
            obtain rfl : w6 = wr := ew.symm
            by_cases hjn : j < ln
            · have hjz : (j : Int) < (ln : Int) := by omega
              have hj0 : (0 : Int) ≤ (j : Int) := by omega
              have hjl : j < ls.length := by rw [unhide HLN]; exact hjn
              obtain ⟨yb, yo, ea, hyl, hyc⟩ := unhide IA6 j hjl
              subst ea
              have NEW : Hid ((ls.take (j + 1)).all q.is.contains = (bb && q.is.contains (ls.getD j 0))) := hide (by rw [take_snoc hjl, List.all_append, ← unhide AB]; simp)
              clear hjl hyl AB
              generalize ls.getD j 0 = y at *
              have KY := hide (unhide KH y)
              generalize q.is.contains y = cy at *
              cases bb
              · go_wp2
                go_roundg (ln - (j + 1))
                case measure => omega
                case rel => exact ⟨j + 1, _, by omega, by omega, by go_num, rfl, rfl, hide (by rw [unhide NEW]; rfl)⟩
              · go_wp2_with (go_at_call 11; refine (unhide KY).mono ?_; rintro e w7 ⟨rfl, ey⟩; subst ey)
                go_roundg (ln - (j + 1))
                case measure => omega
                case rel => exact ⟨j + 1, _, by omega, by omega, by go_num, rfl, rfl, hide (by rw [unhide NEW]; rfl)⟩
            · have hjz : ¬ (j : Int) < (ln : Int) := by omega
              have ALL : Hid (bb = ls.all q.is.contains) := hide (by
                have e : j = ln := by omega
                rw [unhide AB, e, ← unhide HLN, List.take_length])
              clear AB KH p3
              obtain ⟨q2, hq2⟩ : ∃ q2, q2 = moveQ g.ns q ls := ⟨_, rfl⟩
              have GP2 : Hid (g'.ps[k]? = some q2) := hide (by rw [hq2]; exact unhide GP)
              have QA : Hid (bb = true → q2.rs = ls ∧ q2.is = ls ∧ q2.ts = []) := hide (fun h => by rw [hq2]; exact move_all (unhide HL0) (by rw [← unhide ALL]; exact h))
              have QN : Hid (bb = false → q2 = ⟨q.ld, q.ep, q.ve, q.is, q.rs, ls⟩) := hide (fun h => by rw [hq2]; exact move_not (unhide HL0) (by rw [← unhide ALL]; exact h))
              clear hq2 GP ALL
              have KP := hide (ls_part (unhide X6).ls (unhide M6).gl (unhide GP2))
              go_upto_region 26 with (go_at_call 9; refine (unhide KP).mono ?_; rintro e w8 ⟨ui, ur, ut, rfl, td⟩; obtain ⟨bi, ji, ei, _⟩ := td.li.iat; subst ei; obtain ⟨br, jr, er, _⟩ := td.lr.iat; subst er; obtain ⟨bt, jt, et, _⟩ := td.lt.iat; subst et; have TD := hide td; clear td KP)
              have b8 : Below w6.heap.size w6 (w8.alloc (.cells #[.int .i64 q2.ld, .int .i64 q2.ep, .int .i64 q2.ve, .slice bi q2.is.length ji, .slice br q2.rs.length jr, .slice bt q2.ts.length jt] 30)) := (unhide TD).below.trans (((Below.refl _ _).alloc (Nat.le_refl _) _).mono (unhide TD).below.size)
              have bx := heap_new w8 (.cells #[.int .i64 q2.ld, .int .i64 q2.ep, .int .i64 q2.ve, .slice bi q2.is.length ji, .slice br q2.rs.length jr, .slice bt q2.ts.length jt] 30)
              have ba := (Below.refl w8.heap.size w8).alloc (Nat.le_refl _) (.cells #[.int .i64 q2.ld, .int .i64 q2.ep, .int .i64 q2.ve, .slice bi q2.is.length ji, .slice br q2.rs.length jr, .slice bt q2.ts.length jt] 30)
              have UI := hide ((unhide TD).li.later ba)
              have UR := hide ((unhide TD).lr.later ba)
              have I8 := hide ((unhide I6).later b8)
              have TR8 := hide ((unhide TR6).later b8)
              have bw := below_keep b8 (unhide BX6)
              have BX8 := hide bx
              have BW8 := hide bw
              have B8 := hide b8
              have HPN : Hid (w6.heap.size ≤ w8.heap.size) := hide (unhide TD).below.size
              clear b8 ba TD bx bw
              generalize w8.alloc (.cells #[.int .i64 q2.ld, .int .i64 q2.ep, .int .i64 q2.ve, .slice bi q2.is.length ji, .slice br q2.rs.length jr, .slice bt q2.ts.length jt] 30) = W8 at *
              generalize w8.heap.size = pn at *
              have KS : Hid (∀ (W : World) (v : Option Addr) (c : Nat) (l : List Int), Touch (fun _ => False) W8 W → IL W8 (.slice v l.length c) l → Calls Try.prog 13 #[.slice v l.length c, .slice a9 ln c9] W fun e w' => e = .returned (.bool (decide (l = ls))) ∧ ∃ n, w' = W.drewN n) := hide (fun W v c l t hl => by
                obtain ⟨a', k', e', h1, _⟩ := (hl.keep t (fun _ _ h => h)).iat
                injection e' with e1 e2 e3
                subst e1 e3
                have i8 := unhide I8
                rw [← unhide HLN] at i8 ⊢
                obtain ⟨a', k', e', h2, _⟩ := (i8.keep t (fun _ _ h => h)).iat
                injection e' with e1 e2 e3
                subst e1 e3
                exact samei_any W _ _ _ _ l ls h1 h2 hl.len i8.len)
              have n3 := cell_of (unhide BX8) 3
              have n4 := cell_of (unhide BX8) 4
              have n5 := cell_of (unhide BX8) 5
              have n0 := cell_of (unhide BX8) 0
              have m4 := cell_of (unhide BW8) 4
              simp at n0 n3 n4 n5 m4
              have BF : Hid (∀ m, Below w.heap.size w (W8.drewN m)) := hide (fun m => below_drewN' ((unhide B6).trans ((unhide B8).mono (unhide B6).size)) m)
              have KR := hide (fun W t => unhide KS W br jr q2.rs t (unhide UR))
              have KI := hide (fun W t => unhide KS W bi ji q2.is t (unhide UI))
              have KW := hide (fun W t => unhide KS W ar kr q.rs t (unhide TR8))
              cases bb
              · have e2 := unhide QN rfl
                subst e2
                simp only at n0 n3 n4 n5
                have e5 := unhide HLN
                rw [e5] at n5
                clear e5
                have N0 := hide n0
                have N3 := hide n3
                clear QA QN KI n0
                go_cut [154] from 120 (fun s154 wz => s154 = .bool false ∧ Hid (∃ m, wz = W8.drewN m))
                case first =>
                  by_cases hx : q.rs = ls
                  · have KR2 : Hid (∀ W, Touch (fun _ => False) W8 W → Calls Try.prog 13 #[.slice br q.rs.length jr, .slice a9 ln c9] W fun e w' => e = .returned (.bool true) ∧ ∃ n, w' = W.drewN n) := hide (fun W t => by have := unhide KR W t; rw [decide_eq_true hx] at this; exact this)
                    have KW2 : Hid (∀ W, Touch (fun _ => False) W8 W → Calls Try.prog 13 #[.slice ar q.rs.length kr, .slice a9 ln c9] W fun e w' => e = .returned (.bool true) ∧ ∃ n, w' = W.drewN n) := hide (fun W t => by have := unhide KW W t; rw [decide_eq_true hx] at this; exact this)
                    clear hx KR KW KS
                    generalize q.rs.length = xr at *
                    go_wp2_with (first
                      | (go_at_call 13; have h1 := HR1; refine (unhide KW2 _ (tdrew _ _)).mono ?_; rintro e wy ⟨rfl, my, rfl⟩)
                      | (go_at_call 13; refine (unhide KR2 _ (Touch.refl _ _)).mono ?_; rintro e wy ⟨rfl, mx, rfl⟩; have HR1 := trivial; clear KR2))
                    go_meet
                    exact ⟨rfl, hide ⟨mx + my, rfl⟩⟩
                  · have KR2 : Hid (∀ W, Touch (fun _ => False) W8 W → Calls Try.prog 13 #[.slice br q.rs.length jr, .slice a9 ln c9] W fun e w' => e = .returned (.bool false) ∧ ∃ n, w' = W.drewN n) := hide (fun W t => by have := unhide KR W t; rw [decide_eq_false hx] at this; exact this)
                    clear hx KR KW KS
                    generalize q.rs.length = xr at *
                    go_wp2_with (go_at_call 13; refine (unhide KR2 _ (Touch.refl _ _)).mono ?_; rintro e wy ⟨rfl, mx, rfl⟩; clear KR2)
                    go_meet
                    exact ⟨rfl, hide ⟨mx, rfl⟩⟩
                case rest =>
                  obtain ⟨rfl, WC⟩ := hcut
                  obtain ⟨m, rfl⟩ := unhide WC
                  clear KR KW KS n3 n4 n5 m4
                  have n0 := unhide N0
                  by_cases hld : q.ld < 0
                  · go_wp2
                    go_returns
                    exact ⟨rfl, unhide BF _⟩
                  · have hl0 : decide (q.ld < 0) = false := by simpa using hld
                    have hge : 0 ≤ q.ld := by omega
                    go_wp2_with fail
                    have d8 : Below W8.heap.size W8 (W8.drewN m) := below_drewN' (Below.refl _ _) m
                    have B9 := hide (unhide BF m)
                    have D9 := hide ((unhide B8).trans (d8.mono (unhide B8).size))
                    have I9 := hide ((unhide I8).later d8)
                    have UI9 := hide ((unhide UI).later d8)
                    have BX9 := hide (below_keep d8 (unhide BX8))
                    clear d8 n0 BX8 BW8 TR8 UI UR I8 B8 BF WC
                    generalize W8.drewN m = W9 at *
                    have X9 := hide ((unhide X6).cut.later (unhide D9))
                    have KN : Hid (∀ W (x : Nat), x < 5 → Below W9.heap.size W9 W → Calls Try.prog 10 #[.pointer (some ⟨mb, 0, none⟩), .int .i64 x] W fun e w' => ∃ (th : Bool) (t u : Int), e = .returned (.tuple #[.bool th, .int .i64 t, .int .u64 u]) ∧ Hid (th = thr g'.ns (x : Int)) ∧ Hid (Below W9.heap.size W9 w') ∧ Hid (Below W.heap.size W w')) := hide (fun W x hx hW => (ls_node ((unhide X9).ls.later hW) (unhide M6).gl (x := (x : Int)) (by simp [isN]; omega)).mono (by
                      rintro e w' ⟨t, u, rfl, b⟩
                      exact ⟨_, t, u, rfl, hide rfl, hide (hW.trans (b.mono hW.size)), hide b⟩))
                    have KHL : Hid (∀ (x : Nat) W, Below W9.heap.size W9 W → Calls Try.prog 11 #[.slice a9 ln c9, .int .i64 x] W fun e w' => e = .returned (.bool (ls.contains (x : Int))) ∧ w' = W) := hide (fun x W hW => by
                      have i9 := unhide I9
                      rw [← unhide HLN] at i9 ⊢
                      obtain ⟨a', k', e', h1, _⟩ := (i9.later hW).iat
                      injection e' with e1 e2 e3
                      subst e1 e3
                      exact has_any _ h1 i9.len)
                    have KHI : Hid (∀ (x : Nat) W, Below W9.heap.size W9 W → Calls Try.prog 11 #[.slice bi q.is.length ji, .int .i64 x] W fun e w' => e = .returned (.bool (q.is.contains (x : Int))) ∧ w' = W) := hide (fun x W hW => by
                      obtain ⟨a', k', e', h1, _⟩ := ((unhide UI9).later hW).iat
                      injection e' with e1 e2 e3
                      subst e1 e3
                      exact has_any _ h1 (unhide UI9).len)
                    go_loopg [21, 22] 5 (fun gg s21 s22 wq => ∃ (x : Nat) (bl : List Int), x ≤ 5 ∧ 5 - x ≤ gg ∧ s22 = .int .i64 x ∧ Hid (IL wq s21 bl) ∧ Hid (New W9 s21) ∧ Hid (Rb x bl) ∧ Hid (BlP ls q.is g'.ns x bl) ∧ Hid (Below W9.heap.size W9 wq))
                    case atStart => exact ⟨0, [], by omega, by omega, rfl, hide (IL.nil _), hide (New.nil _), hide (Rb.nil _), hide (BlP.nil _ _ _), hide (Below.refl _ _)⟩
                    case round =>
                      obtain ⟨x, bl, hx, hgx, rfl, I4, N4, RB4, P4, BB4⟩ := hrel
                      obtain ⟨ba, bc, eb, _⟩ := (unhide I4).iat
                      subst eb
                      by_cases hx5 : x < 5
                      · have hxz : (x : Int) < 5 := by omega
                        have KNx := hide (unhide KN wr x hx5 (unhide BB4))
                        have hm5 := (unhide RB4).len
                        have HM5 : Hid (bl.length + [(x : Int)].length ≤ 17592186044416) := hide (by simp; omega)
                        have R4 := hide (((unhide RB4).up (by omega)).snoc hx5 (unhide RB4).fresh)
                        clear hm5
                        generalize hbl : bl.length = bll at *
                        have HBL := hide hbl
                        clear hbl
                        go_upto_region 35 with (go_at_call 10; refine (unhide KNx).mono ?_; rintro e w10 ⟨th, t10, u10, rfl, TH, B10, C10⟩; clear KNx)
                        have bz := below_keep (unhide B10) (unhide BX9)
                        have n3 := cell_of bz 3
                        simp at n3
                        clear bz
                        have KL := unhide KHL x
                        have KI := unhide KHI x
                        have HA := hide (((unhide I4).later (unhide C10)).later ((Below.refl _ w10).alloc (Nat.le_refl _) (.cells #[.int .i64 (x : Int)] 3)))
                        have hb' := hide ((unhide B10).alloc (unhide B10).size (.cells #[.int .i64 (x : Int)] 3))
                        generalize q.is.length = qil at *
                        cases hc : ls.contains (x : Int) with
                        | false =>
                          simp only [hc] at KL
                          cases hi : q.is.contains (x : Int) with
                          | false =>
                            simp only [hi] at KI
                            have P5 := hide ((unhide P4).skip hc hi)
                            clear hc hi
                            go_wp2_with fail
                            refine (KL w10 (unhide B10)).mono ?_
                            rintro e wy ⟨rfl, ey⟩
                            obtain rfl : w10 = wy := ey.symm
                            go_wp2_with fail
                            refine (KL w10 (unhide B10)).mono ?_
                            rintro e wy ⟨rfl, ey⟩
                            obtain rfl : w10 = wy := ey.symm
                            go_wp2_with fail
                            refine (KI w10 (unhide B10)).mono ?_
                            rintro e wy ⟨rfl, ey⟩
                            obtain rfl : w10 = wy := ey.symm
                            go_wp2
                            go_roundg (5 - (x + 1))
                            case measure => omega
                            case rel => exact ⟨x + 1, bl, by omega, by omega, by go_num, hide ((unhide I4).later (unhide C10)), N4, hide ((unhide RB4).up (by omega)), P5, hide ((unhide BB4).trans ((unhide C10).mono (unhide BB4).size))⟩
                          | true =>
                            simp only [hi] at KI
                            have MM : Hid ((x : Int) ∈ ls ∨ (x : Int) ∈ q.is) := hide (.inr (by simpa using hi))
                            have AA : Hid ((x : Int) ∈ ls → thr g'.ns (x : Int) = true ∨ (x : Int) ∈ q.is) := hide (fun _ => .inr (by simpa using hi))
                            clear hc hi
                            go_wp2_with fail
                            refine (KL w10 (unhide B10)).mono ?_
                            rintro e wy ⟨rfl, ey⟩
                            obtain rfl : w10 = wy := ey.symm
                            go_wp2_with fail
                            refine (KL w10 (unhide B10)).mono ?_
                            rintro e wy ⟨rfl, ey⟩
                            obtain rfl : w10 = wy := ey.symm
                            go_wp2_with fail
                            refine (KI w10 (unhide B10)).mono ?_
                            rintro e wy ⟨rfl, ey⟩
                            obtain rfl : w10 = wy := ey.symm
                            go_wp2_with (at_builtin; refine wpList_ints _ rfl (.tmp 195) (.tmp 197) rfl _ bl rfl (unhide HA) _ 1 [(x : Int)] rfl (IAt.one w10 _ _) (fun h => by cases h) (by rw [unhide HBL]; exact unhide HM5) ?_; intro v' w' o1 o2 o3; have O1 := hide o1; have O2 := hide o2; have O3 := hide o3; clear o1 o2 o3)
                            go_roundg (5 - (x + 1))
                            case measure => omega
                            case rel => exact ⟨x + 1, _, by omega, by omega, by go_num, O1, hide ((unhide N4).moved (unhide O3) (unhide hb').size), R4, hide ((unhide P4).add (unhide MM) (unhide AA)), hide ((unhide N4).below (unhide hb') (unhide O2))⟩
                        | true =>
                          simp only [hc] at KL
                          have MM : Hid ((x : Int) ∈ ls ∨ (x : Int) ∈ q.is) := hide (.inl (by simpa using hc))
                          cases hh : thr g'.ns (x : Int) with
                          | true =>
                            have AA : Hid ((x : Int) ∈ ls → thr g'.ns (x : Int) = true ∨ (x : Int) ∈ q.is) := hide (fun _ => .inl hh)
                            have et : th = true := by rw [unhide TH, hh]
                            subst et
                            clear hc hh
                            go_wp2_with fail
                            refine (KL w10 (unhide B10)).mono ?_
                            rintro e wy ⟨rfl, ey⟩
                            obtain rfl : w10 = wy := ey.symm
                            go_wp2_with fail
                            refine (KL w10 (unhide B10)).mono ?_
                            rintro e wy ⟨rfl, ey⟩
                            obtain rfl : w10 = wy := ey.symm
                            go_wp2_with (at_builtin; refine wpList_ints _ rfl (.tmp 195) (.tmp 197) rfl _ bl rfl (unhide HA) _ 1 [(x : Int)] rfl (IAt.one w10 _ _) (fun h => by cases h) (by rw [unhide HBL]; exact unhide HM5) ?_; intro v' w' o1 o2 o3; have O1 := hide o1; have O2 := hide o2; have O3 := hide o3; clear o1 o2 o3)
                            go_roundg (5 - (x + 1))
                            case measure => omega
                            case rel => exact ⟨x + 1, _, by omega, by omega, by go_num, O1, hide ((unhide N4).moved (unhide O3) (unhide hb').size), R4, hide ((unhide P4).add (unhide MM) (unhide AA)), hide ((unhide N4).below (unhide hb') (unhide O2))⟩
                          | false =>
                            have et : th = false := by rw [unhide TH, hh]
                            subst et
                            cases hi : q.is.contains (x : Int) with
                            | true =>
                              simp only [hi] at KI
                              have AA : Hid ((x : Int) ∈ ls → thr g'.ns (x : Int) = true ∨ (x : Int) ∈ q.is) := hide (fun _ => .inr (by simpa using hi))
                              clear hc hi hh
                              go_wp2_with fail
                              refine (KL w10 (unhide B10)).mono ?_
                              rintro e wy ⟨rfl, ey⟩
                              obtain rfl : w10 = wy := ey.symm
                              go_wp2_with fail
                              refine (KI w10 (unhide B10)).mono ?_
                              rintro e wy ⟨rfl, ey⟩
                              obtain rfl : w10 = wy := ey.symm
                              go_wp2_with fail
                              refine (KL w10 (unhide B10)).mono ?_
                              rintro e wy ⟨rfl, ey⟩
                              obtain rfl : w10 = wy := ey.symm
                              go_wp2_with (at_builtin; refine wpList_ints _ rfl (.tmp 195) (.tmp 197) rfl _ bl rfl (unhide HA) _ 1 [(x : Int)] rfl (IAt.one w10 _ _) (fun h => by cases h) (by rw [unhide HBL]; exact unhide HM5) ?_; intro v' w' o1 o2 o3; have O1 := hide o1; have O2 := hide o2; have O3 := hide o3; clear o1 o2 o3)
                              go_roundg (5 - (x + 1))
                              case measure => omega
                              case rel => exact ⟨x + 1, _, by omega, by omega, by go_num, O1, hide ((unhide N4).moved (unhide O3) (unhide hb').size), R4, hide ((unhide P4).add (unhide MM) (unhide AA)), hide ((unhide N4).below (unhide hb') (unhide O2))⟩
                            | false =>
                              simp only [hi] at KI
                              have BE : Hid (Below w.heap.size w w10) := hide ((unhide B9).trans ((unhide B10).mono (unhide B9).size))
                              clear hc hi hh
                              go_wp2_with fail
                              refine (KL w10 (unhide B10)).mono ?_
                              rintro e wy ⟨rfl, ey⟩
                              obtain rfl : w10 = wy := ey.symm
                              go_wp2_with fail
                              refine (KI w10 (unhide B10)).mono ?_
                              rintro e wy ⟨rfl, ey⟩
                              obtain rfl : w10 = wy := ey.symm
                              go_wp2
                              go_returns
                              exact ⟨rfl, unhide BE⟩
                      · have hxz : ¬ (x : Int) < 5 := by omega
                        have KAP : Hid (Calls Try.prog 7 #[.pointer (some ⟨mb, 0, none⟩), .agg #[.int .i64 3, .int .i64 q.ld, .int .i64 (k : Int), .int .i64 q.ep, .int .i64 q.ve, .slice ba bl.length bc]] wr fun e w' => ∃ (g3 : Img) (ld3 ep3 ve3 : Int), e = .returned (.int .i64 0) ∧ Hid (LX w1 w' mb g3 (fun y => ((y < w2.heap.size ∨ w5.heap.size ≤ y) ∧ y < w6.heap.size) ∨ wr.heap.size ≤ y)) ∧ Hid (Touch (fun y => (y < w2.heap.size ∨ w5.heap.size ≤ y) ∧ y < w6.heap.size) wr w') ∧ Hid (g3.ps[k]? = some ⟨ld3, ep3, ve3, ls, ls, []⟩) ∧ Hid (ls.contains q.ld = decide (ep3 = q.ep)) ∧ Hid (GL 5 4 (3 * ((nn + 1 : Nat) : Int) + 3) g3)) := hide (by
                          have hc := (unhide M6).ct
                          have hG := (unhide M6).gl
                          have hn5' : n = 5 := by omega
                          have hLq := hG.li k _ (unhide GP2)
                          have hls : inN 5 ls := isL_in ((unhide R1).isL (unhide HL0))
                          have x5 : (x : Int) = 5 := by omega
                          have in5 : ∀ {l : List Int}, inN 5 l → ∀ y ∈ l, 0 ≤ y ∧ y < (x : Int) := fun hl y hy => by
                            have := hl y hy
                            simp only [isN, Bool.and_eq_true, decide_eq_true_eq] at this
                            omega
                          obtain ⟨s1, q3, s2, s3, s4, s5, s6⟩ := is_some hG pk ba bc (unhide RB4) (l := ls) (unhide GP2) hge (unhide HL0) rfl (unhide P4).sub (fun y hy => (unhide P4).has y (in5 hls y hy).1 (in5 hls y hy).2 (.inl hy)) (fun y hy => (unhide P4).has y (in5 hLq.nn y hy).1 (in5 hLq.nn y hy).2 (.inr hy)) (fun y hy => (unhide P4).al y (in5 hls y hy).1 (in5 hls y hy).2 hy)
                          refine (lx_does 3 q.ld (k : Int) q.ep q.ve (unhide X9) hG (by omega) (by omega) (by omega) (unhide BB4) (unhide I4) (unhide N4)).mono ?_
                          rintro e w' ⟨rfl, z1, z2⟩
                          obtain ⟨ld3, ep3, ve3, i3, r3, t3⟩ := q3
                          simp only at s3 s4 s5 s6
                          rw [s3, s4, s5] at s2
                          exact ⟨_, ld3, ep3, ve3, by rw [show (applyI g' ⟨3, q.ld, (k : Int), q.ep, q.ve, ba, bc, bl⟩).1 = 0 from s1], hide z1, hide z2, hide s2, hide s6, hide (hG.apply _).1⟩)
                        have n0 := cell_of (below_keep (unhide BB4) (unhide BX9)) 0
                        have n1 := cell_of (below_keep (unhide BB4) (unhide BX9)) 1
                        have n2 := cell_of (below_keep (unhide BB4) (unhide BX9)) 2
                        simp at n0 n1 n2
                        generalize bl.length = bll at *
                        go_upto_region 40 with (go_at_call 7; refine (unhide KAP).mono ?_; rintro e w12 ⟨g3, ld3, ep3, ve3, rfl, X12, T12, G12, E12, GL12⟩; clear KAP)
                        clear n0 n1 n2 KN KHL KHI I4 N4 RB4 P4
                        have KP3 : Hid (Calls Try.prog 9 #[.pointer (some ⟨mb, 0, none⟩), .int .i64 k] w12 fun e w' => ∃ ei ki3 er kr3 et kt3, e = .returned (.tuple #[.agg #[.int .i64 ld3, .int .i64 ep3, .int .i64 ve3, .slice ei ln ki3, .slice er ln kr3, .slice et 0 kt3], .bool true]) ∧ Hid (IL w' (.slice ei ln ki3) ls) ∧ Hid (IL w' (.slice er ln kr3) ls) ∧ Hid (Below w12.heap.size w12 w')) := hide ((ls_part (unhide X12).ls (unhide GL12) (unhide G12)).mono (by
                          rintro e w' ⟨ui, ur, ut, rfl, td⟩
                          obtain ⟨a1, k1, e1, _⟩ := td.li.iat
                          subst e1
                          obtain ⟨a2, k2, e2, _⟩ := td.lr.iat
                          subst e2
                          obtain ⟨a3', k3, e3, _⟩ := td.lt.iat
                          subst e3
                          have hh := unhide HLN
                          have q1 := td.li
                          have q2 := td.lr
                          simp only at q1 q2
                          rw [hh] at q1 q2
                          refine ⟨a1, k1, a2, k2, a3', k3, ?_, hide q1, hide q2, hide td.below⟩
                          simp only
                          rw [hh]
                          rfl))
                        go_upto_region 41 with (go_at_call 9; refine (unhide KP3).mono ?_; rintro e w14 ⟨ei, ki3, er, kr3, et, kt3, rfl, Z1, Z2, Z3⟩; clear KP3)
                        have ba := (Below.refl w14.heap.size w14).alloc (Nat.le_refl _) (.cells #[.int .i64 ld3, .int .i64 ep3, .int .i64 ve3, .slice ei ln ki3, .slice er ln kr3, .slice et 0 kt3] 30)
                        have b14 : Below w12.heap.size w12 (w14.alloc (.cells #[.int .i64 ld3, .int .i64 ep3, .int .i64 ve3, .slice ei ln ki3, .slice er ln kr3, .slice et 0 kt3] 30)) := (unhide Z3).trans (ba.mono (unhide Z3).size)
                        have Z4 := hide ((unhide Z1).later ba)
                        have Z5 := hide ((unhide Z2).later ba)
                        have i12 := (((unhide I9).later (unhide BB4)).keep (unhide T12) (fun y hy h => by
                          have h1 := unhide N1 y hy
                          have h2 := unhide LT5 y hy
                          omega)).later b14
                        have I14 := hide i12
                        have n12 := below_keep b14 ((unhide T12).keep (below_keep (unhide BB4) (unhide BX9)) (fun h => by
                          have h1 := unhide HPN
                          have h2 := h.2
                          omega))
                        have bx := heap_new w14 (.cells #[.int .i64 ld3, .int .i64 ep3, .int .i64 ve3, .slice ei ln ki3, .slice er ln kr3, .slice et 0 kt3] 30)
                        have B14 : Hid (∀ m, Below w.heap.size w ((w14.alloc (.cells #[.int .i64 ld3, .int .i64 ep3, .int .i64 ve3, .slice ei ln ki3, .slice er ln kr3, .slice et 0 kt3] 30)).drewN m)) := hide (fun m => below_drewN' (((unhide B1).trans ((unhide X12).ls.below.mono (unhide B1).size)).trans (b14.mono (((unhide B1).trans ((unhide X12).ls.below.mono (unhide B1).size))).size)) m)
                        have N12 := hide n12
                        have BXE := hide bx
                        clear ba b14 i12 n12 bx Z1 Z2 Z3
                        generalize w14.alloc (.cells #[.int .i64 ld3, .int .i64 ep3, .int .i64 ve3, .slice ei ln ki3, .slice er ln kr3, .slice et 0 kt3] 30) = W14 at *
                        generalize w14.heap.size = pe at *
                        have n0 := cell_of (unhide N12) 0
                        have n1 := cell_of (unhide N12) 1
                        have v1 := cell_of (unhide BXE) 1
                        have v3 := cell_of (unhide BXE) 3
                        have v4 := cell_of (unhide BXE) 4
                        have v5 := cell_of (unhide BXE) 5
                        simp at n0 n1 v1 v3 v4 v5
                        have KS : Hid (∀ m v c, IL W14 (.slice v ln c) ls → Calls Try.prog 13 #[.slice v ln c, .slice a9 ln c9] (W14.drewN m) fun e w' => e = .returned (.bool true) ∧ ∃ n, w' = (W14.drewN m).drewN n) := hide (fun m v c hl => by
                          have hh := unhide HLN
                          have i14 := unhide I14
                          rw [← hh] at hl i14 ⊢
                          obtain ⟨a', k', e', h1, _⟩ := (hl.keep (tdrew W14 m) (fun _ _ h => h)).iat
                          injection e' with e1 e2 e3
                          subst e1 e3
                          obtain ⟨a', k', e', h2, _⟩ := (i14.keep (tdrew W14 m) (fun _ _ h => h)).iat
                          injection e' with e1 e2 e3
                          subst e1 e3
                          have := samei_any (W14.drewN m) v a9 c c9 ls ls h1 h2 hl.len hl.len
                          simpa using this)
                        have KL : Hid (∀ m, Calls Try.prog 11 #[.slice a9 ln c9, .int .i64 q.ld] (W14.drewN m) fun e w' => e = .returned (.bool (decide (ep3 = q.ep))) ∧ w' = W14.drewN m) := hide (fun m => by
                          have i14 := unhide I14
                          rw [← unhide HLN] at i14 ⊢
                          obtain ⟨a', k', e', h2, _⟩ := (i14.keep (tdrew W14 m) (fun _ _ h => h)).iat
                          injection e' with e1 e2 e3
                          subst e1 e3
                          have := has_any (c := c9) q.ld h2 i14.len
                          rw [unhide E12] at this
                          exact this)
                        by_cases hep : ep3 = q.ep
                        · have KL2 : Hid (∀ m, Calls Try.prog 11 #[.slice a9 ln c9, .int .i64 q.ld] (W14.drewN m) fun e w' => e = .returned (.bool true) ∧ w' = W14.drewN m) := hide (fun m => by have := unhide KL m; rw [decide_eq_true hep] at this; exact this)
                          have he : (ep3 == q.ep) = true := by simpa using hep
                          clear KL hep
                          go_quiet (first
                            | (go_at_call 13; exact Calls.quiet_of (unhide KS _ _ _ (by first | exact unhide Z4 | exact unhide Z5)))
                            | (go_at_call 11; exact Calls.quiet_of_same (unhide KL2 _)))
                          go_wp2
                          go_returns
                          exact ⟨rfl, unhide B14 _⟩
                        · have KL2 : Hid (∀ m, Calls Try.prog 11 #[.slice a9 ln c9, .int .i64 q.ld] (W14.drewN m) fun e w' => e = .returned (.bool false) ∧ w' = W14.drewN m) := hide (fun m => by have := unhide KL m; rw [decide_eq_false hep] at this; exact this)
                          have he : (ep3 == q.ep) = false := by simpa using hep
                          clear KL hep
                          go_quiet (first
                            | (go_at_call 13; exact Calls.quiet_of (unhide KS _ _ _ (by first | exact unhide Z4 | exact unhide Z5)))
                            | (go_at_call 11; exact Calls.quiet_of_same (unhide KL2 _)))
                          go_wp2
                          go_returns
                          exact ⟨rfl, unhide B14 _⟩
              · obtain ⟨r1, r2, r3⟩ := unhide QA rfl
                have r3' : q2.ts.length = 0 := by rw [r3]; rfl
                rw [r3'] at n5
                have KR2 : Hid (∀ W, Touch (fun _ => False) W8 W → Calls Try.prog 13 #[.slice br q2.rs.length jr, .slice a9 ln c9] W fun e w' => e = .returned (.bool true) ∧ ∃ n, w' = W.drewN n) := hide (fun W t => by have := unhide KR W t; rw [decide_eq_true r1] at this; exact this)
                have KI2 : Hid (∀ W, Touch (fun _ => False) W8 W → Calls Try.prog 13 #[.slice bi q2.is.length ji, .slice a9 ln c9] W fun e w' => e = .returned (.bool true) ∧ ∃ n, w' = W.drewN n) := hide (fun W t => by have := unhide KI W t; rw [decide_eq_true r2] at this; exact this)
                clear r1 r2 r3 r3' QA QN KR KI KW KS m4 n0
                generalize q2.rs.length = xr at *
                generalize q2.is.length = xi at *
                go_wp2_with (first
                  | (go_at_call 13; have h1 := HR1; refine (unhide KI2 _ (tdrew _ _)).mono ?_; rintro e wy ⟨rfl, my, rfl⟩)
                  | (go_at_call 13; refine (unhide KR2 _ (Touch.refl _ _)).mono ?_; rintro e wy ⟨rfl, mx, rfl⟩; have HR1 := trivial; clear KR2))
                go_returns
                exact ⟨rfl, by first | exact unhide BF _ | (rw [World.drewN_drewN]; exact unhide BF _)⟩
        · have e1 : E = 16 := (unhide M6).busy hl0 ht0
          have p5 := cell_of (unhide BX6) 5
          simp at p5
          have t0 : (0 : Int) < (q.ts.length : Int) := by
            have : q.ts.length ≠ 0 := fun e => ht0 (List.length_eq_zero_iff.1 e)
            omega
          subst e1
          clear M6 hl0 ht0 HLN
          generalize q.ts.length = tl at *
          go_wp2
          go_returns
          exact ⟨rfl, unhide B6⟩
end Go.Proofs.Ythaedepnglincaa
