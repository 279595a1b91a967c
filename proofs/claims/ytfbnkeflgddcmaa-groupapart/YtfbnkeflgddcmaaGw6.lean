/-
  What holds of group 1; does a transaction under way say how far it has come. Conditions: the state as it lies.
-/
import Derived.Test.YtfbnkeflgddcmaaGw5
namespace Go.Proofs.Ytfbnkeflgddcmaa
open Go.RowKit Go.Maps
set_option linter.unusedVariables false

theorem GS.look {B : Nat} {w : World} {sb : Nat} {mv1 mv2 : Value} {m1 : List (Int × Tm)} {W : List (Int × Sl)} (h : GS B w sb mv1 mv2 m1 W) : (Instr.lookup 49 mv1 (.int .i64 1) false).run Try.prog w = .ok (tmV (tOf m1)) w := by
  rcases h.g with ⟨rfl, e2⟩ | ⟨b, rfl, m, _⟩
  · rw [e2]
    exact mlook1_nil gK (s := 1) wf_one w
  · exact m.look1 (M := gK) (s := 1) wf_one
theorem res_nm {Y : World} {g : Nat} {l : List Value} {tmps : Array Value} (h : Y.heap[g]? = some (.cells l.toArray 61)) (hl : l.length = 6) (ht : tmps[4]?.getD undef = .pointer (some ⟨g, 0, none⟩)) (h5 : tmps[5]?.getD undef = .int .i64 0) :
    (results Try.f19 tmps).run Try.prog Y = .ok (.tuple #[.agg l.toArray, .int .i64 0]) Y := by
  have hi : (Try.prog.info? 61).map (·.size) = some l.length := by rw [hl]; kernel_rfl
  have hr : Y.rangeAt g 0 l := fun j v hv => by rw [Nat.zero_add, cell_of h]; simpa using hv
  have hlv := run_loadVar_mid (P := Try.prog) Y g 0 61 l _ hr Try.underlying61 rfl hi
  simp [results, Try.results19, ht, h5, asAddr, hlv]
set_option maxRecDepth 100000 in
set_option maxHeartbeats 4000000 in
theorem named_one {B : Nat} {w : World} {sb : Nat} {mv1 mv2 : Value} {m1 : List (Int × Tm)} {W : List (Int × Sl)} (h : GS B w sb mv1 mv2 m1 W) :
    Calls Try.prog 19 #[.pointer (some ⟨sb, 0, none⟩), .int .i64 1] w fun e w' => e = .returned (.tuple #[tmV (tOf m1), .int .i64 0]) ∧ Below w.heap.size w w' := by
  have b1 := (Below.refl w.heap.size w).alloc (Nat.le_refl _) (.cells #[.int .i64 0, .slice none 0 0, .int .i64 0, .int .i64 0, .int .i64 0, .int .i64 0] 61)
  have HZ := hide (heap_new w (.cells #[.int .i64 0, .slice none 0 0, .int .i64 0, .int .i64 0, .int .i64 0, .int .i64 0] 61))
  have h1 := h.later b1
  have y0 : (w.alloc (.cells #[.int .i64 0, .slice none 0 0, .int .i64 0, .int .i64 0, .int .i64 0, .int .i64 0] 61)).cell? ⟨sb, 0, none⟩ = some mv1 := cell_of h1.obj 0
  have lk := h1.look
  have B1 := hide b1
  clear h h1 b1
  generalize tOf m1 = T at *
  obtain ⟨tg, tgb, tn, tc, o0, o1, o2, o3⟩ := T
  unfold tmV tmC at *
  simp only at *
  generalize Option.map (fun g => (⟨g, 0, none⟩ : Addr)) tgb = sa at *
  go_enter Try.func19, Try.ntmps19
  go_upto_region 1 with fail
  change Code.wp _ _ _ _ (w.alloc (.cells #[.int .i64 0, .slice none 0 0, .int .i64 0, .int .i64 0, .int .i64 0, .int .i64 0] 61))
  generalize w.alloc (.cells #[.int .i64 0, .slice none 0 0, .int .i64 0, .int .i64 0, .int .i64 0, .int .i64 0] 61) = w1 at *
  go_wp2_with fail
  refine (isGroup_any 1 _).mono ?_
  rintro e w2 ⟨rfl, rfl⟩
  obtain ⟨D, hD⟩ : ∃ D : List Value, D = [.int .i64 tg, .slice sa tn tc, .int .i64 o0, .int .i64 o1, .int .i64 o2, .int .i64 o3] := ⟨_, rfl⟩
  have HLL : Hid (lay #[.int .i64 0, .slice none 0 0, .int .i64 0, .int .i64 0, .int .i64 0, .int .i64 0] 0 D = D.toArray) := hide (by rw [hD]; exact lay_all rfl)
  have HLEN : Hid (D.length = 6) := hide (by rw [hD]; rfl)
  have HI6 : Hid ((Try.prog.info? 61).map (·.size) = some D.length) := hide (by rw [hD]; kernel_rfl)
  have H16 : Hid (D.toArray.all (·.oneCell') = true) := hide (by rw [hD]; simp [Value.oneCell'])
  have HD := hide hD
  clear hD
  have hev : (.agg D.toArray : Value) = .agg #[.int .i64 tg, .slice sa tn tc, .int .i64 o0, .int .i64 o1, .int .i64 o2, .int .i64 o3] := by rw [unhide HD]
  have hfit : 0 + D.length ≤ (#[.int .i64 0, .slice none 0 0, .int .i64 0, .int .i64 0, .int .i64 0, .int .i64 0] : Array Value).size := by
    rw [unhide HLEN]
    exact Nat.le_refl _
  have HEV := hide hev
  have HFIT := hide hfit
  clear hev hfit
  go_upto_region 5 with fail
  go_wp2_with (refine store_part 61 61 rfl (.tmp 4) (.tmp 18) rfl w.heap.size 0 D rfl (unhide HEV).symm D (unhide HZ) (unhide HFIT) (unhide HI6) (unhide H16) (unhide HLL) ?_; rintro w9 q1 q2; have Q1 := hide q1; have Q2 := hide q2; clear q1 q2)
  refine bodyPost_ret (res_nm (unhide Q1) (unhide HLEN) rfl rfl) rfl ?_
  exact ⟨by rw [unhide HEV], below_touch (unhide B1) (unhide Q2) (Nat.le_of_lt (lt_of_heap (unhide HZ))) (fun k hk => by omega)⟩
set_option maxRecDepth 100000 in
set_option maxHeartbeats 8000000 in
theorem waits_no {B : Nat} {w : World} {sb : Nat} {mv1 mv2 : Value} {m1 : List (Int × Tm)} (part : Int) (h : GS B w sb mv1 mv2 m1 []) :
    Calls Try.prog 20 #[.pointer (some ⟨sb, 0, none⟩), .int .i64 1, .int .i64 part] w fun e w' => e = .returned (.bool false) ∧ Below w.heap.size w w' := by
  have y1 : w.cell? ⟨sb, 1, none⟩ = some mv2 := cell_of h.obj 1
  have HM : Hid ((mv2 = .map none ∧ [] = ([] : List (Int × Sl))) ∨ ∃ mb, mv2 = .map (some mb) ∧ MM wK w mb []) := hide (h.wt.imp id (fun ⟨b, e, m, _⟩ => ⟨b, e, m⟩))
  obtain ⟨mo, rfl⟩ : ∃ mo, mv2 = .map mo := by
    rcases h.wt with ⟨e, _⟩ | ⟨b, e, _⟩
    · exact ⟨none, e⟩
    · exact ⟨some b, e⟩
  clear h
  go_enter Try.func20, Try.ntmps20
  go_wp2_with (at_range; refine wpList_mitrange wK _ rfl _ rfl (.map mo) [] rfl (unhide HM) ?_)
  intro w1 it1 t1
  have IT1 := hide it1
  have T1 := hide t1
  clear it1 t1 y1 HM
  go_wp2_with fail
  go_loopw [8] (fun _ wr => ∃ todo, MIT wK wr (.map mo) w.heap.size [] todo ∧ Below w.heap.size w wr) (fun _ wr => mleftM (.map mo) w.heap.size wr)
  case atStart => exact ⟨[], unhide IT1, ⟨(unhide T1).os, (unhide T1).tape, (unhide T1).output, (unhide T1).size, fun k hk => (unhide T1).block k hk (fun h => h)⟩⟩
  case round =>
    obtain ⟨todo, it, br⟩ := hrel
    have PT := hide it
    have BR := hide br
    clear it br IT1 T1
    go_wp2_with (at_next; refine wpList_mitnext wK _ rfl _ rfl (.map mo) w.heap.size [] todo rfl (unhide PT) ?_ ?_)
    · intro htodo
      clear PT
      go_wp2
      go_ret
      exact ⟨rfl, unhide BR⟩

set_option maxRecDepth 100000 in
set_option maxHeartbeats 8000000 in
theorem waits_one {B : Nat} {w : World} {sb : Nat} {mv1 mv2 : Value} {m1 : List (Int × Tm)} {pid gen off : Int} {p : Sl} {kk : Int} (part : Int) (h : GS B w sb mv1 mv2 m1 [(pid, p)]) (hv : OneR B w (slV p) ⟨2, 1, gen, [], kk, off⟩) :
    Calls Try.prog 20 #[.pointer (some ⟨sb, 0, none⟩), .int .i64 1, .int .i64 part] w fun e w' => e = .returned (.bool (decide (kk = part))) ∧ Below w.heap.size w w' := by
  have y1 : w.cell? ⟨sb, 1, none⟩ = some mv2 := cell_of h.obj 1
  have HM : Hid ((mv2 = .map none ∧ [(pid, p)] = ([] : List (Int × Sl))) ∨ ∃ mb, mv2 = .map (some mb) ∧ MM wK w mb [(pid, p)]) := hide (h.wt.imp id (fun ⟨b, e, m, _⟩ => ⟨b, e, m⟩))
  have HV := hide hv
  obtain ⟨mo, rfl⟩ : ∃ mo, mv2 = .map mo := by
    rcases h.wt with ⟨e, _⟩ | ⟨b, e, _⟩
    · exact ⟨none, e⟩
    · exact ⟨some b, e⟩
  clear h hv
  go_enter Try.func20, Try.ntmps20
  go_wp2_with (at_range; refine wpList_mitrange wK _ rfl _ rfl (.map mo) [(pid, p)] rfl (unhide HM) ?_)
  intro w1 it1 t1
  have IT1 := hide it1
  have T1 := hide t1
  clear it1 t1 y1 HM
  go_wp2_with fail
  go_loopw [8] (fun _ wr => ∃ todo, MIT wK wr (.map mo) w.heap.size [(pid, p)] todo ∧ Below w.heap.size w wr ∧ (todo = [] → kk ≠ part)) (fun _ wr => mleftM (.map mo) w.heap.size wr)
  case atStart => exact ⟨[(pid, p)], unhide IT1, ⟨(unhide T1).os, (unhide T1).tape, (unhide T1).output, (unhide T1).size, fun k hk => (unhide T1).block k hk (fun h => h)⟩, fun e => by cases e⟩
  case round =>
    obtain ⟨todo, it, br, hn⟩ := hrel
    have PT := hide it
    have BR := hide br
    have HN := hide hn
    clear hn
    clear it br IT1 T1
    go_wp2_with (at_next; refine wpList_mitnext wK _ rfl _ rfl (.map mo) w.heap.size [(pid, p)] todo rfl (unhide PT) ?_ ?_)
    · intro htodo
      have hne := unhide HN htodo
      have hb : decide (kk = part) = false := decide_eq_false hne
      clear PT HN htodo
      go_wp2
      go_ret
      exact ⟨by rw [hb]; rfl, unhide BR⟩
    · intro s pd w3 hp hs hpd it3 hl3 t3 hen
      subst hs
      subst hpd
      have b3 : Below w.heap.size w w3 := below_touch (unhide BR) t3 (unhide BR).size (fun k hk => by omega)
      obtain ⟨g, c, a, k, ev, hw, _, hg⟩ := unhide HV
      have hlt := hw.lt
      have hen' : (Instr.entry (.pointer (some ⟨w.heap.size, 0, none⟩))).run Try.prog w3 = .ok (.tuple #[.int .u64 s, .slice (some ⟨g, 0, none⟩) 1 c]) w3 := by
        rw [← ev]
        exact hen
      have hw3 := hw.later b3
      rw [ev] at hw3
      obtain ⟨a', cap, ev2, _, _, _, _, hc⟩ := hw3.parts
      obtain ⟨g', ea, _, hcell, _⟩ := hc (by omega)
      injection ev2 with e1 e2 e3
      rw [ea] at e1
      cases e1
      have z0 := hcell 0 (by omega)
      have z1 := hcell 1 (by omega)
      have z2 := hcell 2 (by omega)
      have z3 := hcell 3 (by omega)
      have z4 := hcell 4 (by omega)
      have z5 := hcell 5 (by omega)
      simp only [List.getElem?_cons_zero, List.getElem?_cons_succ] at z0 z1 z2 z3 z4 z5
      have IT3 := hide it3
      have HL3 := hide hl3
      have B3 := hide b3
      have TD : Hid (mdel todo s = []) := hide (by
        have hs := it3
        cases hm : mdel todo s with
        | nil => rfl
        | cons x r =>
          have hx : x ∈ mdel todo s := by rw [hm]; exact List.mem_cons_self
          have h1 := mdel_not hx
          have hsub : x ∈ [(s, pd)] := by
            rcases unhide PT with ⟨_, e, _, _⟩ | ⟨b, _, h⟩
            · cases e
            · exact h.sub x h1.1
          rw [List.mem_singleton] at hsub
          exact absurd (by rw [hsub]) h1.2)
      clear hen hw3 hw hc hcell ea e2 e3 ev it3 hl3 b3 t3 hp PT BR HN HV hlt
      go_wp2_with fail
      go_loopw [22] (fun iv wi => (iv = .int .i64 0 ∧ wi = w3) ∨ (iv = .int .i64 1 ∧ kk ≠ part ∧ Hid (Below w3.heap.size w3 wi))) (fun iv _ => 1 - (intOf iv).toNat)
      case atStart => exact .inl ⟨rfl, rfl⟩
      case round =>
        rcases hrel with ⟨rfl, hww⟩ | ⟨rfl, hne, hbi⟩
        · subst hww
          go_upto_region 7 with fail
          have b4 := (Below.refl wr.heap.size wr).alloc (Nat.le_refl _) (.cells #[.int .i64 2, .int .i64 1, .int .i64 gen, .slice a 0 k, .int .i64 kk, .int .i64 off] 29)
          have HX := hide (heap_new wr (.cells #[.int .i64 2, .int .i64 1, .int .i64 gen, .slice a 0 k, .int .i64 kk, .int .i64 off] 29))
          have B4 := hide b4
          clear b4 z0 z1 z2 z3 z4 z5
          change Code.wp _ _ _ _ (wr.alloc (.cells #[.int .i64 2, .int .i64 1, .int .i64 gen, .slice a 0 k, .int .i64 kk, .int .i64 off] 29))
          generalize wr.alloc (.cells #[.int .i64 2, .int .i64 1, .int .i64 gen, .slice a 0 k, .int .i64 kk, .int .i64 off] 29) = w4 at *
          have x0 := cell_of (unhide HX) 0
          have x1 := cell_of (unhide HX) 1
          have x4 := cell_of (unhide HX) 4
          simp at x0 x1 x4
          by_cases hk : kk = part
          · have hkb : (kk == part) = true := beq_iff_eq.2 hk
            have FF : Hid (Below w.heap.size w w4) := hide ((unhide B3).trans (Below.mono (unhide B4) (unhide B3).size))
            have hdk : decide (kk = part) = true := decide_eq_true hk
            clear hk
            go_wp2
            go_returns
            exact ⟨by rw [hdk]; rfl, unhide FF⟩
          · have hkb : (kk == part) = false := beq_eq_false_iff_ne.2 hk
            have HK := hide hk
            clear hk
            go_wp2
            go_roundw
            case rel => exact .inr ⟨by go_num, unhide HK, B4⟩
            case measure => simp [intOf]
        · have HNE := hide hne
          obtain ⟨it5, lm⟩ := (unhide IT3).later (unhide hbi)
          have IT5 := hide it5
          have LM := hide (Nat.lt_of_le_of_lt (Nat.le_of_eq lm) (unhide HL3))
          have B5 := hide ((unhide B3).trans (Below.mono (unhide hbi) (unhide B3).size))
          clear hne it5 lm hbi IT3 HL3 B3 hen'
          go_wp2
          go_roundw
          case rel => exact ⟨mdel todo s, unhide IT5, unhide B5, fun _ => unhide HNE⟩
          case measure => exact unhide LM
end Go.Proofs.Ytfbnkeflgddcmaa
