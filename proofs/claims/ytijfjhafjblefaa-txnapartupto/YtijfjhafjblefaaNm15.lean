/-
  A record's own copy; txn's Names; the document's Has. Conditions: at most 2^44 partitions and names.
-/
import Derived.Test.YtijfjhafjblefaaTx8
import Derived.Test.YtijfjhafjblefaaPay15
namespace Go.Proofs.Ytijfjhafjblefaa
open Go.RowKit Go.Maps
set_option linter.unusedVariables false

section
variable {w : World}
def OwnP (w : World) (r : Re) (e : Ending) (w' : World) : Prop := ∃ a k, e = .returned (.agg (reC r a k)) ∧ IL w' (.slice a r.ps.length k) r.ps ∧ New w (.slice a r.ps.length k) ∧ Below w.heap.size w w'
set_option maxHeartbeats 4000000 in
theorem own15_any {r : Re} {a : Option Addr} {k : Nat} (hr : IAt w a r.ps) (hcap : a = none → k = 0) (hlen : r.ps.length ≤ 17592186044416) :
    Calls Try.prog 12 #[.agg (reC r a k)] w fun e w' => OwnP w r e w' := by
  have LI := hide hr
  obtain ⟨kd, tx, ic, pi, eq, l, cm⟩ := r
  simp only [reC] at hlen LI ⊢
  clear hr
  go_enter Try.func12, Try.ntmps12
  have b1 := (Below.refl w.heap.size w).alloc (Nat.le_refl _) (.cells #[.int .i64 kd, .int .i64 tx, .int .i64 ic, .int .u64 pi, .int .i64 eq, .slice a l.length k, .bool cm] 25)
  have b2 := b1.alloc b1.size (.cells #[.int .i64 0, .int .i64 0, .int .i64 0, .int .u64 0, .int .i64 0, .slice none 0 0, .bool false] 25)
  have b3 := b2.alloc b2.size (.cells #[] 3)
  have B3 := hide b3
  have HB : Hid ((((w.alloc (.cells #[.int .i64 kd, .int .i64 tx, .int .i64 ic, .int .u64 pi, .int .i64 eq, .slice a l.length k, .bool cm] 25)).alloc (.cells #[.int .i64 0, .int .i64 0, .int .i64 0, .int .u64 0, .int .i64 0, .slice none 0 0, .bool false] 25)).alloc (.cells #[] 3)).heap[w.heap.size]? = some (.cells #[.int .i64 kd, .int .i64 tx, .int .i64 ic, .int .u64 pi, .int .i64 eq, .slice a l.length k, .bool cm] 25)) := hide (heap_old _ (heap_old _ (heap_new _ _)))
  have HZ : Hid ((((w.alloc (.cells #[.int .i64 kd, .int .i64 tx, .int .i64 ic, .int .u64 pi, .int .i64 eq, .slice a l.length k, .bool cm] 25)).alloc (.cells #[.int .i64 0, .int .i64 0, .int .i64 0, .int .u64 0, .int .i64 0, .slice none 0 0, .bool false] 25)).alloc (.cells #[] 3)).heap[w.heap.size + 1]? = some (.cells #[.int .i64 0, .int .i64 0, .int .i64 0, .int .u64 0, .int .i64 0, .slice none 0 0, .bool false] 25)) := hide (heap_old _ (by have := heap_new (w.alloc (.cells #[.int .i64 kd, .int .i64 tx, .int .i64 ic, .int .u64 pi, .int .i64 eq, .slice a l.length k, .bool cm] 25)) (.cells #[.int .i64 0, .int .i64 0, .int .i64 0, .int .u64 0, .int .i64 0, .slice none 0 0, .bool false] 25); simpa using this))
  have HL : Hid (IL (((w.alloc (.cells #[.int .i64 kd, .int .i64 tx, .int .i64 ic, .int .u64 pi, .int .i64 eq, .slice a l.length k, .bool cm] 25)).alloc (.cells #[.int .i64 0, .int .i64 0, .int .i64 0, .int .u64 0, .int .i64 0, .slice none 0 0, .bool false] 25)).alloc (.cells #[] 3)) (.slice (some ⟨w.heap.size + 2, 0, none⟩) 0 0) []) := hide (by
    have := World.ownsRow_lit (base := 0) (e := 3) (size := 1) ((w.alloc (.cells #[.int .i64 kd, .int .i64 tx, .int .i64 ic, .int .u64 pi, .int .i64 eq, .slice a l.length k, .bool cm] 25)).alloc (.cells #[.int .i64 0, .int .i64 0, .int .i64 0, .int .u64 0, .int .i64 0, .slice none 0 0, .bool false] 25)) #[] 0 (Nat.zero_le _) (by simp) rfl
    have e1 : ((w.alloc (.cells #[.int .i64 kd, .int .i64 tx, .int .i64 ic, .int .u64 pi, .int .i64 eq, .slice a l.length k, .bool cm] 25)).alloc (.cells #[.int .i64 0, .int .i64 0, .int .i64 0, .int .u64 0, .int .i64 0, .slice none 0 0, .bool false] 25)).heap.size = w.heap.size + 2 := by simp
    rw [e1] at this
    exact this)
  have LX := hide ((unhide LI).later b3)
  clear b1 b2 b3 LI
  go_wp2_with (at_builtin; refine wpList_ints _ rfl (.tmp 3) (.tmp 5) rfl _ [] rfl (unhide HL) a k l rfl (unhide LX) hcap (by simp; omega) ?_; intro v3 w3 r3 t3 m3; obtain ⟨a3, k3, e3, _⟩ := r3.iat; simp only [List.nil_append] at e3 r3; subst e3; have T3 := hide t3; have M3 := hide m3; have R3 := hide r3; have H3 := hide (t3.keep (unhide HB) (fun e => absurd (Option.some.inj e : w.heap.size + 2 = w.heap.size) (by omega))); have Z3 := hide (t3.keep (unhide HZ) (fun e => absurd (Option.some.inj e : w.heap.size + 2 = w.heap.size + 1) (by omega))); have g0 := cell_of (unhide H3) 0; have g1 := cell_of (unhide H3) 1; have g2 := cell_of (unhide H3) 2; have g3 := cell_of (unhide H3) 3; have g4 := cell_of (unhide H3) 4; have g5 := cell_of (unhide H3) 5; have g6 := cell_of (unhide H3) 6; have gf := frozen_of (unhide H3) 5; have j0 := cell_of (unhide Z3) 0; have j1 := cell_of (unhide Z3) 1; have j2 := cell_of (unhide Z3) 2; have j3 := cell_of (unhide Z3) 3; have j4 := cell_of (unhide Z3) 4; have j5 := cell_of (unhide Z3) 5; have j6 := cell_of (unhide Z3) 6; have jf := fun j => frozen_of (unhide Z3) j; simp at g0 g1 g2 g3 g4 g5 g6 j0 j1 j2 j3 j4 j5 j6; clear r3 t3 m3)
  have t4 := touch_set w3 w.heap.size 5 (.slice a3 l.length k3)
  obtain ⟨S1, S2⟩ := set7 (t4.keep (unhide Z3) (by omega)) rfl (.int .i64 kd) (.int .i64 tx) (.int .i64 ic) (.int .u64 pi) (.int .i64 eq) (.slice a3 l.length k3) (.bool cm)
  have NB : ∀ k, (Value.slice a3 l.length k3).ownBlock = some k → w.heap.size + 2 ≤ k := fun k hk => by
    rcases unhide M3 k hk with e | e
    · have : w.heap.size + 2 = k := Option.some.inj e
      omega
    · simp at e
      omega
  have R4 := hide (((unhide R3).keep t4 (fun k hk e => by have := NB k hk; omega)).keep S2 (fun k hk e => by have := NB k hk; omega))
  have hs3 := (unhide T3).size
  have B4 := hide (below_touch (below_touch (below_touch (unhide B3) (unhide T3) (unhide B3).size (fun k hk => by have : w.heap.size + 2 = k := Option.some.inj hk; omega)) t4 (by have := (unhide B3).size; omega) (fun k hk => by omega)) S2 (by have := (unhide B3).size; have := t4.size; omega) (fun k hk => by omega))
  generalize ((((((((w3.setCell ⟨w.heap.size, 5, none⟩ (.slice a3 l.length k3)).setCell ⟨w.heap.size + 1, 0, none⟩ (.int .i64 kd)).setCell ⟨w.heap.size + 1, 1, none⟩ (.int .i64 tx)).setCell ⟨w.heap.size + 1, 2, none⟩ (.int .i64 ic)).setCell ⟨w.heap.size + 1, 3, none⟩ (.int .u64 pi)).setCell ⟨w.heap.size + 1, 4, none⟩ (.int .i64 eq)).setCell ⟨w.heap.size + 1, 5, none⟩ (.slice a3 l.length k3)).setCell ⟨w.heap.size + 1, 6, none⟩ (.bool cm)) = Y at *
  have w0 := cell_of S1 0
  have w1 := cell_of S1 1
  have w2 := cell_of S1 2
  have w4 := cell_of S1 3
  have w5 := cell_of S1 4
  have w6 := cell_of S1 5
  have w7 := cell_of S1 6
  simp at w0 w1 w2 w4 w5 w6 w7
  refine bodyPost_ret (by simp [results, Try.results12, go_sem, w0, w1, w2, w4, w5, w6, w7]; try rfl) rfl ?_
  exact ⟨a3, k3, rfl, unhide R4, fun k hk => by have := NB k hk; omega, unhide B4⟩
end
/-- What Names answers. -/
def NmsP (w : World) (K : Int → Option Tx) (e : Ending) (w' : World) : Prop := ∃ v l, e = .returned v ∧ IL w' v l ∧ l.Pairwise (· < ·) ∧ (∀ s, s ∈ l ↔ (K s).isSome = true) ∧ New w v ∧ Below w.heap.size w w'
theorem mergeSort_lt {l : List Int} (h : l.Nodup) : (srt l).Pairwise (· < ·) := by
  have p := List.mergeSort_perm l (fun x y => decide (x ≤ y))
  have s := List.pairwise_mergeSort (le := fun x y : Int => decide (x ≤ y)) (fun a b c h1 h2 => by simp at *; omega) (fun a b => by simp; omega) l
  have n : (l.mergeSort fun x y => decide (x ≤ y)).Nodup := p.nodup_iff.2 h
  unfold srt
  exact (s.and n).imp (fun ⟨h1, h2⟩ => by simp at h1; omega)
set_option maxRecDepth 100000 in
set_option maxHeartbeats 4000000 in
theorem names_any {w : World} {sb : Nat} {mv : Value} {m : List (Int × Td)} {K : Int → Option Tx} {R : Nat → Prop} (h : TS w sb mv m K R) (hm : m.length ≤ 17592186044415) :
    Calls Try.prog 28 #[.pointer (some ⟨sb, 0, none⟩)] w fun e w' => NmsP w K e w' := by
  have c0 : w.cell? ⟨sb, 0, none⟩ = some mv := cell_of h.obj 0
  have HM : Hid ((mv = .map none ∧ m = []) ∨ ∃ mb, mv = .map (some mb) ∧ MM tK w mb m) := by
    rcases h.map with e | ⟨mb, e1, e2, _⟩
    · exact .inl e
    · exact .inr ⟨mb, e1, e2⟩
  have HAP : Hid (m.Pairwise (fun p q => p.1 ≠ q.1)) := by
    rcases h.map with ⟨_, e⟩ | ⟨mb, _, e2, _⟩
    · rw [e]; exact List.Pairwise.nil
    · exact e2.apart
  have HIFF : Hid (∀ s, s ∈ m.map (·.1) ↔ (K s).isSome = true) := fun s => by
    constructor
    · intro hs
      obtain ⟨⟨t, q⟩, hq, rfl⟩ := List.mem_map.1 hs
      obtain ⟨_, x, e1, _⟩ := h.hav t q hq
      simp only [e1, Option.isSome_some]
    · intro hs
      cases e : matx m s with
      | none => rw [h.non s e] at hs; cases hs
      | some q => exact List.mem_map.2 ⟨_, mat_some e, rfl⟩
  have HML := hide hm
  obtain ⟨mo, rfl⟩ := h.isMap
  clear h hm
  go_enter Try.func28, Try.ntmps28
  go_wp2_with (at_range; refine wpList_mitrange tK _ rfl _ rfl (.map mo) m rfl (unhide HM) ?_)
  intro w1 it1 t1
  have IT1 := hide it1
  have T1 := hide t1
  clear it1 t1
  go_wp2_with fail
  go_loopw [3] (fun s3 wr => ∃ l todo, IL wr s3 l ∧ New w s3 ∧ (∀ k, s3.ownBlock = some k → k ≠ w.heap.size) ∧ (l ++ todo.map (·.1)).Perm (m.map (·.1)) ∧ MIT tK wr (.map mo) w.heap.size m todo ∧ Below w.heap.size w wr) (fun _ wr => mleftM (.map mo) w.heap.size wr)
  case atStart => exact ⟨[], m, IL.nil _, New.nil _, (fun k hk => by cases hk), List.Perm.refl _, unhide IT1, ⟨(unhide T1).os, (unhide T1).tape, (unhide T1).output, (unhide T1).size, fun k hk => (unhide T1).block k hk (fun h => h)⟩⟩
  case round =>
    obtain ⟨l, todo, il, nw, nr, pm, it, br⟩ := hrel
    obtain ⟨va, vc, ev, _⟩ := il.iat
    have LL : Hid (l.length + 1 ≤ 17592186044416) := by
      have h1 := pm.length_eq
      simp at h1
      have h2 := unhide HML
      show _ ≤ _
      omega
    have IL0 := hide il
    have NW := hide nw
    have NR := hide nr
    have PM_ := hide pm
    have PT := hide it
    have BR := hide br
    clear il nw nr pm it br IT1 T1 c0 HM
    generalize hln : l.length = ln at *
    have LN := hide hln
    clear hln
    subst ev
    go_wp2_with (at_next; refine wpList_mitnext tK _ rfl _ rfl (.map mo) w.heap.size m todo rfl (unhide PT) ?_ ?_)
    · intro htodo
      subst htodo
      have KS := hide (sort_any (unhide IL0) (by have := unhide LL; rw [unhide LN]; omega))
      clear PT
      go_wp2_with (go_at_call 65; refine (unhide KS).mono ?_; rintro e w5 ⟨rfl, s1, s2⟩)
      have F : Hid (NmsP w K (.returned (.slice va ln vc)) w5) := by
        have pp : l.Perm (m.map (·.1)) := by have := unhide PM_; simpa using this
        have nd : l.Nodup := pp.nodup_iff.2 (by
          unfold List.Nodup
          rw [List.pairwise_map]
          exact unhide HAP)
        refine ⟨_, srt l, rfl, s1, mergeSort_lt nd, fun s => ?_, unhide NW, (unhide NW).below (unhide BR) s2⟩
        unfold srt
        rw [List.mem_mergeSort, pp.mem_iff]
        exact unhide HIFF s
      clear s1 s2 KS
      go_wp2
      go_returns
      exact unhide F
    · intro s pd w3 hp hpm it3 hl3 t3 hen
      have b3 : Below w.heap.size w w3 := below_touch (unhide BR) t3 (unhide BR).size (fun k hk => by omega)
      have i3 : IL w3 (.slice va ln vc) l := (unhide IL0).keep t3 (fun k hk e => unhide NR k hk e)
      have pp : (l ++ [s] ++ (mdel todo s).map (·.1)).Perm (m.map (·.1)) := by
        refine List.Perm.trans ?_ (unhide PM_)
        rw [List.append_assoc]
        refine List.Perm.append_left l ?_
        exact ((perm_mdel (unhide PT).tapart hp).map (·.1)).symm
      have PP := hide pp
      have hA : Below w3.heap.size w3 (w3.alloc (.cells #[.int .i64 s] 3)) := (Below.refl _ _).alloc (Nat.le_refl _) _
      have I4 := hide (i3.later hA)
      obtain ⟨it4, lm⟩ := it3.later hA
      have IT4 := hide it4
      have LM : Hid (mleftM (.map mo) w.heap.size (w3.alloc (.cells #[.int .i64 s] 3)) < mleftM (.map mo) w.heap.size wr) := by rw [lm]; exact hl3
      have B4 := hide (b3.trans (hA.mono b3.size))
      have hrl : w.heap.size < w3.heap.size := Nat.lt_of_lt_of_le (unhide PT).lt t3.size
      obtain ⟨st, ix, px, xe, gg, n', c', la, lp, cx⟩ := pd
      have hen' : (Instr.entry (.pointer (some ⟨w.heap.size, 0, none⟩))).run Try.prog w3 = .ok (.tuple #[.int .i64 s, .agg #[.int .i64 st, .int .i64 ix, .int .u64 px, .int .i64 xe, .slice (gg.map (fun g => ⟨g, 0, none⟩)) n' c', .int .i64 la, .int .u64 lp, .bool cx]]) w3 := hen
      simp only [tK, tdV, tdC, tdS]
      generalize gg.map (fun g => (⟨g, 0, none⟩ : Addr)) = gs at *
      clear hen b3 i3 pp hA it3 it4 lm hl3 t3 hp hpm IL0 PM_ PT BR
      go_wp2_with (at_builtin; refine wpList_ints _ rfl (.tmp 16) (.tmp 18) rfl _ l rfl (unhide I4) _ 1 [s] rfl (IAt.one w3 _ _) (fun h => by cases h) (by rw [unhide LN]; exact unhide LL) ?_; intro v' w' o1 o2 o3; have O1 := hide o1; have O2 := hide o2; have O3 := hide o3; clear o1 o2 o3)
      go_roundw
      case rel =>
        have e1 := (unhide O3)
        refine ⟨l ++ [s], mdel todo s, unhide O1, (unhide NW).moved (unhide O3) (unhide B4).size, fun k hk e => ?_, unhide PP, ((unhide IT4).keep (unhide O2) (fun b hb e => ?_) (fun e => unhide NR _ e rfl)).1, (unhide NW).below (unhide B4) (unhide O2)⟩
        · rcases e1 k hk with e2 | e2
          · exact unhide NR k e2 e
          · simp at e2; omega
        · obtain ⟨cs, hc⟩ := (unhide I4).heap e
          obtain ⟨es, cl, hmb⟩ := (show MIT tK _ (.map (some b)) w.heap.size m (mdel todo s) from by rw [← hb]; exact unhide IT4).mapb
          rw [hmb] at hc
          cases hc
      case measure =>
        have := ((unhide IT4).keep (unhide O2) (fun b hb e => by
          obtain ⟨cs, hc⟩ := (unhide I4).heap e
          obtain ⟨es, cl, hmb⟩ := (show MIT tK _ (.map (some b)) w.heap.size m (mdel todo s) from by rw [← hb]; exact unhide IT4).mapb
          rw [hmb] at hc
          cases hc) (fun e => unhide NR _ e rfl)).2
        rw [this]
        exact unhide LM
end Go.Proofs.Ytijfjhafjblefaa
