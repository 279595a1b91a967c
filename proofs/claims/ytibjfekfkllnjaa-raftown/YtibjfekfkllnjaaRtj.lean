/-
  'awake' of layer 12. No conditions.
-/
import Derived.Test.YtibjfekfkllnjaaRti
import Derived.Lib.SlBytesConst
import Derived.Laws.IdiomStrings
namespace Go.Proofs.Ytibjfekfkllnjaa
open Go.RowKit Go.Maps
set_option linter.unusedVariables false

theorem LAt.const (w : World) (l : List Nat) (h : ∀ x ∈ l, x < 256) (cs : Array Value) (hcs : cs.toList = vals l) (fr : Nat × Nat) : LAt (w.alloc (.cells cs 5 fr)) (some ⟨w.heap.size, 0, none⟩) l := by
  intro i hi
  refine ⟨w.heap.size, 0, rfl, by simp, ?_, ?_⟩
  · have hcell : ∀ {w : World} {b : Nat} {cs : Array Value} {t : TypeId} {fr : Nat × Nat} (h : w.heap[b]? = some (.cells cs t fr)) (i : Nat), w.cell? ⟨b, i, none⟩ = cs[i]? := fun h i => by unfold World.cell?; rw [h]; rfl
    rw [hcell (heap_new _ _), Nat.zero_add, ← Array.getElem?_toList, hcs]
    exact vals_at hi
  · have : l.getD i 0 = l[i] := by simp [List.getD, hi]
    show l.getD i 0 < 256
    rw [this]
    exact h _ (List.getElem_mem hi)
/-- Element k of a list of the call's own, in cells. -/
theorem EL.data {ty : TypeId} {w : World} {v : Value} {ps : List En} (h : EL ty w v ps) {k : Nat} (hk : k < ps.length) {q : Int × List Nat} (hq : (ps.map En.abs)[k]? = some q) : ∃ g cap a c, v = .slice (some ⟨g, 0, none⟩) ps.length cap ∧ w.cell? ⟨g, k * 2, none⟩ = some (.int .i64 q.1) ∧ w.cell? ⟨g, k * 2 + 1, none⟩ = some (.slice a q.2.length c) ∧ Row w (.slice a q.2.length c) q.2 ∧ (∀ j, (Value.slice a q.2.length c).ownBlock = some j → ELB v ps j) := by
  obtain ⟨g, cap, hv, hg, h1, h2, y0, y1⟩ := h.at_ hk
  have e := h.each _ (List.getElem_mem hk)
  have hs : ∀ j, (enS ps[k]).ownBlock = some j → ELB v ps j := fun j hj => .inr ⟨_, List.getElem_mem hk, hj⟩
  have hq' : ps[k].abs = q := by simpa [hk] using hq
  generalize ps[k] = p at *
  obtain ⟨t, a, c, l⟩ := p
  subst hq'
  exact ⟨g, cap, a, c, hv, y0, y1, e.row, hs⟩
set_option maxRecDepth 100000 in
set_option maxHeartbeats 2000000 in
theorem awake12_any (w : World) : Calls Try.prog 8 #[] w fun e w' => e = .returned (.bool true) ∧ Below w.heap.size w w' := by
  have kc := fun (w : World) (C : Array Value) (n c : Nat) => Lib.run_convert_bytes_const (P := Try.prog) w 33 5 C n c Try.underlying33 Try.underlying5
  have NW := hide (begun1 w)
  go_enter Try.func8, Try.ntmps8
  go_wp2_with fail
  refine (unhide NW).mono ?_
  rintro e w1 ⟨rb, rfl, b1⟩
  have B := hide b1
  clear NW b1
  go_wp2_with fail
  go_loopw [3] (fun s3 wr => ∃ i : Nat, i ≤ 4 ∧ s3 = .int .i64 (i : Int) ∧ (i < 4 → B1 w wr rb i) ∧ (i = 4 → ∃ p, p.abs = (1, []) ∧ A1 w wr rb [p] 0 true)) (fun pl _ => 4 - (intOf pl).toNat)
  case atStart => exact ⟨0, by omega, rfl, fun _ => unhide B, fun h => by omega⟩
  case round =>
    obtain ⟨i, hi, rfl, hb, ha⟩ := hrel
    rcases Nat.lt_or_ge i 4 with h4 | h4
    · have hi' : (i : Int) < 4 := by omega
      rcases Nat.lt_or_ge i 3 with h3 | h3
      · have TK := hide (tick1 h3 (hb h4))
        clear hb ha
        go_wp2_with fail
        refine (unhide TK).mono ?_
        rintro e w2 ⟨rfl, b2⟩
        have B2 := hide b2
        clear b2
        go_wp2
        go_roundw
        case rel => exact ⟨i + 1, by omega, by go_num, fun _ => unhide B2, fun h => by omega⟩
        case measure => simp [intOf]; omega
      · obtain rfl : i = 3 := by omega
        have TK := hide (tick4 (hb h4))
        clear hb ha
        go_wp2_with fail
        refine (unhide TK).mono ?_
        rintro e w2 ⟨rfl, b2⟩
        have B2 := hide b2
        clear b2
        go_wp2
        go_roundw
        case rel => exact ⟨4, by omega, by go_num, fun h => by omega, fun _ => unhide B2⟩
        case measure => simp [intOf]
    · obtain rfl : i = 4 := by omega
      obtain ⟨p, hp, a1⟩ := ha rfl
      have hA : ∀ fr, Below wr.heap.size wr (wr.alloc (.cells #[.int .u8 97] 5 fr)) := fun fr => (Below.refl _ _).alloc (Nat.le_refl _) _
      have PR : Hid (∀ fr, Calls Try.prog 13 #[.pointer (some ⟨rb, 0, none⟩), .slice (some ⟨wr.heap.size, 0, none⟩) 1 1] (wr.alloc (.cells #[.int .u8 97] 5 fr)) fun e w' => e = .returned (.tuple #[.int .i64 2, .int .i64 0]) ∧ ∃ p', p'.abs = (1, [97]) ∧ A1 w w' rb [p, p'] 0 true) := fun fr =>
        lay_own (l := [97]) (a1.later (hA fr)) ⟨LAt.const wr [97] (by decide) #[.int .u8 97] rfl fr, (fun h => by cases h), by simp⟩ (by simp) (by simp)
      clear hb ha a1 hA B
      have HP := hide hp
      clear hp
      go_wp2_with fail
      refine (unhide PR _).mono ?_
      rintro e w2 ⟨rfl, p', hp', a2⟩
      have TK := hide (take1 a2 (by simp) (by simp))
      have HP2 := hide hp'
      clear PR a2 hp'
      go_wp2_with fail
      refine (unhide TK).mono ?_
      rintro e w3 ⟨g, v, ks, rfl, s⟩
      have hks : ks.map En.abs = [(1, []), (2, [97])] := by
        rw [s.abs]
        show cmE 0 [p, p'] = _
        have e1 : p.l = [] := congrArg Prod.snd (unhide HP)
        have e2 : p'.l = [97] := congrArg Prod.snd (unhide HP2)
        simp [cmE, e1, e2]
      have hkl : ks.length = 2 := by have := congrArg List.length hks; simpa using this
      obtain ⟨gk, cap, da, dc, rfl, _, y1, dr, _⟩ := s.list.data (k := 1) (by omega) (q := (2, [97])) (by rw [hks]; rfl)
      rw [hkl] at s ⊢
      have S := hide s
      clear s
      obtain ⟨gT, gvo, gbase, gbt, ga, gc, gl, gla, glc, gps⟩ := g
      have RD : (.agg #[.bool true, .int .i64 gT, .int .i64 gvo, .int .i64 gbase, .int .i64 gbt, .slice ga gl.length gc, .slice gla gps.length glc, .slice none 0 0, .bool false, .slice none 0 0, .slice (some ⟨gk, 0, none⟩) 2 cap]) = rdV true ⟨gT, gvo, gbase, gbt, ga, gc, gl, gla, glc, gps⟩ (.slice none 0 0) false (.slice none 0 0) (.slice (some ⟨gk, 0, none⟩) 2 cap) := rfl
      rw [← RD]
      clear RD TK
      generalize gl.length = n1 at *
      generalize gps.length = n2 at *
      have hAx : Below w3.heap.size w3 (w3.alloc (.cells #[.bool true, .int .i64 gT, .int .i64 gvo, .int .i64 gbase, .int .i64 gbt, .slice ga n1 gc, .slice gla n2 glc, .slice none 0 0, .bool false, .slice none 0 0, .slice (some ⟨gk, 0, none⟩) 2 cap] 57)) := (Below.refl _ _).alloc (Nat.le_refl _) _
      have G : (w3.alloc (.cells #[.bool true, .int .i64 gT, .int .i64 gvo, .int .i64 gbase, .int .i64 gbt, .slice ga n1 gc, .slice gla n2 glc, .slice none 0 0, .bool false, .slice none 0 0, .slice (some ⟨gk, 0, none⟩) 2 cap] 57)).heap[w3.heap.size]? = some (.cells #[.bool true, .int .i64 gT, .int .i64 gvo, .int .i64 gbase, .int .i64 gbt, .slice ga n1 gc, .slice gla n2 glc, .slice none 0 0, .bool false, .slice none 0 0, .slice (some ⟨gk, 0, none⟩) 2 cap] 57) := heap_new _ _
      have ST := hide (state1 ((unhide S).raft.later hAx) (by simp))
      have BL := hide ((unhide S).raft.later hAx).below
      have y1' := (hAx.cell (p := ⟨gk, 1 * 2 + 1, none⟩) (lt_of_cell y1)).trans y1
      have dl := (dr.later hAx)
      have gx0 := cell_of G 0
      have gx10 := cell_of G 10
      simp only [List.getElem?_toArray, List.getElem?_cons_zero, List.getElem?_cons_succ] at gx0 gx10
      obtain ⟨qa, qc, qe, ql, _⟩ := dl.parts
      injection qe with qe1 _ qe3
      subst qe1 qe3
      obtain ⟨cb, off, rfl, _, q0, _⟩ := ql.cell (i := 0) (by simp)
      have CV := fun (n : Nat) => run_convert_bytes_back (P := Try.prog) ((w3.alloc (.cells #[.bool true, .int .i64 gT, .int .i64 gvo, .int .i64 gbase, .int .i64 gbt, .slice ga n1 gc, .slice gla n2 glc, .slice none 0 0, .bool false, .slice none 0 0, .slice (some ⟨gk, 0, none⟩) 2 cap] 57)).drewN n) 33 9 5 ⟨cb, off, none⟩ dc [97] Try.underlying33 Try.underlying5 Try.underlying9 (fun j hj => by
        obtain ⟨_, _, e', _, q1, _⟩ := ql.cell (i := j) (by simpa using hj)
        cases e'
        rw [addr_add]
        show (w3.alloc _).cell? _ = _
        rw [q1]
        match j, hj with
        | 0, _ => rfl)
      have CV2 : ∀ n, Sem.run Try.prog (convert 33 9 (.slice (some ⟨cb, off, none⟩) 1 dc)) ((w3.alloc (.cells #[.bool true, .int .i64 gT, .int .i64 gvo, .int .i64 gbase, .int .i64 gbt, .slice ga n1 gc, .slice gla n2 glc, .slice none 0 0, .bool false, .slice none 0 0, .slice (some ⟨gk, 0, none⟩) 2 cap] 57)).drewN n) = .ok (.string ⟨#[97]⟩) ((w3.alloc (.cells #[.bool true, .int .i64 gT, .int .i64 gvo, .int .i64 gbase, .int .i64 gbt, .slice ga n1 gc, .slice gla n2 glc, .slice none 0 0, .bool false, .slice none 0 0, .slice (some ⟨gk, 0, none⟩) 2 cap] 57)).drewN n) := CV
      clear CV ql q0 dl dr G hAx S hks hkl HP HP2 y1
      simp only [Nat.one_mul, Nat.reduceAdd, List.length_cons, List.length_nil] at y1'
      go_wp2_with fail
      generalize w3.alloc (.cells #[.bool true, .int .i64 gT, .int .i64 gvo, .int .i64 gbase, .int .i64 gbt, .slice ga n1 gc, .slice gla n2 glc, .slice none 0 0, .bool false, .slice none 0 0, .slice (some ⟨gk, 0, none⟩) 2 cap] 57) = W5 at *
      refine (unhide ST).mono ?_
      rintro e w6 ⟨rfl, nn, rfl⟩
      have CV3 := CV2 nn
      have x0 : (W5.drewN nn).cell? ⟨w3.heap.size, 0, none⟩ = some (.bool true) := gx0
      have x10 : (W5.drewN nn).cell? ⟨w3.heap.size, 10, none⟩ = some (.slice (some ⟨gk, 0, none⟩) 2 cap) := gx10
      have x1 : (W5.drewN nn).cell? ⟨gk, 3, none⟩ = some (.slice (some ⟨cb, off, none⟩) 1 dc) := y1'
      have B6 : Hid (Below w.heap.size w (W5.drewN nn)) := below_drewN3 (unhide BL) nn
      clear CV2 gx0 gx10 y1' ST BL
      generalize W5.drewN nn = W6 at *
      go_wp2
      go_returns
      exact ⟨by simp, unhide B6⟩
end Go.Proofs.Ytibjfekfkllnjaa
