/-
  A group's State beside what waits for a transaction's end; wait. Conditions: at most one group, one producer that waits.
-/
import Derived.Test.YtfbnkeflgddcmaaGw2
import Derived.Deep.RegionHeld3
import Derived.Carry
namespace Go.Proofs.Ytfbnkeflgddcmaa
open Go.RowKit Go.Maps
set_option linter.unusedVariables false

theorem take17 {P : Program} {md : Region.Mode} {ops : Array Oper} {Q : Exit → Act → World → Prop} {S : World → Prop} {i d : Nat} {oi : Oper} {v : Value} {fuel : Nat} {listed : Array Bool} {a : Act} {w : World} (hi : ops[i]? = some oi) (hd : oi.dst = some d)
    (hs : Region.noSelect ops = true) (hf : Region.free md ops listed i = true) (hr : (Region.ready md ops listed).contains i = true)
    (hQ : ∀ c a w, Q (.panic c) (a.put oi.dst v) w → Q (.panic c) a w) (hy : YieldsIf P ops S oi v a) (hS : S w)
    (h : wpAnyH P md ops Q S fuel (listed.setIfInBounds i true) ⟨a.tmps.setIfInBounds d v, a.defers⟩ w) : wpAnyH P md ops Q S (fuel + 1) listed a w :=
  wpAnyH_take hi hs hf hr hQ hy hS (by rw [hd]; exact h)
/-- What is known of the group 1, and what waits. -/
structure GS (B : Nat) (w : World) (sb : Nat) (mv1 mv2 : Value) (m1 : List (Int × Tm)) (W : List (Int × Sl)) : Prop where
  obj : w.heap[sb]? = some (.cells #[mv1, mv2] 52)
  g : (mv1 = .map none ∧ m1 = []) ∨ ∃ b, mv1 = .map (some b) ∧ MM gK w b m1 ∧ B ≤ b
  wt : (mv2 = .map none ∧ W = []) ∨ ∃ b, mv2 = .map (some b) ∧ MM wK w b W ∧ B ≤ b
  ne : ∀ b, mv1 = .map (some b) → mv2 ≠ .map (some b)
  few : m1 = [] ∨ ∃ t, m1 = [(1, t)]
  hb : B ≤ sb
def tOf (m1 : List (Int × Tm)) : Tm := mgot gK (matx m1 1)
theorem GS.map1 {B : Nat} {w : World} {sb : Nat} {mv1 mv2 : Value} {m1 : List (Int × Tm)} {W : List (Int × Sl)} (h : GS B w sb mv1 mv2 m1 W) {b : Nat} (e : mv1 = .map (some b)) : MM gK w b m1 ∧ B ≤ b := by
  rcases h.g with ⟨e1, _⟩ | ⟨b', e1, h1, h2⟩
  · rw [e1] at e; cases e
  · rw [e1] at e; cases e; exact ⟨h1, h2⟩
theorem GS.map2 {B : Nat} {w : World} {sb : Nat} {mv1 mv2 : Value} {m1 : List (Int × Tm)} {W : List (Int × Sl)} (h : GS B w sb mv1 mv2 m1 W) {b : Nat} (e : mv2 = .map (some b)) : MM wK w b W ∧ B ≤ b := by
  rcases h.wt with ⟨e1, _⟩ | ⟨b', e1, h1, h2⟩
  · rw [e1] at e; cases e
  · rw [e1] at e; cases e; exact ⟨h1, h2⟩
/-- The state's own blocks. -/
def Own3 (sb : Nat) (mv1 mv2 : Value) (k : Nat) : Prop := k = sb ∨ mv1 = .map (some k) ∨ mv2 = .map (some k)
theorem GS.keep {B : Nat} {S : Nat → Prop} {w w' : World} {sb : Nat} {mv1 mv2 : Value} {m1 : List (Int × Tm)} {W : List (Int × Sl)} (h : GS B w sb mv1 mv2 m1 W) (t : Touch S w w') (hs : ∀ k, Own3 sb mv1 mv2 k → ¬ S k) : GS B w' sb mv1 mv2 m1 W :=
  ⟨t.keep h.obj (hs _ (.inl rfl)), h.g.imp id (fun ⟨b, e, m, hb⟩ => ⟨b, e, m.keep t (hs _ (.inr (.inl e))), hb⟩), h.wt.imp id (fun ⟨b, e, m, hb⟩ => ⟨b, e, m.keep t (hs _ (.inr (.inr e))), hb⟩), h.ne, h.few, h.hb⟩
theorem GS.later {B : Nat} {w w' : World} {sb : Nat} {mv1 mv2 : Value} {m1 : List (Int × Tm)} {W : List (Int × Sl)} (h : GS B w sb mv1 mv2 m1 W) (hb : Below w.heap.size w w') : GS B w' sb mv1 mv2 m1 W := h.keep (Touch.of_below (S := fun _ => False) hb) (fun _ _ h => h)
/-- A row of cells is none of the state's blocks. -/
theorem GS.apart {B : Nat} {w : World} {sb : Nat} {mv1 mv2 : Value} {m1 : List (Int × Tm)} {W : List (Int × Sl)} (h : GS B w sb mv1 mv2 m1 W) {k : Nat} {cs : Array Value} {t : TypeId} (hk : w.heap[k]? = some (.cells cs t)) (ht : t ≠ 52) : ¬ Own3 sb mv1 mv2 k := by
  rintro (e | e | e)
  · subst e
    rw [h.obj] at hk
    exact ht (Obj.cells.inj (Option.some.inj hk)).2.1.symm
  · obtain ⟨es, ck, h1⟩ := (h.map1 e).1.block
    rw [h1] at hk
    cases hk
  · obtain ⟨es, ck, h1⟩ := (h.map2 e).1.block
    rw [h1] at hk
    cases hk
theorem iat_nil {w : World} {a : Option Addr} {l : List Int} (h : l = []) : IAt w a l := by subst h; exact fun i hi => by cases hi
theorem OneR.keep {B : Nat} {S : Nat → Prop} {w w' : World} {v : Value} {r : Rx} (h : OneR B w v r) (hr : r.l = []) (t : Touch S w w') (hs : ∀ k, v.ownBlock = some k → ¬ S k) : OneR B w' v r := by
  obtain ⟨g, c, a, k, e, h1, h2, h3⟩ := h
  exact ⟨g, c, a, k, e, h1.keep t hs, iat_nil hr, h3⟩
/-- append(row, row of one ...) in a region that draws. -/
theorem step_one {o : Oper} {a : Act} {w : World} {K : Act → World → Prop} {Q : Exit → Act → World → Prop} (s x : Operand) (hop : o.op = Op.call { callee := Callee.builtin Builtin.append, args := #[s, x], argTypes := #[40, 40] })
    (v : Value) (n : Nat) (xs : List Value) (hs : a.eval s = v) (hown : Wide w 29 6 v n xs) (g c : Nat) (news : List Value) (hx : a.eval x = .slice (some ⟨g, 0, none⟩) 1 c) (hm : news.length = 6) (hnews : ∀ j u, news[j]? = some u → w.cell? ⟨g, 0 + j, none⟩ = some u) (h1 : ∀ u ∈ news, u.oneCell' = true) (hn : n ≤ 1000)
    (hK : ∀ v' w', Wide w' 29 6 v' (n + 1) (xs ++ news) → Touch (fun k => v.ownBlock = some k) w w' → Moved w v v' → K (a.put o.dst v') w') : Oper.wp Try.prog o a w K Q := by
  obtain ⟨i, hi, hz, hsz, hby⟩ := gr_info
  obtain ⟨v', w', hrun, r1, r2, r3⟩ := run_wide (P := Try.prog) w 40 o.type 29 i _ 6 64 Try.underlying40 hi hz hsz hby rfl (by decide) v n xs hown g 0 c news hm hnews h1 (by unfold maxLen; omega) (by omega)
  unfold Oper.wp
  simp [execOp, hop, resolve, invoke, builtin, hs, hx, hrun, Result.andThen]
  exact hK v' w' r1 r2 r3
/-- The blocks that wait may write: the state's, a map. -/
def Wsp (B : Nat) (w : World) (sb : Nat) (k : Nat) : Prop := B ≤ k ∧ (k = sb ∨ (∃ es ck, w.heap[k]? = some (.map es ck)) ∨ w.heap.size ≤ k)
def WtP (B : Nat) (w : World) (sb : Nat) (mv1 : Value) (m1 : List (Int × Tm)) (pid : Int) (r : Rx) (e : Ending) (w' : World) : Prop := e = .returned (.tuple #[]) ∧ ∃ b p, GS B w' sb mv1 (.map (some b)) m1 [(pid, p)] ∧ OneR B w' (slV p) r ∧ Touch (Wsp B w sb) w w'
set_option maxRecDepth 100000 in
set_option maxHeartbeats 8000000 in
theorem wait_none {B : Nat} {w : World} {sb : Nat} {mv1 : Value} {m1 : List (Int × Tm)} {r : Rx} {v : Value} {pid : Int} (h : GS B w sb mv1 (.map none) m1 []) (hv : OneR B w v r) (hr : r.l = []) (hp : pid = 1 ∨ pid = 2) (hB : B ≤ w.heap.size) :
    Calls Try.prog 16 #[.pointer (some ⟨sb, 0, none⟩), .int .u64 pid, v] w fun e w' => WtP B w sb mv1 m1 pid r e w' := by
  obtain ⟨g, c, a, k, rfl, hw, _, hg⟩ := hv
  have y1 : w.cell? ⟨sb, 1, none⟩ = some (.map none) := cell_of h.obj 1
  have f1 : w.frozen? ⟨sb, 1, none⟩ = false := frozen_of h.obj 1
  have y2 : (w.alloc (.map #[] 0)).cell? ⟨sb, 1, none⟩ = some (.map none) := cell_of (heap_old _ h.obj) 1
  have f2 : (w.alloc (.map #[] 0)).frozen? ⟨sb, 1, none⟩ = false := frozen_of (heap_old _ h.obj) 1
  have hmm := @run_makeMap Try.prog
  have H := hide h
  have HW := hide hw
  have HG := hide hg
  have HR := hide hr
  have HP := hide hp
  have HB := hide hB
  have hq : ∀ (W : World) (b : Nat), (binOp .eql 50 (.map (some b)) (.map none)).run Try.prog W = .ok (.bool false) W := fun _ _ => by kernel_rfl
  have hq0 : ∀ (W : World), (binOp .eql 50 (.map none) (.map none)).run Try.prog W = .ok (.bool true) W := fun _ => by kernel_rfl
  clear h hw hg hr hp hB
  go_enter Try.func16, Try.ntmps16
  go_upto_region 3 with fail
  have b1 := (Below.refl w.heap.size w).alloc (Nat.le_refl _) (.map #[] 0)
  have tsb := touch_set (w.alloc (.map #[] 0)) sb 1 (.map (some w.heap.size))
  have hsb := lt_of_heap (unhide H).obj
  have hob := heap_set (heap_old (.map #[] 0) (unhide H).obj) 1 (.map (some w.heap.size))
  have hm1 : ∀ b, mv1 = .map (some b) → b < w.heap.size ∧ b ≠ sb := fun b e => ⟨((unhide H).map1 e).1.lt, fun e2 => by
    obtain ⟨es, ck, h1⟩ := ((unhide H).map1 e).1.block
    rw [e2, (unhide H).obj] at h1
    cases h1⟩
  have H1 : Hid (GS B ((w.alloc (.map #[] 0)).setCell ⟨sb, 1, none⟩ (.map (some w.heap.size))) sb mv1 (.map (some w.heap.size)) m1 []) := hide ⟨hob, by
      rcases (unhide H).g with ⟨e, e2⟩ | ⟨b, e, m, hb⟩
      · exact .inl ⟨e, e2⟩
      · exact .inr ⟨b, e, (m.keep (Touch.of_below (S := fun _ => False) b1) (fun h => h)).keep tsb (fun h => (hm1 b e).2 h), hb⟩, .inr ⟨w.heap.size, rfl, (MM.made wK w).keep tsb (fun h => by omega), unhide HB⟩, fun b e e2 => by
      have := (hm1 b e).1
      injection e2 with e3
      injection e3 with e4
      omega, (unhide H).few, (unhide H).hb⟩
  have HMB : Hid (Wsp B w sb w.heap.size) := hide ⟨unhide HB, .inr (.inr (Nat.le_refl _))⟩
  have T1 : Hid (Touch (Wsp B w sb) w ((w.alloc (.map #[] 0)).setCell ⟨sb, 1, none⟩ (.map (some w.heap.size)))) := hide ((Touch.of_below b1).trans (tsb.mono (fun k hk => ⟨by rw [hk]; exact (unhide H).hb, .inl hk⟩)))
  have W1 : Hid (Wide ((w.alloc (.map #[] 0)).setCell ⟨sb, 1, none⟩ (.map (some w.heap.size))) 29 6 (.slice (some ⟨g, 0, none⟩) 1 c) 1 (rxA r a k).toList) := hide (((unhide HW).later b1).keep tsb (fun q hq e => by
      obtain ⟨cs, h1⟩ := (unhide HW).heap hq
      rw [e, (unhide H).obj] at h1
      exact absurd (Obj.cells.inj (Option.some.inj h1)).2.1 (by decide)))
  clear y1 y2 f1 f2 hmm b1 tsb hsb hob hm1 H HW
  generalize (w.alloc (.map #[] 0)).setCell ⟨sb, 1, none⟩ (.map (some w.heap.size)) = w1 at *
  have HB1 : Hid (B ≤ w1.heap.size) := hide (Nat.le_trans (unhide HB) (unhide T1).size)
  generalize w.heap.size = mb at *
  have hd : Below w1.heap.size w1 w1.drew := (Below.refl _ _).drew
  have H2 := hide ((unhide H1).later hd)
  have W2 := hide ((unhide W1).later hd)
  have T2 := hide ((unhide T1).drew)
  have HB2 : Hid (B ≤ w1.drew.heap.size) := hide (Nat.le_trans (unhide HB1) hd.size)
  clear hd H1 W1 T1 HB1
  refine wp_region_held_drew (S := fun w' => w'.cell? ⟨sb, 1, none⟩ = some (.map (some mb))) (by kernel_rfl) (cell_of (unhide H2).obj 1) (fun hHeld => ?_)
  generalize w1.drew = w2 at *
  have lk : (Instr.lookup 50 (.map (some mb)) (.int .u64 pid) false).run Try.prog w2 = .ok (.slice none 0 0) w2 := ((unhide H2).map2 rfl).1.look1 (M := wK) (s := pid) (wf_pid (unhide HP))
  refine take17 (i := 0) (d := 18) (v := .pointer (some ⟨sb, 0, none⟩)) rfl rfl (by kernel_rfl) (by kernel_rfl) (by kernel_rfl) (fun _ _ _ h => h) (Or.inl ⟨by rfl, by intro w' hSw; (try dsimp only at hSw); go_simp⟩) (by assumption) ?_; (try simp only [List.setIfInBounds_toArray, List.set_cons_zero, List.set_cons_succ])
  refine take17 (i := 1) (d := 19) (v := .pointer (some ⟨sb, 0, none⟩)) rfl rfl (by kernel_rfl) (by kernel_rfl) (by kernel_rfl) (fun _ _ _ h => h) (Or.inl ⟨by rfl, by intro w' hSw; (try dsimp only at hSw); go_simp⟩) (by assumption) ?_; (try simp only [List.setIfInBounds_toArray, List.set_cons_zero, List.set_cons_succ])
  refine take17 (i := 2) (d := 20) (v := .pointer (some ⟨sb, 1, none⟩)) rfl rfl (by kernel_rfl) (by kernel_rfl) (by kernel_rfl) (fun _ _ _ h => h) (Or.inl ⟨by rfl, by intro w' hSw; (try dsimp only at hSw); go_simp⟩) (by assumption) ?_; (try simp only [List.setIfInBounds_toArray, List.set_cons_zero, List.set_cons_succ])
  refine take17 (i := 3) (d := 21) (v := .map (some mb)) rfl rfl (by kernel_rfl) (by kernel_rfl) (by kernel_rfl) (fun _ _ _ h => h) (Or.inl ⟨by rfl, by intro w' hSw; (try dsimp only at hSw); go_simp⟩) (by assumption) ?_; (try simp only [List.setIfInBounds_toArray, List.set_cons_zero, List.set_cons_succ])
  refine take17 (i := 4) (d := 22) (v := .int .u64 pid) rfl rfl (by kernel_rfl) (by kernel_rfl) (by kernel_rfl) (fun _ _ _ h => h) (Or.inl ⟨by rfl, by intro w' hSw; (try dsimp only at hSw); go_simp⟩) (by assumption) ?_; (try simp only [List.setIfInBounds_toArray, List.set_cons_zero, List.set_cons_succ])
  refine take17 (i := 5) (d := 23) (v := .pointer (some ⟨sb, 0, none⟩)) rfl rfl (by kernel_rfl) (by kernel_rfl) (by kernel_rfl) (fun _ _ _ h => h) (Or.inl ⟨by rfl, by intro w' hSw; (try dsimp only at hSw); go_simp⟩) (by assumption) ?_; (try simp only [List.setIfInBounds_toArray, List.set_cons_zero, List.set_cons_succ])
  refine take17 (i := 6) (d := 24) (v := .pointer (some ⟨sb, 0, none⟩)) rfl rfl (by kernel_rfl) (by kernel_rfl) (by kernel_rfl) (fun _ _ _ h => h) (Or.inl ⟨by rfl, by intro w' hSw; (try dsimp only at hSw); go_simp⟩) (by assumption) ?_; (try simp only [List.setIfInBounds_toArray, List.set_cons_zero, List.set_cons_succ])
  refine take17 (i := 7) (d := 25) (v := .pointer (some ⟨sb, 1, none⟩)) rfl rfl (by kernel_rfl) (by kernel_rfl) (by kernel_rfl) (fun _ _ _ h => h) (Or.inl ⟨by rfl, by intro w' hSw; (try dsimp only at hSw); go_simp⟩) (by assumption) ?_; (try simp only [List.setIfInBounds_toArray, List.set_cons_zero, List.set_cons_succ])
  refine take17 (i := 8) (d := 26) (v := .map (some mb)) rfl rfl (by kernel_rfl) (by kernel_rfl) (by kernel_rfl) (fun _ _ _ h => h) (Or.inl ⟨by rfl, by intro w' hSw; (try dsimp only at hSw); go_simp⟩) (by assumption) ?_; (try simp only [List.setIfInBounds_toArray, List.set_cons_zero, List.set_cons_succ])
  refine take17 (i := 9) (d := 27) (v := .int .u64 pid) rfl rfl (by kernel_rfl) (by kernel_rfl) (by kernel_rfl) (fun _ _ _ h => h) (Or.inl ⟨by rfl, by intro w' hSw; (try dsimp only at hSw); go_simp⟩) (by assumption) ?_; (try simp only [List.setIfInBounds_toArray, List.set_cons_zero, List.set_cons_succ])
  refine take17 (i := 11) (d := 29) (v := .slice (some ⟨g, 0, none⟩) 1 c) rfl rfl (by kernel_rfl) (by kernel_rfl) (by kernel_rfl) (fun _ _ _ h => h) (Or.inl ⟨by rfl, by intro w' hSw; (try dsimp only at hSw); go_simp⟩) (by assumption) ?_; (try simp only [List.setIfInBounds_toArray, List.set_cons_zero, List.set_cons_succ])
  refine wpAnyH_ready (rs := [10]) (by kernel_rfl) (by simp) ?_
  refine AllReadyH.cons rfl (fun K hK => ?_) AllReadyH.nil
  go_simp
  refine hK.out _ _ (by assumption) (fun hHeld => ?_)
  clear hK K lk
  (try simp only [Act.put, List.setIfInBounds_toArray, List.set_cons_zero, List.set_cons_succ])
  refine wpAnyH_ready (rs := [12]) (by kernel_rfl) (by simp) ?_
  refine AllReadyH.cons rfl (fun K hK => ?_) AllReadyH.nil
  rw [if_pos (by rfl)]
  refine step_one (.tmp 28) (.tmp 29) rfl (.slice none 0 0) 0 [] rfl (Wide.nil _ _ _) g c (rxA r a k).toList rfl rfl (fun j u hj => by
    obtain ⟨a', cap, ev, _, _, _, _, hc⟩ := (unhide W2).parts
    obtain ⟨g', ea, _, hcell, _⟩ := hc (by omega)
    injection ev with e1 e2 e3
    rw [ea] at e1
    cases e1
    rw [Nat.zero_add, hcell j (by have := (List.getElem?_eq_some_iff.1 hj).1; simpa using this)]
    exact hj) (by intro u hu; simp only [List.mem_cons, List.not_mem_nil, or_false] at hu; rcases hu with rfl | rfl | rfl | rfl | rfl | rfl <;> rfl) (by omega) ?_
  intro v3 w3 o3 t3 m3
  have b3 : Below w2.heap.size w2 w3 := below_touch (Below.refl _ _) t3 (Nat.le_refl _) (fun k hk => by simp [Value.ownBlock] at hk)
  obtain ⟨a3, c3, e3, _, _, _, hob, hc⟩ := o3.parts
  obtain ⟨g3, rfl, hg3, _, _⟩ := hc (by omega)
  subst e3
  have hn3 := (m3 g3 (hob _ rfl)).elim (fun e => by simp [Value.ownBlock] at e) id
  have H3 := hide ((unhide H2).later b3)
  have O3 : Hid (OneR B w3 (.slice (some ⟨g3, 0, none⟩) 1 c3) r) := hide ⟨g3, c3, a, k, rfl, by simpa using o3, iat_nil (unhide HR), Nat.le_trans (unhide HB2) hn3⟩
  have T3 := hide ((unhide T2).trans (Touch.of_below b3))
  clear o3 t3 m3 b3 hob hc hg3 hn3 H2 W2 T2
  refine hK.out _ _ (cell_of (unhide H3).obj 1) (fun hHeld => ?_)
  clear hK K
  (try simp only [Act.put, List.setIfInBounds_toArray])
  obtain ⟨w4, hst, hm4, ht4⟩ := ((unhide H3).map2 rfl).1.store (M := wK) (s := pid) (by show 0 < maxLen; unfold maxLen; omega) (wf_pid (unhide HP)) ⟨some g3, 1, c3⟩
  have hst' : (Instr.mapUpdate 50 (.map (some mb)) (.int .u64 pid) (.slice (some ⟨g3, 0, none⟩) 1 c3)).run Try.prog w3 = .ok () w4 := hst
  have nsb : sb ≠ mb := fun e => by
    obtain ⟨es, ck, h1⟩ := ((unhide H3).map2 rfl).1.block
    rw [← e, (unhide H3).obj] at h1
    cases h1
  have F4 : Hid (WtP B w sb mv1 m1 pid r (.returned (.tuple #[])) w4) := hide ⟨rfl, mb, ⟨some g3, 1, c3⟩, ⟨ht4.keep (unhide H3).obj nsb, by
      rcases (unhide H3).g with ⟨e, e2⟩ | ⟨b, e, m, hb⟩
      · exact .inl ⟨e, e2⟩
      · exact .inr ⟨b, e, m.keep ht4 (fun e2 => (unhide H3).ne b e (by rw [e2])), hb⟩, .inr ⟨mb, rfl, hm4, ((unhide H3).map2 rfl).2⟩, (unhide H3).ne, (unhide H3).few, (unhide H3).hb⟩, (unhide O3).keep (unhide HR) ht4 (fun q hq e => by
      obtain ⟨g', c', a', k', ev, hw', _, _⟩ := unhide O3
      obtain ⟨cs, h1⟩ := hw'.heap (k := q) hq
      obtain ⟨es, ck, h2⟩ := ((unhide H3).map2 rfl).1.block
      rw [e, h2] at h1
      cases h1), (unhide T3).trans (ht4.mono (fun q hq => by rw [hq]; exact unhide HMB))⟩
  have C4 : w4.cell? ⟨sb, 1, none⟩ = some (.map (some mb)) := cell_of (ht4.keep (unhide H3).obj nsb) 1
  clear hst hm4 ht4 H3 O3 T3
  refine wpAnyH_ready (rs := [13]) (by kernel_rfl) (by simp) ?_
  refine AllReadyH.cons rfl (fun K hK => ?_) AllReadyH.nil
  go_simp
  refine hK.out _ _ C4 (fun hHeld => ?_)
  clear hK K
  (try simp only [Act.put, List.setIfInBounds_toArray, List.set_cons_zero, List.set_cons_succ])
  refine wpAnyH_done (by kernel_rfl) ?_ _
  clear hHeld C4 hst'
  go_wp2
  go_returns
  exact unhide F4
set_option maxRecDepth 100000 in
set_option maxHeartbeats 8000000 in
theorem wait_some {B : Nat} {w : World} {sb : Nat} {mv1 : Value} {m1 : List (Int × Tm)} {r : Rx} {v : Value} {pid : Int} {mb : Nat} (h : GS B w sb mv1 (.map (some mb)) m1 []) (hv : OneR B w v r) (hr : r.l = []) (hp : pid = 1 ∨ pid = 2) (hB : B ≤ w.heap.size) :
    Calls Try.prog 16 #[.pointer (some ⟨sb, 0, none⟩), .int .u64 pid, v] w fun e w' => WtP B w sb mv1 m1 pid r e w' := by
  obtain ⟨g, c, a, k, rfl, hw, _, hg⟩ := hv
  have y1 : w.cell? ⟨sb, 1, none⟩ = some (.map (some mb)) := cell_of h.obj 1
  have H := hide h
  have HW := hide hw
  have HG := hide hg
  have HR := hide hr
  have HP := hide hp
  have HB := hide hB
  have hq : ∀ (W : World) (b : Nat), (binOp .eql 50 (.map (some b)) (.map none)).run Try.prog W = .ok (.bool false) W := fun _ _ => by kernel_rfl
  have hq0 : ∀ (W : World), (binOp .eql 50 (.map none) (.map none)).run Try.prog W = .ok (.bool true) W := fun _ => by kernel_rfl
  clear h hw hg hr hp hB
  go_enter Try.func16, Try.ntmps16
  go_upto_region 3 with fail
  have H1 := H
  have W1 : Hid (Wide w 29 6 (.slice (some ⟨g, 0, none⟩) 1 c) 1 (rxA r a k).toList) := HW
  have HMB : Hid (Wsp B w sb mb) := hide ⟨((unhide H).map2 rfl).2, .inr (.inl ((unhide H).map2 rfl).1.block)⟩
  have T1 : Hid (Touch (Wsp B w sb) w w) := hide (Touch.refl _ _)
  have HB1 := HB
  clear y1 H HW
  obtain ⟨w1, hw1⟩ : ∃ w1, w1 = w := ⟨_, rfl⟩
  rw [← hw1] at H1 W1 HB1
  have T1' : Hid (Touch (Wsp B w sb) w w1) := by rw [hw1]; exact T1
  clear T1
  have T1 := T1'
  clear T1'
  rw [← hw1]
  clear hw1
  have hd : Below w1.heap.size w1 w1.drew := (Below.refl _ _).drew
  have H2 := hide ((unhide H1).later hd)
  have W2 := hide ((unhide W1).later hd)
  have T2 := hide ((unhide T1).drew)
  have HB2 : Hid (B ≤ w1.drew.heap.size) := hide (Nat.le_trans (unhide HB1) hd.size)
  clear hd H1 W1 T1 HB1
  refine wp_region_held_drew (S := fun w' => w'.cell? ⟨sb, 1, none⟩ = some (.map (some mb))) (by kernel_rfl) (cell_of (unhide H2).obj 1) (fun hHeld => ?_)
  generalize w1.drew = w2 at *
  have lk : (Instr.lookup 50 (.map (some mb)) (.int .u64 pid) false).run Try.prog w2 = .ok (.slice none 0 0) w2 := ((unhide H2).map2 rfl).1.look1 (M := wK) (s := pid) (wf_pid (unhide HP))
  refine take17 (i := 0) (d := 18) (v := .pointer (some ⟨sb, 0, none⟩)) rfl rfl (by kernel_rfl) (by kernel_rfl) (by kernel_rfl) (fun _ _ _ h => h) (Or.inl ⟨by rfl, by intro w' hSw; (try dsimp only at hSw); go_simp⟩) (by assumption) ?_; (try simp only [List.setIfInBounds_toArray, List.set_cons_zero, List.set_cons_succ])
  refine take17 (i := 1) (d := 19) (v := .pointer (some ⟨sb, 0, none⟩)) rfl rfl (by kernel_rfl) (by kernel_rfl) (by kernel_rfl) (fun _ _ _ h => h) (Or.inl ⟨by rfl, by intro w' hSw; (try dsimp only at hSw); go_simp⟩) (by assumption) ?_; (try simp only [List.setIfInBounds_toArray, List.set_cons_zero, List.set_cons_succ])
  refine take17 (i := 2) (d := 20) (v := .pointer (some ⟨sb, 1, none⟩)) rfl rfl (by kernel_rfl) (by kernel_rfl) (by kernel_rfl) (fun _ _ _ h => h) (Or.inl ⟨by rfl, by intro w' hSw; (try dsimp only at hSw); go_simp⟩) (by assumption) ?_; (try simp only [List.setIfInBounds_toArray, List.set_cons_zero, List.set_cons_succ])
  refine take17 (i := 3) (d := 21) (v := .map (some mb)) rfl rfl (by kernel_rfl) (by kernel_rfl) (by kernel_rfl) (fun _ _ _ h => h) (Or.inl ⟨by rfl, by intro w' hSw; (try dsimp only at hSw); go_simp⟩) (by assumption) ?_; (try simp only [List.setIfInBounds_toArray, List.set_cons_zero, List.set_cons_succ])
  refine take17 (i := 4) (d := 22) (v := .int .u64 pid) rfl rfl (by kernel_rfl) (by kernel_rfl) (by kernel_rfl) (fun _ _ _ h => h) (Or.inl ⟨by rfl, by intro w' hSw; (try dsimp only at hSw); go_simp⟩) (by assumption) ?_; (try simp only [List.setIfInBounds_toArray, List.set_cons_zero, List.set_cons_succ])
  refine take17 (i := 5) (d := 23) (v := .pointer (some ⟨sb, 0, none⟩)) rfl rfl (by kernel_rfl) (by kernel_rfl) (by kernel_rfl) (fun _ _ _ h => h) (Or.inl ⟨by rfl, by intro w' hSw; (try dsimp only at hSw); go_simp⟩) (by assumption) ?_; (try simp only [List.setIfInBounds_toArray, List.set_cons_zero, List.set_cons_succ])
  refine take17 (i := 6) (d := 24) (v := .pointer (some ⟨sb, 0, none⟩)) rfl rfl (by kernel_rfl) (by kernel_rfl) (by kernel_rfl) (fun _ _ _ h => h) (Or.inl ⟨by rfl, by intro w' hSw; (try dsimp only at hSw); go_simp⟩) (by assumption) ?_; (try simp only [List.setIfInBounds_toArray, List.set_cons_zero, List.set_cons_succ])
  refine take17 (i := 7) (d := 25) (v := .pointer (some ⟨sb, 1, none⟩)) rfl rfl (by kernel_rfl) (by kernel_rfl) (by kernel_rfl) (fun _ _ _ h => h) (Or.inl ⟨by rfl, by intro w' hSw; (try dsimp only at hSw); go_simp⟩) (by assumption) ?_; (try simp only [List.setIfInBounds_toArray, List.set_cons_zero, List.set_cons_succ])
  refine take17 (i := 8) (d := 26) (v := .map (some mb)) rfl rfl (by kernel_rfl) (by kernel_rfl) (by kernel_rfl) (fun _ _ _ h => h) (Or.inl ⟨by rfl, by intro w' hSw; (try dsimp only at hSw); go_simp⟩) (by assumption) ?_; (try simp only [List.setIfInBounds_toArray, List.set_cons_zero, List.set_cons_succ])
  refine take17 (i := 9) (d := 27) (v := .int .u64 pid) rfl rfl (by kernel_rfl) (by kernel_rfl) (by kernel_rfl) (fun _ _ _ h => h) (Or.inl ⟨by rfl, by intro w' hSw; (try dsimp only at hSw); go_simp⟩) (by assumption) ?_; (try simp only [List.setIfInBounds_toArray, List.set_cons_zero, List.set_cons_succ])
  refine take17 (i := 11) (d := 29) (v := .slice (some ⟨g, 0, none⟩) 1 c) rfl rfl (by kernel_rfl) (by kernel_rfl) (by kernel_rfl) (fun _ _ _ h => h) (Or.inl ⟨by rfl, by intro w' hSw; (try dsimp only at hSw); go_simp⟩) (by assumption) ?_; (try simp only [List.setIfInBounds_toArray, List.set_cons_zero, List.set_cons_succ])
  refine wpAnyH_ready (rs := [10]) (by kernel_rfl) (by simp) ?_
  refine AllReadyH.cons rfl (fun K hK => ?_) AllReadyH.nil
  go_simp
  refine hK.out _ _ (by assumption) (fun hHeld => ?_)
  clear hK K lk
  (try simp only [Act.put, List.setIfInBounds_toArray, List.set_cons_zero, List.set_cons_succ])
  refine wpAnyH_ready (rs := [12]) (by kernel_rfl) (by simp) ?_
  refine AllReadyH.cons rfl (fun K hK => ?_) AllReadyH.nil
  rw [if_pos (by rfl)]
  refine step_one (.tmp 28) (.tmp 29) rfl (.slice none 0 0) 0 [] rfl (Wide.nil _ _ _) g c (rxA r a k).toList rfl rfl (fun j u hj => by
    obtain ⟨a', cap, ev, _, _, _, _, hc⟩ := (unhide W2).parts
    obtain ⟨g', ea, _, hcell, _⟩ := hc (by omega)
    injection ev with e1 e2 e3
    rw [ea] at e1
    cases e1
    rw [Nat.zero_add, hcell j (by have := (List.getElem?_eq_some_iff.1 hj).1; simpa using this)]
    exact hj) (by intro u hu; simp only [List.mem_cons, List.not_mem_nil, or_false] at hu; rcases hu with rfl | rfl | rfl | rfl | rfl | rfl <;> rfl) (by omega) ?_
  intro v3 w3 o3 t3 m3
  have b3 : Below w2.heap.size w2 w3 := below_touch (Below.refl _ _) t3 (Nat.le_refl _) (fun k hk => by simp [Value.ownBlock] at hk)
  obtain ⟨a3, c3, e3, _, _, _, hob, hc⟩ := o3.parts
  obtain ⟨g3, rfl, hg3, _, _⟩ := hc (by omega)
  subst e3
  have hn3 := (m3 g3 (hob _ rfl)).elim (fun e => by simp [Value.ownBlock] at e) id
  have H3 := hide ((unhide H2).later b3)
  have O3 : Hid (OneR B w3 (.slice (some ⟨g3, 0, none⟩) 1 c3) r) := hide ⟨g3, c3, a, k, rfl, by simpa using o3, iat_nil (unhide HR), Nat.le_trans (unhide HB2) hn3⟩
  have T3 := hide ((unhide T2).trans (Touch.of_below b3))
  clear o3 t3 m3 b3 hob hc hg3 hn3 H2 W2 T2
  refine hK.out _ _ (cell_of (unhide H3).obj 1) (fun hHeld => ?_)
  clear hK K
  (try simp only [Act.put, List.setIfInBounds_toArray])
  obtain ⟨w4, hst, hm4, ht4⟩ := ((unhide H3).map2 rfl).1.store (M := wK) (s := pid) (by show 0 < maxLen; unfold maxLen; omega) (wf_pid (unhide HP)) ⟨some g3, 1, c3⟩
  have hst' : (Instr.mapUpdate 50 (.map (some mb)) (.int .u64 pid) (.slice (some ⟨g3, 0, none⟩) 1 c3)).run Try.prog w3 = .ok () w4 := hst
  have nsb : sb ≠ mb := fun e => by
    obtain ⟨es, ck, h1⟩ := ((unhide H3).map2 rfl).1.block
    rw [← e, (unhide H3).obj] at h1
    cases h1
  have F4 : Hid (WtP B w sb mv1 m1 pid r (.returned (.tuple #[])) w4) := hide ⟨rfl, mb, ⟨some g3, 1, c3⟩, ⟨ht4.keep (unhide H3).obj nsb, by
      rcases (unhide H3).g with ⟨e, e2⟩ | ⟨b, e, m, hb⟩
      · exact .inl ⟨e, e2⟩
      · exact .inr ⟨b, e, m.keep ht4 (fun e2 => (unhide H3).ne b e (by rw [e2])), hb⟩, .inr ⟨mb, rfl, hm4, ((unhide H3).map2 rfl).2⟩, (unhide H3).ne, (unhide H3).few, (unhide H3).hb⟩, (unhide O3).keep (unhide HR) ht4 (fun q hq e => by
      obtain ⟨g', c', a', k', ev, hw', _, _⟩ := unhide O3
      obtain ⟨cs, h1⟩ := hw'.heap (k := q) hq
      obtain ⟨es, ck, h2⟩ := ((unhide H3).map2 rfl).1.block
      rw [e, h2] at h1
      cases h1), (unhide T3).trans (ht4.mono (fun q hq => by rw [hq]; exact unhide HMB))⟩
  have C4 : w4.cell? ⟨sb, 1, none⟩ = some (.map (some mb)) := cell_of (ht4.keep (unhide H3).obj nsb) 1
  clear hst hm4 ht4 H3 O3 T3
  refine wpAnyH_ready (rs := [13]) (by kernel_rfl) (by simp) ?_
  refine AllReadyH.cons rfl (fun K hK => ?_) AllReadyH.nil
  go_simp
  refine hK.out _ _ C4 (fun hHeld => ?_)
  clear hK K
  (try simp only [Act.put, List.setIfInBounds_toArray, List.set_cons_zero, List.set_cons_succ])
  refine wpAnyH_done (by kernel_rfl) ?_ _
  clear hHeld C4 hst'
  go_wp2
  go_returns
  exact unhide F4
end Go.Proofs.Ytfbnkeflgddcmaa
