/-
  A client sends the request under way, whose batch has no values. Conditions: the client as it lies.
-/
import Derived.Test.YtbonlonkienhaaaCs7
import Derived.Great.BuildSlice
namespace Go.Proofs.Ytbonlonkienhaaa
open Go.RowKit
set_option linter.unusedVariables false

theorem range_of {w : World} {b o : Nat} {cs ds : List Value} {t : TypeId} (h : w.heap[b]? = some (.cells cs.toArray t)) (hd : ∀ j v, ds[j]? = some v → cs[o + j]? = some v) : w.rangeAt b o ds := by
  intro j v hv
  rw [cell_of h]
  simpa using hd j v hv
theorem lay_fold : ∀ (l : List Value) (k : Nat) (cs : Array Value), (l.zipIdx k).foldl (fun cs (p : Value × Nat) => cs.setIfInBounds (0 + p.2) p.1) cs = lay cs k l
  | [], _, _ => rfl
  | v :: r, k, cs => by
    rw [List.zipIdx_cons, List.foldl_cons, lay_fold r (k + 1)]
    simp [lay]
theorem fill_one {M : List Value} {n : Nat} {cs : Array Value} (hm : M.length = n) (hc : cs.size = n) : Instr.fill (fun i => some (i * n, n)) cs [(0, .agg M.toArray)] = some M.toArray := by
  have e : (M.toArray.zipIdx.foldl (fun cs (p : Value × Nat) => cs.setIfInBounds (0 + p.2) p.1) cs) = M.toArray := by
    rw [← Array.foldl_toList, Array.toList_zipIdx]
    show (M.zipIdx 0).foldl _ cs = _
    rw [lay_fold, lay_all (by rw [hc, hm])]
  simp only [Instr.fill, Value.cells, Nat.zero_mul, List.size_toArray]
  rw [if_neg (by simp [hm, hc])]
  exact congrArg some e
theorem msg_info : ∃ i z, Try.prog.info? 65 = some i ∧ i.zero = some z ∧ i.size = 59 ∧ z.cells.size = 59 := by
  have h : (Try.prog.info? 65).map (fun i => (i.size, i.zero.map (·.cells.size))) = some (59, some 59) := by kernel_rfl
  cases hq : Try.prog.info? 65 with
  | none => simp [hq] at h
  | some i =>
    simp only [hq, Option.map_some, Option.some.injEq, Prod.mk.injEq] at h
    obtain ⟨z, hz, hs⟩ := Option.map_eq_some_iff.1 h.2
    exact ⟨i, z, rfl, hz, h.1, hs⟩
theorem info_ms : (Try.prog.info? 65).map (·.size) = some 59 := by kernel_rfl
/-- A list of one message is made. -/
theorem build_msg {ops : Array Oper} {rest : List Oper} {o : Oper} {a : Act} {w : World} {Q : Exit → Act → World → Prop} (hg : o.guard = none) (x : Operand) (ho : o.op = .buildSlice 38 1 #[(0, x)]) (M : List Value) (hx : a.eval x = .agg M.toArray) (hm : M.length = 59)
    (h : wpList Try.prog ops Q rest (a.put o.dst (.slice (some ⟨w.heap.size, 0, none⟩) 1 1)) (w.alloc (.cells M.toArray 65))) : wpList Try.prog ops Q (o :: rest) a w := by
  obtain ⟨i, z, hi, hz, hs, hzs⟩ := msg_info
  refine wpList_buildSlice hg 38 65 1 #[(0, x)] ho M.toArray i z Try.underlying38 hi hz (by rw [hs]; decide) (by rw [hs]; decide) ?_ h
  rw [hs]
  have e : (#[(0, x)].map fun (p : Nat × Operand) => (p.1, a.eval p.2)).toList = [(0, .agg M.toArray)] := by simp [hx]
  rw [e]
  exact fill_one hm (by simp)
def PostP (w : World) (b : Nat) (M : List Value) (e : Ending) (w' : World) : Prop := ∃ g, e = .returned (.slice (some ⟨g, 0, none⟩) 1 1) ∧ w.heap.size ≤ g ∧ w'.heap[g]? = some (.cells M.toArray 65) ∧ Touch (· = b) w w'
theorem set_same {M : List Value} {k : Nat} {v : Value} (h : M[k]? = some v) : M.toArray.setIfInBounds k v = M.toArray := by
  refine Array.ext_getElem? fun i => ?_
  rw [Array.getElem?_setIfInBounds]
  by_cases hi : k = i
  · subst hi
    obtain ⟨hk, e⟩ := List.getElem?_eq_some_iff.1 h
    simp [hk, e]
  · simp [hi]
set_option maxRecDepth 100000 in
set_option maxHeartbeats 4000000 in
theorem post_any {w : World} {b : Nat} {L M : List Value} (h : w.heap[b]? = some (.cells L.toArray 91)) (hl : L.length = 113) (hr : ∀ j v, M[j]? = some v → L[14 + j]? = some v) (hm : M.length = 59) (h1 : M.toArray.all (·.oneCell') = true) (hv : M[44]? = some (.slice none 0 0)) :
    Calls Try.prog 33 #[.pointer (some ⟨b, 0, none⟩)] w fun e w' => PostP w b M e w' := by
  obtain ⟨v74, hv74⟩ : ∃ v, L[74]? = some v := ⟨L[74], List.getElem?_eq_getElem (by omega)⟩
  have y74 : w.cell? ⟨b, 74, none⟩ = some v74 := (cell_of h 74).trans (by simpa using hv74)
  have f74 : w.frozen? ⟨b, 74, none⟩ = false := frozen_of h 74
  have H := hide h
  have HR := hide hr
  have HM := hide hm
  have H1 := hide h1
  have HV := hide hv
  have HI : Hid ((Try.prog.info? 65).map (·.size) = some M.length) := hide (by rw [hm]; exact info_ms)
  have HBL := hide (lt_of_heap h)
  clear h hr hm h1 hv hl hv74
  go_enter Try.func33, Try.ntmps33
  go_upto_region 2 with fail
  have T1 := hide (touch_set w b 74 (.int .i64 5))
  have R1 : Hid ((w.setCell ⟨b, 74, none⟩ (.int .i64 5)).rangeAt b 14 M) := hide (fun j v hj => by
    rw [cell_of (heap_set (unhide H) 74 (.int .i64 5)), Array.getElem?_setIfInBounds_ne (by
      have := (List.getElem?_eq_some_iff.1 hj).1
      have := unhide HM
      omega)]
    simpa using unhide HR j v hj)
  clear y74 f74 H HR
  generalize w.setCell ⟨b, 74, none⟩ (.int .i64 5) = w1 at *
  go_upto_region 3 with (first | (with_reducible (show wpList _ _ _ (Oper.mk _ (Op.load 65 _) _ _ _ _ :: _) _ _); refine wpList_load_mid rfl 65 _ rfl b 14 rfl M _ (unhide R1) Try.underlying65 rfl (unhide HI) ?_) | (with_reducible (show wpList _ _ _ (Oper.mk _ (Op.store 65 _ _) _ _ _ _ :: _) _ _); refine store_part 65 65 rfl (.tmp 3) (.tmp 14) rfl w1.heap.size 0 M rfl rfl M (heap_new _ _) (by rw [unhide HM]; exact Nat.le_of_eq (by kernel_rfl)) (unhide HI) (unhide H1) (lay_all (by rw [unhide HM]; kernel_rfl)) ?_; rintro w2 h2 t2; have H2 := hide h2; have T2 := hide (below_touch ((Below.refl w1.heap.size w1).alloc (Nat.le_refl _) _) t2 (Nat.le_of_lt (by simp)) (fun k hk => by omega)); clear h2 t2))
  generalize hg : w1.heap.size = g at *
  have HG := hide hg
  clear hg R1 H1
  have y44 : w2.cell? ⟨g, 44, none⟩ = some (.slice none 0 0) := (cell_of (unhide H2) 44).trans (by simpa using unhide HV)
  have f44 : w2.frozen? ⟨g, 44, none⟩ = false := frozen_of (unhide H2) 44
  go_wp2_with fail
  refine (copies_nil _).mono ?_
  rintro e w3 ⟨rfl, rfl⟩
  go_upto_region 4 with fail
  have H3 : Hid ((w3.setCell ⟨g, 44, none⟩ (.slice none 0 0)).heap[g]? = some (.cells M.toArray 65)) := hide ((heap_set (unhide H2) 44 _).trans (by rw [set_same (unhide HV)]))
  have T3 := hide (below_touch (unhide T2) (touch_set w3 g 44 (.slice none 0 0)) (Nat.le_of_lt (lt_of_heap (unhide H2))) (fun k hk => by omega))
  clear y44 f44 H2 T2 HV
  generalize w3.setCell ⟨g, 44, none⟩ (.slice none 0 0) = w4 at *
  have FF : Hid (PostP w b M (.returned (.slice (some ⟨w4.heap.size, 0, none⟩) 1 1)) (w4.alloc (.cells M.toArray 65))) := by
    have hb : Below g w1 w4 := unhide T3
    have hs := (unhide T1).size
    have h4 := hb.size
    have hgg := unhide HG
    rw [← hgg] at hb
    refine hide ⟨_, rfl, by omega, heap_new _ _, ((unhide T1).trans (Touch.of_below hb)).alloc _⟩
  have R3 : Hid (w4.rangeAt g 0 M) := hide (range_of (unhide H3) (fun j v hj => by rw [Nat.zero_add]; simpa using hj))
  clear T1 T3 HG HBL H3
  go_wp2_with (first | (with_reducible (show wpList _ _ _ (Oper.mk _ (Op.load 65 _) _ _ _ _ :: _) _ _); refine wpList_load_mid rfl 65 _ rfl g 0 rfl M _ (unhide R3) Try.underlying65 rfl (unhide HI) ?_) | (refine build_msg rfl (.tmp 21) rfl M rfl (unhide HM) ?_))
  go_returns
  exact unhide FF
end Go.Proofs.Ytbonlonkienhaaa
