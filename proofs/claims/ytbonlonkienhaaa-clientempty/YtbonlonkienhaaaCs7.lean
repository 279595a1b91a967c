/-
  A client's operation; the table of what is done at each; copies of no values. Conditions: the client as it lies.
-/
import Derived.Test.YtbonlonkienhaaaCs6
import Derived.Carry
import Derived.MapKept
import Derived.Deep.RegionHeld3
namespace Go.Proofs.Ytbonlonkienhaaa
open Go.RowKit
set_option linter.unusedVariables false

theorem run_ins {w : World} {b : Nat} {es : Array MapEntry} {ck : Nat} (h : w.heap[b]? = some (.map es ck)) (k : Int) (v : Value) (hf : Instr.findNow (.int .i64) (.int .i64 k) es.toList 0 = some none) : (Instr.mapUpdate 100 (.map (some b)) (.int .i64 k) v).run Try.prog w = .ok () { w with heap := w.heap.setIfInBounds b (.map (es.push { key := .int .i64 k, val := v, born := ck }) (ck + 1)) } := by
  have hu : Try.prog.underlying 100 = some (.map 3 99) := Try.underlying100
  have hk : Try.prog.underlying 3 = some (.int .i64) := Try.underlying3
  have hc : (Instr.checkKey false (9999 + 1) 3 (.int .i64 k)).run Try.prog w = .ok () w := Go.MapKept.run_checkKey hk (by simp [Go.MapKept.IsKey]) false 9999
  have hfk := Go.MapKept.run_findKey (P := Try.prog) (w := w) hk hf
  simp [Instr.mapUpdate, run_underlying hu, Go.MapKept.run_getObj_map h, hc, hfk, Go.MapKept.run_setObj_map _ h, Result.andThen]
theorem run_look {w : World} {b : Nat} {es : Array MapEntry} {ck : Nat} (h : w.heap[b]? = some (.map es ck)) (k : Int) (i : Nat) (v : Value) (hf : Instr.findNow (.int .i64) (.int .i64 k) es.toList 0 = some (some (i, v))) : (Instr.lookup 100 (.map (some b)) (.int .i64 k) false).run Try.prog w = .ok v w := by
  have hu : Try.prog.underlying 100 = some (.map 3 99) := Try.underlying100
  have hk : Try.prog.underlying 3 = some (.int .i64) := Try.underlying3
  have hc : (Instr.checkKey es.isEmpty (9999 + 1) 3 (.int .i64 k)).run Try.prog w = .ok () w := Go.MapKept.run_checkKey hk (by simp [Go.MapKept.IsKey]) es.isEmpty 9999
  have hfk := Go.MapKept.run_findKey (P := Try.prog) (w := w) hk hf
  simp [Instr.lookup, run_underlying hu, Go.MapKept.run_getObj_map h, hc, hfk, Result.andThen]
theorem heap_ins {w : World} {b : Nat} {o o' : Obj} (h : w.heap[b]? = some o) : ({ w with heap := w.heap.setIfInBounds b o' } : World).heap[b]? = some o' := (Go.MapKept.heap_set h).1
theorem touch_ins (w : World) (b : Nat) (o : Obj) : Touch (· = b) w { w with heap := w.heap.setIfInBounds b o } := ⟨rfl, rfl, rfl, by simp, fun k _ hs => by
  show (w.heap.setIfInBounds b o)[k]? = w.heap[k]?
  rw [Array.getElem?_setIfInBounds_ne (fun e => hs e.symm)]⟩
/-- What is laid into a map that a call made. -/
theorem wpList_ins {w : World} {ops : Array Oper} {rest : List Oper} {o : Oper} {a : Act} {Q : Exit → Act → World → Prop} (hg : o.guard = none) (m k x : Operand) (ho : o.op = .insert 100 m k x)
    (b : Nat) (es : Array MapEntry) (ck : Nat) (n : Int) (v : Value) (hm : a.eval m = .map (some b)) (hk : a.eval k = .int .i64 n) (hx : a.eval x = v) (hb : w.heap[b]? = some (.map es ck))
    (hf : Instr.findNow (.int .i64) (.int .i64 n) es.toList 0 = some none) (es' : Array MapEntry) (he : es' = es.push { key := .int .i64 n, val := v, born := ck })
    (h : ∀ w', w'.heap[b]? = some (.map es' (ck + 1)) → Touch (· = b) w w' → wpList Try.prog ops Q rest (a.put o.dst undef) w') : wpList Try.prog ops Q (o :: rest) a w := by
  subst he
  refine wpList_plain hg fun K hK => ?_
  unfold Oper.wp execOp
  simp only [ho, Sem.run_bind, hm, hk, hx, run_ins hb n v hf, Result.andThen_ok]
  exact hK _ _ (h _ (heap_ins hb) (touch_ins _ _ _))

def deedE : Array MapEntry := #[⟨.int .i64 1, .func (.func 43) #[] #[], 0⟩, ⟨.int .i64 2, .func (.func 44) #[] #[], 1⟩, ⟨.int .i64 3, .func (.func 44) #[] #[], 2⟩, ⟨.int .i64 4, .func (.func 45) #[] #[], 3⟩, ⟨.int .i64 5, .func (.func 46) #[] #[], 4⟩]
def DeP (w : World) (e : Ending) (w' : World) : Prop := e = .returned (.map (some w.heap.size)) ∧ w'.heap[w.heap.size]? = some (.map deedE 5) ∧ Below w.heap.size w w' ∧ w.heap.size < w'.heap.size
set_option maxRecDepth 100000 in
theorem deeds_any (w : World) : Calls Try.prog 31 #[] w fun e w' => DeP w e w' := by
  have hmm := @run_makeMap Try.prog
  have H0 := hide (heap_new w (.map #[] 0))
  have T0 : Hid (Touch (· = w.heap.size) (w.alloc (.map #[] 0)) (w.alloc (.map #[] 0))) := hide (Touch.refl _ _)
  go_enter Try.func31, Try.ntmps31
  go_wp2_with (first | (with_reducible (show wpList _ _ _ (Oper.mk _ (Op.insert _ _ _ _) _ _ _ _ :: _) _ _); refine wpList_ins rfl _ _ _ rfl w.heap.size #[⟨.int .i64 1, .func (.func 43) #[] #[], 0⟩, ⟨.int .i64 2, .func (.func 44) #[] #[], 1⟩, ⟨.int .i64 3, .func (.func 44) #[] #[], 2⟩, ⟨.int .i64 4, .func (.func 45) #[] #[], 3⟩] 4 5 (.func (.func 46) #[] #[]) rfl rfl rfl (unhide H4) rfl #[⟨.int .i64 1, .func (.func 43) #[] #[], 0⟩, ⟨.int .i64 2, .func (.func 44) #[] #[], 1⟩, ⟨.int .i64 3, .func (.func 44) #[] #[], 2⟩, ⟨.int .i64 4, .func (.func 45) #[] #[], 3⟩, ⟨.int .i64 5, .func (.func 46) #[] #[], 4⟩] rfl ?_; rintro w5 h t; have H5 := hide h; have T5 := hide ((unhide T4).trans (t.mono (fun _ e => e))); clear h t) | (with_reducible (show wpList _ _ _ (Oper.mk _ (Op.insert _ _ _ _) _ _ _ _ :: _) _ _); refine wpList_ins rfl _ _ _ rfl w.heap.size #[⟨.int .i64 1, .func (.func 43) #[] #[], 0⟩, ⟨.int .i64 2, .func (.func 44) #[] #[], 1⟩, ⟨.int .i64 3, .func (.func 44) #[] #[], 2⟩] 3 4 (.func (.func 45) #[] #[]) rfl rfl rfl (unhide H3) rfl #[⟨.int .i64 1, .func (.func 43) #[] #[], 0⟩, ⟨.int .i64 2, .func (.func 44) #[] #[], 1⟩, ⟨.int .i64 3, .func (.func 44) #[] #[], 2⟩, ⟨.int .i64 4, .func (.func 45) #[] #[], 3⟩] rfl ?_; rintro w4 h t; have H4 := hide h; have T4 := hide ((unhide T3).trans (t.mono (fun _ e => e))); clear h t) | (with_reducible (show wpList _ _ _ (Oper.mk _ (Op.insert _ _ _ _) _ _ _ _ :: _) _ _); refine wpList_ins rfl _ _ _ rfl w.heap.size #[⟨.int .i64 1, .func (.func 43) #[] #[], 0⟩, ⟨.int .i64 2, .func (.func 44) #[] #[], 1⟩] 2 3 (.func (.func 44) #[] #[]) rfl rfl rfl (unhide H2) rfl #[⟨.int .i64 1, .func (.func 43) #[] #[], 0⟩, ⟨.int .i64 2, .func (.func 44) #[] #[], 1⟩, ⟨.int .i64 3, .func (.func 44) #[] #[], 2⟩] rfl ?_; rintro w3 h t; have H3 := hide h; have T3 := hide ((unhide T2).trans (t.mono (fun _ e => e))); clear h t) | (with_reducible (show wpList _ _ _ (Oper.mk _ (Op.insert _ _ _ _) _ _ _ _ :: _) _ _); refine wpList_ins rfl _ _ _ rfl w.heap.size #[⟨.int .i64 1, .func (.func 43) #[] #[], 0⟩] 1 2 (.func (.func 44) #[] #[]) rfl rfl rfl (unhide H1) rfl #[⟨.int .i64 1, .func (.func 43) #[] #[], 0⟩, ⟨.int .i64 2, .func (.func 44) #[] #[], 1⟩] rfl ?_; rintro w2 h t; have H2 := hide h; have T2 := hide ((unhide T1).trans (t.mono (fun _ e => e))); clear h t) | (with_reducible (show wpList _ _ _ (Oper.mk _ (Op.insert _ _ _ _) _ _ _ _ :: _) _ _); refine wpList_ins rfl _ _ _ rfl w.heap.size #[] 0 1 (.func (.func 43) #[] #[]) rfl rfl rfl (unhide H0) rfl #[⟨.int .i64 1, .func (.func 43) #[] #[], 0⟩] rfl ?_; rintro w1 h t; have H1 := hide h; have T1 := hide ((unhide T0).trans (t.mono (fun _ e => e))); clear h t))
  have FF : Hid (DeP w (.returned (.map (some w.heap.size))) w5) := by
    have b0 : Below w.heap.size w (w.alloc (.map #[] 0)) := (Below.refl _ _).alloc (Nat.le_refl _) _
    have b1 := below_touch b0 (unhide T5) b0.size (fun k hk => by omega)
    exact hide ⟨rfl, unhide H5, b1, lt_of_heap (unhide H5)⟩
  clear H0 H1 H2 H3 H4 H5 T0 T1 T2 T3 T4 T5
  go_wp2
  go_returns
  exact unhide FF
set_option maxRecDepth 100000 in
theorem tx_any {w : World} {b : Nat} {L : List Value} {x : Int} (h : w.heap[b]? = some (.cells L.toArray 91)) (hx : L[2]? = some (.int .i64 x)) :
    Calls Try.prog 48 #[.pointer (some ⟨b, 0, none⟩)] w fun e w' => e = .returned (.int .i64 x) ∧ w' = w := by
  have y : w.cell? ⟨b, 2, none⟩ = some (.int .i64 x) := (cell_of h 2).trans (by simpa using hx)
  clear h hx
  go_enter Try.func48, Try.ntmps48
  go_wp2
  go_ret
  exact ⟨rfl, rfl⟩
set_option maxRecDepth 100000 in
theorem copies_nil (w : World) : Calls Try.prog 47 #[.slice none 0 0] w fun e w' => e = .returned (.slice none 0 0) ∧ w' = w := by
  go_enter Try.func47, Try.ntmps47
  go_wp2
  refine wp_loop_rounds 1 ?_
  rw [rounds_succ]
  go_wp2
  go_ret
  exact ⟨rfl, rfl⟩
end Go.Proofs.Ytbonlonkienhaaa
