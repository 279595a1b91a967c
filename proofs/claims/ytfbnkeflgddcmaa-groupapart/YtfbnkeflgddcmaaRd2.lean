/-
  codec.Reader's other calls. Conditions: the bytes are at most 2^47.
-/
import Derived.Test.YtfbnkeflgddcmaaRd
namespace Go.Proofs.Ytfbnkeflgddcmaa
open Go.RowKit
set_option linter.unusedVariables false

/-- Rows of whole numbers with a sign. -/
def ivals (l : List Int) : List Value := l.map (fun x : Int => Value.int .i64 x)
def IRow (w : World) (v : Value) (l : List Int) : Prop := Own w 3 v (ivals l)
theorem ivals_len (l : List Int) : (ivals l).length = l.length := by simp [ivals]
theorem ivals_at {l : List Int} {j : Nat} (h : j < l.length) : (ivals l)[j]? = some (.int .i64 (l.getD j 0)) := by simp [ivals, List.getD, h]
theorem IRow.nil (w : World) : IRow w (.slice none 0 0) [] := Own.nil _ _
theorem IRow.keep {w w' : World} {v : Value} {l : List Int} {S : Nat → Prop} (h : IRow w v l) (t : Touch S w w') (hs : ∀ k, v.ownBlock = some k → ¬ S k) : IRow w' v l := Own.keep h t hs
theorem IRow.later {w w' : World} {v : Value} {l : List Int} (h : IRow w v l) (hb : Below w.heap.size w w') : IRow w' v l := Own.later h hb
theorem IRow.parts {w : World} {v : Value} {l : List Int} (h : IRow w v l) : ∃ a cap, v = .slice a l.length cap ∧ IAt w a l ∧ l.length ≤ cap ∧ cap ≤ maxLen ∧ (a = none → cap = 0) ∧ (∀ x, a = some x → v.ownBlock = some x.block) ∧ (∀ i, i < l.length → ∃ g, a = some ⟨g, 0, none⟩ ∧ w.frozen? ⟨g, i, none⟩ = false) := by
  obtain ⟨a, cap, e1, e2, e3, e4, e5, e6⟩ := Own.parts h
  rw [ivals_len] at e1 e2
  refine ⟨a, cap, e1, fun i hi => ?_, e2, e3, e4, e5, fun i hi => ?_⟩
  · obtain ⟨g, ha, hg, hc, _⟩ := e6 i (by rw [ivals_len]; exact hi)
    exact ⟨g, 0, ha, hg, by rw [Nat.zero_add, hc]; exact ivals_at hi⟩
  · obtain ⟨g, ha, hg, hc, hf⟩ := e6 i (by rw [ivals_len]; exact hi)
    exact ⟨g, ha, hf⟩
theorem int_info : ∃ i, Try.prog.info? 3 = some i ∧ i.zero = some (.int .i64 0) ∧ i.size = 1 ∧ i.bytes = 8 := by
  have h : (Try.prog.info? 3).map (fun i => (i.zero, i.size, i.bytes)) = some (some (.int .i64 0), 1, 8) := by kernel_rfl
  exact info_parts h
/-- append(row, x). -/
theorem wpList_int (w : World) {ops : Array Oper} {rest : List Oper} {o : Oper} {a : Act} {Q : Exit → Act → World → Prop}
    (hg : o.guard = none) (s x : Operand) (hop : o.op = Op.call { callee := Callee.builtin Builtin.append, args := #[s, x], argTypes := #[27, 27] })
    (v : Value) (l : List Int) (hs : a.eval s = v) (hr : IRow w v l) (b : Nat) (y : Int) (hx : a.eval x = .slice (some ⟨b, 0, none⟩) 1 1) (hb : w.cell? ⟨b, 0, none⟩ = some (.int .i64 y)) (hlen : l.length ≤ 17592186044414)
    (hK : ∀ v' w', IRow w' v' (l ++ [y]) → Touch (fun k => v.ownBlock = some k) w w' → Moved w v v' → wpList Try.prog ops Q rest (a.put o.dst v') w') :
    wpList Try.prog ops Q (o :: rest) a w := by
  obtain ⟨i, hi, hz, hsz, hby⟩ := int_info
  refine wpList_app w hg s x 27 hop 3 i (.int .i64 0) 8 Try.underlying27 hi hz hsz hby rfl v (ivals l) hs hr (some ⟨b, 0, none⟩) 1 1 [.int .i64 y] hx rfl ?_ ?_ (fun h => by cases h) (by rw [ivals_len]; unfold maxLen; omega) (by rw [ivals_len]; omega) ?_
  · intro j u hj
    match j, hj with
    | 0, hj => cases hj; exact ⟨b, 0, rfl, hb⟩
  · intro u hu
    simp at hu
    subst hu; rfl
  · intro v' w' h1 h2 h3
    refine hK v' w' ?_ h2 h3
    show Own w' _ v' (ivals (l ++ [y]))
    have e : ivals (l ++ [y]) = ivals l ++ [.int .i64 y] := by simp [ivals]
    rw [e]; exact h1

theorem slice_lh (a : Option Addr) (len cap k n : Nat) (hn : k + n ≤ cap) (w : World) : (Instr.slice 41 (.slice a len cap) (some (.int .i64 (k : Int))) (some (.int .i64 ((k : Int) + (n : Int)))) none).run Try.prog w = .ok (.slice (cut a k cap) n (cap - k)) w := by
  have hel : Try.prog.underlying 41 = some (.slice (Try.prog.elem 41)) := by kernel_rfl
  have hsz : ∀ w, (sizeOf (Try.prog.elem 41)).run Try.prog w = .ok 1 w := fun _ => by kernel_rfl
  rw [run_slice_lh w 41 a len cap hel .i64 .i64 (k : Int) ((k : Int) + (n : Int)) (by omega) (by omega) (by omega), hsz]
  have e1 : ((k : Int) + (n : Int)).toNat = k + n := by omega
  simp [Result.andThen, sliced, cut, e1]

/-- A count: above 4096 it is refused. -/
def rC (t : List Nat) (s : Rst) : Nat × Rst := if 4096 < (rU t s).1 then (0, ⟨(rU t s).2.pl, 2⟩) else rU t s
theorem rC_le (t : List Nat) (s : Rst) : (rC t s).1 ≤ 4096 := by
  unfold rC; split
  · exact Nat.zero_le _
  · omega
theorem rC_zero {t : List Nat} {s : Rst} (h : (rC t s).2.er ≠ 0) : (rC t s).1 = 0 := by
  unfold rC at h ⊢
  split
  · rfl
  · rename_i hn; rw [if_neg hn] at h; exact rU_zero h
theorem rC_err {t : List Nat} {s : Rst} (h : ¬ (rU t s).2.er = 0) : rC t s = rU t s := by unfold rC; rw [if_neg (by rw [rU_zero h]; omega)]
theorem rB_C (t : List Nat) (s : Rst) : rB t s = if (rC t s).2.er = 0 then (if (rC t s).2.pl + (rC t s).1 ≤ t.length then ((t.drop (rC t s).2.pl).take (rC t s).1, ⟨(rC t s).2.pl + (rC t s).1, 0⟩) else ([], ⟨(rC t s).2.pl, 6⟩)) else ([], (rC t s).2) := by
  unfold rB
  by_cases h : (rU t s).2.er = 0
  · rw [if_pos h]
    by_cases hn : 4096 < (rU t s).1
    · rw [if_pos hn]; unfold rC; rw [if_pos hn, if_neg (by simp)]
    · rw [if_neg hn]; unfold rC; rw [if_neg hn, if_pos h]
  · rw [if_neg h, rC_err h, if_neg h]
theorem rL_C (t : List Nat) (s : Rst) : rL t s = if (rC t s).2.er = 0 then rNs t (rC t s).1 (rC t s).2 [] else ([], (rC t s).2) := by
  unfold rL
  by_cases h : (rU t s).2.er = 0
  · rw [if_pos h]
    by_cases hn : 4096 < (rU t s).1
    · rw [if_pos hn]; unfold rC; rw [if_pos hn, if_neg (by simp)]
    · rw [if_neg hn]; unfold rC; rw [if_neg hn, if_pos h]
  · rw [if_neg h, rC_err h, if_neg h]

section
variable {a : Option Addr} {cap b : Nat} {t : List Nat} {s : Rst}

set_option maxRecDepth 100000 in
theorem rint_any (w : World) (h : RdAt 87 w b a cap t s) :
    Calls Try.prog 37 #[.pointer (some ⟨b, 0, none⟩)] w fun e w' => e = .returned (.int .i64 (rI t s).1) ∧ RdAt 87 w' b a cap t (rI t s).2 ∧ Touch (· = b) w w' := by
  have K := hide (ruint_any w h)
  have hf := rU_fits (t := t) (s := s) h.text.bytes
  clear h
  unfold rI
  generalize rU t s = q at *
  obtain ⟨n, q⟩ := q
  have hz := rz n hf
  go_enter Try.func37, Try.ntmps37
  go_wp2_with fail
  refine (unhide K).mono ?_
  rintro e w' ⟨rfl, h1⟩
  have H1 := hide h1
  clear h1 K
  go_wp2
  go_returns
  exact ⟨by rw [← hz]; rfl, unhide H1⟩

theorem er_store {w w' : World} {e : Nat} (he : e ≤ 7) (h : RdAt 87 w' b a cap t s) (tc : Touch (· = b) w w') :
    RdAt 87 (w'.setCell ⟨b, 2, none⟩ (.int .i64 (e : Nat))) b a cap t ⟨s.pl, e⟩ ∧ Touch (· = b) w (w'.setCell ⟨b, 2, none⟩ (.int .i64 (e : Nat))) := ⟨h.setEr he, tc.trans (touch_set _ _ _ _)⟩

set_option maxRecDepth 100000 in
theorem count_any (w : World) (h : RdAt 87 w b a cap t s) :
    Calls Try.prog 45 #[.pointer (some ⟨b, 0, none⟩)] w fun e w' => e = .returned (.int .i64 ((rC t s).1 : Nat)) ∧ RdAt 87 w' b a cap t (rC t s).2 ∧ Touch (· = b) w w' := by
  have K := hide (ruint_any w h)
  clear h
  unfold rC
  generalize rU t s = q at *
  obtain ⟨n, q⟩ := q
  by_cases hn : 4096 < n
  · rw [if_pos hn]
    have hn' : (4096 : Int) < (n : Int) := by omega
    go_enter Try.func45, Try.ntmps45
    go_wp2_with fail
    refine (unhide K).mono ?_
    rintro e w' ⟨rfl, h1, t1⟩
    have z2 := h1.fz 2
    have c2 := h1.c2
    have H1 := hide (er_store (e := 2) (by omega) h1 t1)
    clear h1 K t1
    go_wp2
    go_returns
    exact ⟨rfl, unhide H1⟩
  · rw [if_neg hn]
    have hn' : ¬ (4096 : Int) < (n : Int) := by omega
    go_enter Try.func45, Try.ntmps45
    go_wp2_with fail
    refine (unhide K).mono ?_
    rintro e w' ⟨rfl, h1⟩
    have H1 := hide h1
    clear h1 K
    go_wp2
    go_returns
    exact ⟨rfl, unhide H1⟩

end
end Go.Proofs.Ytfbnkeflgddcmaa
