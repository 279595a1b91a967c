/-
  penstockref03.Reader's Bytes and Ints. Conditions: the bytes are at most 2^47.
-/
import Derived.Test.YtfccddcoindnlaaRf2
import Derived.Deep.RegionLaw
namespace Go.Proofs.Ytfccddcoindnlaa
open Go.RowKit
set_option linter.unusedVariables false

/-- append(row, bytes...) as one step of a region that draws. -/
theorem step_row {ops : Array Oper} {o : Oper} {a : Act} {w : World} {K : Act → World → Prop} {Q : Exit → Act → World → Prop} {E : Prop}
    (hg : o.guard = none) (s x : Operand) (hop : o.op = Op.call { callee := Callee.builtin Builtin.append, args := #[s, x], argTypes := #[26, 26] })
    (v : Value) (l : List Nat) (hs : a.eval s = v) (hr : Row w v l) (ao : Option Addr) (c : Nat) (l2 : List Nat) (hx : a.eval x = .slice ao l2.length c) (hb : LAt w ao l2) (hnone : ao = none → c = 0) (hlen : l.length + l2.length ≤ 140737488355328)
    (hK : ∀ v' w', Row w' v' (l ++ l2) → Touch (fun k => v.ownBlock = some k) w w' → Moved w v v' → K (a.put o.dst v') w') :
    if Region.wanted o (yielded ops a.tmps) = true then Oper.wp Try.prog o a w K Q else E := by
  have hw : Region.wanted o (yielded ops a.tmps) = true := by simp [Region.wanted, hg]
  rw [if_pos hw]
  obtain ⟨i, hi, hz, hsz, hby⟩ := u8_info
  obtain ⟨v', w', hrun, r1, r2, r3⟩ := run_app (P := Try.prog) w 26 o.type 5 i (.int .u8 0) 1 Try.underlying26 hi hz hsz hby rfl v (vals l) hr.own ao l2.length c (vals l2) (vals_len l2) (src_vals hb) (one_vals l2) hnone (by rw [vals_len]; unfold maxLen; omega) (by rw [vals_len]; omega)
  unfold Oper.wp
  simp [execOp, hop, resolve, invoke, builtin, hs, hx, hrun, Result.andThen]
  exact hK v' w' ⟨by rw [← vals_app]; exact r1, fun y hy => by rcases List.mem_append.1 hy with h | h; exact hr.bytes y h; exact hb.bytes y h⟩ r2 r3

theorem take_one {t : List Nat} {p k : Nat} (h : p + k < t.length) : (t.drop p).take (k + 1) = (t.drop p).take k ++ [t.getD (p + k) 0] := by
  rw [List.take_add_one]
  simp [List.getD, h]

section
variable {a : Option Addr} {cap b : Nat} {t : List Nat} {s : Rst}

set_option maxRecDepth 100000 in
set_option maxHeartbeats 2000000 in
theorem fbytes_any (w : World) (h : RdAt 63 w b a cap t s) :
    Calls Try.prog 38 #[.pointer (some ⟨b, 0, none⟩)] w fun e w' => ∃ v, e = .returned v ∧ Row w' v (rB t s).1 ∧ New w v ∧ RdAt 63 w' b a cap t (rB t s).2 ∧ Touch (· = b) w w' := by
  have K := hide (fuint_any w h)
  have hsz := h.lt
  have HAL : Hid (∀ x, a = some x → 0 < t.length → x.block < w.heap.size) := fun x hx h0 => by
    obtain ⟨b', off', e1, e2, _⟩ := h.text.cell h0
    rw [hx] at e1; cases e1; exact e2
  clear h
  have hB : rB t s = if (rU t s).2.er = 0 then (if 4096 < (rU t s).1 then ([], ⟨(rU t s).2.pl, 2⟩) else if (rU t s).2.pl + (rU t s).1 ≤ t.length then ((t.drop (rU t s).2.pl).take (rU t s).1, ⟨(rU t s).2.pl + (rU t s).1, 0⟩) else ([], ⟨(rU t s).2.pl, 6⟩)) else ([], (rU t s).2) := rfl
  generalize rB t s = R at *
  generalize rU t s = q at *
  obtain ⟨n, q⟩ := q
  by_cases he : q.er = 0
  · rw [if_pos he] at hB
    by_cases hn : 4096 < n
    · rw [if_pos hn] at hB
      subst hB
      have hn' : (4096 : Int) < (n : Int) := by omega
      go_enter Try.func38, Try.ntmps38
      go_wp2_with fail
      refine (unhide K).mono ?_
      rintro e w1 ⟨rfl, h1, t1⟩
      have c2 := h1.c2
      rw [he] at c2
      have FF := hide (fail_any w1 2 (by omega) h1 he)
      have T1 := hide t1
      clear K h1 t1
      go_wp2_with fail
      refine (unhide FF).mono ?_
      rintro e w2 ⟨rfl, h2, t2⟩
      have G := hide (And.intro h2 ((unhide T1).trans t2))
      clear h2 t2 FF
      go_wp2
      go_returns
      exact ⟨_, rfl, Row.nil _, New.nil _, unhide G⟩
    · rw [if_neg hn] at hB
      have hn' : ¬ (4096 : Int) < (n : Int) := by omega
      by_cases hk : q.pl + n ≤ t.length
      · rw [if_pos hk] at hB
        subst hB
        go_enter Try.func38, Try.ntmps38
        go_wp2_with fail
        refine (unhide K).mono ?_
        rintro e w1 ⟨rfl, h1, t1⟩
        have c0 := h1.c0
        have c1 := h1.c1
        have c2 := h1.c2
        rw [he] at c2
        have hlen := h1.len
        have H1 := hide h1
        have T1 := hide t1
        clear K h1 t1
        have hk' : ¬ (t.length : Int) < (q.pl : Int) + (n : Int) := by omega
        go_wp2_with fail
        go_quiet (fail)
        go_wp2_with fail
        go_loopw [4, 5] (fun vb i wr => ∃ (k : Nat) (v' : Value), v' = vb ∧ k ≤ n ∧ i = .int .i64 k ∧ Row wr v' ((t.drop q.pl).take k) ∧ New w v' ∧ RdAt 63 wr b a cap t q ∧ Touch (· = b) w wr) (fun _ i _ => n - (intOf i).toNat)
        case atStart => exact ⟨0, _, rfl, Nat.zero_le _, rfl, by rw [List.take_zero]; exact Row.nil _, New.nil _, (unhide H1).drewN _, (unhide T1).trans (touch_drewN _ _)⟩
        case round =>
          obtain ⟨k, v2, rfl, hkn, rfl, r2, n2, h2, t2⟩ := hrel
          have d0 := h2.c0
          have d1 := h2.c1
          have z1 := h2.fz 1
          have d2 := h2.c2
          have R2 := hide r2
          have N2 := hide n2
          have H2 := hide h2
          have T2 := hide t2
          by_cases hc : k < n
          · obtain ⟨cb, off, rfl, hcb, hcell, hx⟩ := h2.text.cell (i := q.pl + k) (by omega)
            clear r2 n2 h2 t2 c0 c1 c2 H1 T1
            have hc' : (k : Int) < (n : Int) := by omega
            obtain ⟨p, hp⟩ : ∃ p : Nat, q.pl + k = p := ⟨_, rfl⟩
            have hpp : (q.pl : Int) + (k : Int) = (p : Int) := by omega
            have hpl2 : (p : Int) < (t.length : Int) := by omega
            have hwr : IntKind.i64.wrap (p : Int) = (p : Int) := by rw [IntKind.wrap_i64]; omega
            have ET : Hid ((t.drop q.pl).take (k + 1) = (t.drop q.pl).take k ++ [t.getD p 0]) := by rw [← hp]; exact take_one (by omega)
            rw [hp] at hcell hx
            have hlt : ((t.drop q.pl).take k).length + 1 ≤ 140737488355328 := by rw [List.length_take]; omega
            generalize t.getD p 0 = x at *
            generalize (t.drop q.pl).take k = pre at *
            obtain ⟨a2, m2, c2, rfl⟩ := (unhide R2).shape
            go_wp2_with fail
            go_region_law (first | (refine step_row rfl (.tmp 38) (.tmp 51) rfl (.slice a2 m2 c2) pre (by simp [Act.eval]) ((unhide R2).keep ((Touch.refl (fun _ => False) wr).drew.alloc _) (fun _ _ h => h)) (some ⟨wr.heap.size, 0, none⟩) 1 [x] (by simp [Act.eval]) (LAt.lit wr.drew [x] (by simpa using hx) #[.int .u8 (x : Int)] rfl) (fun h => by cases h) (by simpa using hlt) ?_; intro v4 w4 r4 t4 m4))
            all_goals
              have F : Hid (Row w4 v4 ((t.drop q.pl).take (k + 1)) ∧ New w v4 ∧ RdAt 63 w4 b (some ⟨cb, off, none⟩) cap t q ∧ Touch (· = b) w w4) := by
                have hbl : Below wr.heap.size wr (wr.alloc (.cells #[.int .u8 (x : Int)] 5)).drew := ((Below.refl _ wr).alloc (Nat.le_refl _) _).drew
                have hno : ∀ i, (Value.slice a2 m2 c2).ownBlock = some i → w.heap.size ≤ i := fun i hi => unhide N2 i hi
                refine ⟨by rw [unhide ET]; exact r4, New.moved (unhide N2) m4 (Nat.le_trans (unhide T2).size hbl.size), ((unhide H2).later hbl).keep t4 (fun e => by have := hno b e; omega) (fun h0 y hy e => by have := hno _ e; have := unhide HAL y hy h0; omega), ?_⟩
                have T3 := touch_below (unhide T2) hbl
                refine ⟨t4.os.trans T3.os, t4.tape.trans T3.tape, t4.output.trans T3.output, Nat.le_trans T3.size t4.size, fun i hi hs => ?_⟩
                rw [t4.block i (Nat.lt_of_lt_of_le hi T3.size) (fun e => by have := hno i e; omega)]
                exact T3.block i hi hs
              obtain ⟨a', n', c', rfl⟩ := r4.shape
              clear r4 t4 m4
              go_wp2
              go_roundw
              case rel => exact ⟨k + 1, _, rfl, by omega, by go_num, unhide F⟩
              case measure => simp [intOf]; omega
          · obtain rfl : k = n := by omega
            have G : Hid (RdAt 63 (wr.setCell ⟨b, 1, none⟩ (.int .i64 ((q.pl + k : Nat) : Int))) b a cap t ⟨q.pl + k, 0⟩ ∧ Touch (· = b) w (wr.setCell ⟨b, 1, none⟩ (.int .i64 ((q.pl + k : Nat) : Int)))) := by
              have h3 := h2.setPl hk
              rw [he] at h3
              exact ⟨h3, t2.trans (touch_set _ _ _ _)⟩
            have RR := hide (r2.keep (touch_set wr b 1 (.int .i64 ((q.pl + k : Nat) : Int))) (fun i hi e => by have := n2 i hi; omega))
            clear r2 n2 h2 t2 c0 c1 c2 H1 T1
            go_wp2
            go_returns
            exact ⟨_, rfl, unhide RR, unhide N2, unhide G⟩
      · rw [if_neg hk] at hB
        subst hB
        go_enter Try.func38, Try.ntmps38
        go_wp2_with fail
        refine (unhide K).mono ?_
        rintro e w1 ⟨rfl, h1, t1⟩
        have c0 := h1.c0
        have c1 := h1.c1
        have c2 := h1.c2
        rw [he] at c2
        have hlen := h1.len
        have FF := hide (fun n => fail_any (w1.drewN n) 6 (by omega) (h1.drewN n) he)
        have T1 := hide t1
        have hpl := h1.pl
        clear K h1 t1
        have hk' : (t.length : Int) < (q.pl : Int) + (n : Int) := by omega
        go_wp2_with fail
        go_quiet (fail)
        go_wp2_with fail
        refine (unhide FF _).mono ?_
        rintro e w2 ⟨rfl, h2, t2⟩
        have G := hide (And.intro h2 (((unhide T1).trans (touch_drewN _ _)).trans t2))
        clear h2 t2 FF
        go_wp2
        go_returns
        exact ⟨_, rfl, Row.nil _, New.nil _, unhide G⟩
  · rw [if_neg he] at hB
    subst hB
    go_enter Try.func38, Try.ntmps38
    go_wp2_with fail
    refine (unhide K).mono ?_
    rintro e w1 ⟨rfl, h1, t1⟩
    have c2 := h1.c2
    have G := hide (And.intro h1 t1)
    clear K h1 t1
    have he' : ¬ ((q.er : Nat) : Int) = 0 := by omega
    go_wp2
    go_returns
    exact ⟨_, rfl, Row.nil _, New.nil _, unhide G⟩

end
end Go.Proofs.Ytfccddcoindnlaa
