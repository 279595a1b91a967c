/-
  penstockref03.Reader's Bytes and Ints. Conditions: the bytes are at most 2^47.
-/
import Derived.Test.YtbbcbmlkbdmdfaaRf2
import Derived.Deep.RegionLaw
namespace Go.Proofs.Ytbbcbmlkbdmdfaa
open Go.RowKit
set_option linter.unusedVariables false

/-- append(row, bytes...) as one step of a region that draws. -/
theorem step_row {ops : Array Oper} {o : Oper} {a : Act} {w : World} {K : Act → World → Prop} {Q : Exit → Act → World → Prop} {E : Prop}
    (hg : o.guard = none) (s x : Operand) (hop : o.op = Op.call { callee := Callee.builtin Builtin.append, args := #[s, x], argTypes := #[25, 25] })
    (v : Value) (l : List Nat) (hs : a.eval s = v) (hr : Row w v l) (ao : Option Addr) (c : Nat) (l2 : List Nat) (hx : a.eval x = .slice ao l2.length c) (hb : LAt w ao l2) (hnone : ao = none → c = 0) (hlen : l.length + l2.length ≤ 140737488355328)
    (hK : ∀ v' w', Row w' v' (l ++ l2) → Touch (fun k => v.ownBlock = some k) w w' → Moved w v v' → K (a.put o.dst v') w') :
    if Region.wanted o (yielded ops a.tmps) = true then Oper.wp Try.prog o a w K Q else E := by
  have hw : Region.wanted o (yielded ops a.tmps) = true := by simp [Region.wanted, hg]
  rw [if_pos hw]
  obtain ⟨i, hi, hz, hsz, hby⟩ := u8_info
  obtain ⟨v', w', hrun, r1, r2, r3⟩ := run_app (P := Try.prog) w 25 o.type 5 i (.int .u8 0) 1 Try.underlying25 hi hz hsz hby rfl v (vals l) hr.own ao l2.length c (vals l2) (vals_len l2) (src_vals hb) (one_vals l2) hnone (by rw [vals_len]; unfold maxLen; omega) (by rw [vals_len]; omega)
  unfold Oper.wp
  simp [execOp, hop, resolve, invoke, builtin, hs, hx, hrun, Result.andThen]
  exact hK v' w' ⟨by rw [← vals_app]; exact r1, fun y hy => by rcases List.mem_append.1 hy with h | h; exact hr.bytes y h; exact hb.bytes y h⟩ r2 r3

theorem take_one {t : List Nat} {p k : Nat} (h : p + k < t.length) : (t.drop p).take (k + 1) = (t.drop p).take k ++ [t.getD (p + k) 0] := by
  rw [List.take_add_one]
  simp [List.getD, h]

section
variable {a : Option Addr} {cap b : Nat} {t : List Nat} {s : Rst}

set_option maxRecDepth 100000 in
set_option maxHeartbeats 2000000 in
theorem fints_any (w : World) (h : RdAt 45 w b a cap t s) :
    Calls Try.prog 16 #[.pointer (some ⟨b, 0, none⟩)] w fun e w' => ∃ v, e = .returned v ∧ IRow w' v (rL t s).1 ∧ New w v ∧ RdAt 45 w' b a cap t (rL t s).2 ∧ Touch (· = b) w w' := by
  have K := hide (fuint_any w h)
  have hsz := h.lt
  have HAL : Hid (∀ x, a = some x → 0 < t.length → x.block < w.heap.size) := fun x hx h0 => by
    obtain ⟨b', off', e1, e2, _⟩ := h.text.cell h0
    rw [hx] at e1; cases e1; exact e2
  clear h
  have hB : rL t s = if (rU t s).2.er = 0 then (if 4096 < (rU t s).1 then ([], ⟨(rU t s).2.pl, 2⟩) else rNs t (rU t s).1 (rU t s).2 []) else ([], (rU t s).2) := rfl
  generalize rL t s = R at *
  generalize rU t s = q at *
  obtain ⟨n, q⟩ := q
  by_cases he : q.er = 0
  · rw [if_pos he] at hB
    by_cases hn : 4096 < n
    · rw [if_pos hn] at hB
      subst hB
      have hn' : (4096 : Int) < (n : Int) := by omega
      go_enter Try.func16, Try.ntmps16
      go_wp2_with fail
      refine (unhide K).mono ?_
      rintro e w1 ⟨rfl, h1, t1⟩
      have c2 := h1.c2
      rw [he] at c2
      have FF := hide (fail_any w1 2 (by omega) h1 he)
      have T1 := hide t1
      clear K h1 t1
      go_wp2_with fail
      refine (unhide FF).mono ?_
      rintro e w2 ⟨rfl, h2, t2⟩
      have d2 := h2.c2
      have G := hide (And.intro h2 ((unhide T1).trans t2))
      clear h2 t2 FF c2
      go_wp2
      go_returns
      exact ⟨_, rfl, IRow.nil _, New.nil _, unhide G⟩
    · rw [if_neg hn] at hB
      have hn' : ¬ (4096 : Int) < (n : Int) := by omega
      have ER := hide hB
      clear hB
      go_enter Try.func16, Try.ntmps16
      go_wp2_with fail
      refine (unhide K).mono ?_
      rintro e w1 ⟨rfl, h1, t1⟩
      have c2 := h1.c2
      rw [he] at c2
      have H1 := hide h1
      have T1 := hide t1
      clear K h1 t1
      go_wp2_with fail
      go_loopw [4, 5] (fun l i wr => ∃ (k : Nat) (acc : List Int) (p : Rst) (vl : Value), vl = l ∧ k ≤ n ∧ i = .int .i64 k ∧ acc.length ≤ k ∧ IRow wr vl acc ∧ New w vl ∧ RdAt 45 wr b a cap t p ∧ Touch (· = b) w wr ∧ ((p.er = 0 ∧ R = rNs t (n - k) p acc) ∨ (p.er ≠ 0 ∧ R = ([], p)))) (fun _ i _ => n - (intOf i).toNat)
      case atStart => exact ⟨0, [], q, _, rfl, Nat.zero_le _, rfl, Nat.zero_le _, IRow.nil _, New.nil _, unhide H1, unhide T1, .inl ⟨he, unhide ER⟩⟩
      case round =>
        obtain ⟨k, acc, p, vl, rfl, hk, rfl, hacc, hi, hnw, hr, ht, heq⟩ := hrel
        have d2 := hr.c2
        have HI := hide hi
        have HN := hide hnw
        have HR := hide hr
        have HT := hide ht
        clear hi hnw hr ht c2
        rcases heq with ⟨hp, heq⟩ | ⟨hp, heq⟩
        · rw [hp] at d2
          by_cases hc : k < n
          · have hc' : (k : Int) < (n : Int) := by omega
            obtain ⟨j, hj⟩ : ∃ j, n - k = j + 1 := ⟨n - k - 1, by omega⟩
            have hj2 : n - (k + 1) = j := by omega
            rw [hj, rNs] at heq
            go_wp2_with fail
            refine (fint_any _ (unhide HR)).mono ?_
            rintro e w2 ⟨rfl, h2, t2⟩
            have R2 := hide h2
            have T2 := hide ((unhide HT).trans t2)
            have I2 := hide ((unhide HI).keep t2 (fun i hi e => by have := (unhide HN) i hi; omega))
            clear h2 t2
            generalize rI t p = r at *
            obtain ⟨x, r⟩ := r
            have EQ : Hid ((r.er = 0 ∧ R = rNs t (n - (k + 1)) r (acc ++ [x])) ∨ (r.er ≠ 0 ∧ R = ([], r))) := by
              by_cases hr0 : r.er = 0
              · rw [if_pos hr0] at heq; rw [hj2]; exact .inl ⟨hr0, heq⟩
              · rw [if_neg hr0] at heq; exact .inr ⟨hr0, heq⟩
            clear heq
            have hcl : (w2.alloc (.cells #[.int .i64 x] 3)).cell? ⟨w2.heap.size, 0, none⟩ = some (.int .i64 x) := by rw [cell_of (heap_new _ _)]; rfl
            have hbl : Below w2.heap.size w2 (w2.alloc (.cells #[.int .i64 x] 3)) := (Below.refl _ _).alloc (Nat.le_refl _) _
            have I3 := hide ((unhide I2).later hbl)
            have R3 := hide ((unhide R2).later hbl)
            have T3 := hide (touch_below (unhide T2) hbl)
            have HS := hide hbl.size
            clear hbl
            go_wp2_with (at_builtin; refine wpList_int _ rfl (.tmp 37) (.tmp 40) rfl _ acc rfl (unhide I3) w2.heap.size x rfl hcl (by omega) ?_)
            intro v' w4 r4 t4 m4
            have hno : ∀ i, vl.ownBlock = some i → w.heap.size ≤ i := fun i hi => unhide HN i hi
            have F : Hid (IRow w4 v' (acc ++ [x]) ∧ New w v' ∧ RdAt 45 w4 b a cap t r ∧ Touch (· = b) w w4) := by
              refine ⟨r4, (unhide HN).moved m4 (Nat.le_trans (unhide T2).size (unhide HS)), (unhide R3).keep t4 (fun e => by have := hno b e; omega) (fun h0 y hy e => by have := hno _ e; have := unhide HAL y hy h0; omega), ?_⟩
              refine ⟨t4.os.trans (unhide T3).os, t4.tape.trans (unhide T3).tape, t4.output.trans (unhide T3).output, Nat.le_trans (unhide T3).size t4.size, fun i hi hs => ?_⟩
              rw [t4.block i (Nat.lt_of_lt_of_le hi (unhide T3).size) (fun e => by have := hno i e; omega)]
              exact (unhide T3).block i hi hs
            have HV : Hid (∃ a' n' c', v' = .slice a' n' c') := by obtain ⟨a', c', e, _⟩ := IRow.parts r4; exact ⟨a', _, c', e⟩
            clear r4 t4 m4 hno hcl
            obtain ⟨a', n', c', rfl⟩ := unhide HV
            go_wp2
            go_roundw
            case rel => exact ⟨k + 1, acc ++ [x], r, _, rfl, by omega, by go_num, by simp; omega, (unhide F).1, (unhide F).2.1, (unhide F).2.2.1, (unhide F).2.2.2, unhide EQ⟩
            case measure => simp [intOf]; omega
          · obtain rfl : k = n := by omega
            have EQ : Hid (R = (acc, p)) := by have := heq; rw [Nat.sub_self] at this; exact this
            clear heq
            have hc' : ¬ (k : Int) < (k : Int) := by omega
            go_wp2
            go_returns
            rw [unhide EQ]
            exact ⟨_, rfl, unhide HI, unhide HN, unhide HR, unhide HT⟩
        · have EQ := hide heq
          clear heq
          have hp' : ¬ ((p.er : Nat) : Int) = 0 := by omega
          by_cases hc : k < n
          · have hc' : (k : Int) < (n : Int) := by omega
            go_wp2
            go_returns
            rw [unhide EQ]
            exact ⟨_, rfl, IRow.nil _, New.nil _, unhide HR, unhide HT⟩
          · have hc' : ¬ (k : Int) < (n : Int) := by omega
            go_wp2
            go_returns
            rw [unhide EQ]
            exact ⟨_, rfl, IRow.nil _, New.nil _, unhide HR, unhide HT⟩
  · rw [if_neg he] at hB
    subst hB
    go_enter Try.func16, Try.ntmps16
    go_wp2_with fail
    refine (unhide K).mono ?_
    rintro e w1 ⟨rfl, h1, t1⟩
    have c2 := h1.c2
    have G := hide (And.intro h1 t1)
    clear K h1 t1
    have he' : ¬ ((q.er : Nat) : Int) = 0 := by omega
    go_wp2
    go_returns
    exact ⟨_, rfl, IRow.nil _, New.nil _, unhide G⟩
end
end Go.Proofs.Ytbbcbmlkbdmdfaa
