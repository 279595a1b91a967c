/-
  penstockref03's Same and penstockref07's Same at any two: true just where both are alike. Conditions: lengths are below 2^63.
-/
import Derived.Test.YtfccddcoindnlaaCp7
namespace Go.Proofs.Ytfccddcoindnlaa
open Go.RowKit
set_option linter.unusedVariables false

theorem list_eq_of {l m : List Nat} (hn : l.length = m.length) (h : ∀ j, j < l.length → l.getD j 0 = m.getD j 0) : l = m := by
  apply List.ext_getElem hn
  intro i h1 h2
  have := h i h1
  simpa [List.getD, h1, h2] using this
theorem vlist_eq_of {l m : List (List Nat)} (hn : l.length = m.length) (h : ∀ j, j < l.length → l.getD j [] = m.getD j []) : l = m := by
  apply List.ext_getElem hn
  intro i h1 h2
  have := h i h1
  simpa [List.getD, h1, h2] using this
def SameP (w : World) (p : Prop) (e : Ending) (w' : World) : Prop := ∃ (q : Bool) (n : Nat), e = .returned (.bool q) ∧ (q = true ↔ p) ∧ w' = w.drewN n
theorem SameP.mk {w : World} {p : Prop} {q : Bool} {n : Nat} (h : q = true ↔ p) : SameP w p (.returned (.bool q)) (w.drewN n) := ⟨q, n, rfl, h, rfl⟩
theorem iff_no {p : Prop} (h : ¬ p) : (false = true ↔ p) := ⟨(fun e => by cases e), fun e => absurd e h⟩
theorem iff_yes {p : Prop} (h : p) : (true = true ↔ p) := ⟨fun _ => h, fun _ => rfl⟩

set_option maxRecDepth 100000 in
set_option maxHeartbeats 2000000 in
theorem same_gen (w : World) (a c : Option Addr) (ca cc : Nat) (l m : List Nat) (ha : LAt w a l) (hc : LAt w c m) (hl : l.length ≤ 9223372036854775807) :
    Calls Try.prog 17 #[.slice a l.length ca, .slice c m.length cc] w fun e w' => SameP w (l = m) e w' := by
  have HA := hide ha
  have HC := hide hc
  clear ha hc
  by_cases hlen : l.length = m.length
  · have LE := hide (list_eq_of hlen)
    have HL := hide hlen
    have HC2 : Hid (BytesAt w c l.length (fun i => m.getD i 0)) := by rw [hlen]; exact unhide HC
    rw [← hlen]
    clear hlen HC
    go_enter Try.func17, Try.ntmps17
    go_wp2_with fail
    go_loopw [5] (fun i wr => ∃ k n : Nat, k ≤ l.length ∧ i = .int .i64 k ∧ wr = w.drewN n ∧ ∀ j, j < k → l.getD j 0 = m.getD j 0) (fun i _ => l.length - (intOf i).toNat)
    case atStart => exact ⟨0, 0, Nat.zero_le _, rfl, rfl, fun j hj => by omega⟩
    case round =>
      obtain ⟨k, n, hk, rfl, rfl, hall⟩ := hrel
      have ALL := hide hall
      clear hall
      by_cases h8 : k < l.length
      · obtain ⟨b1, o1, rfl, _, e1, _⟩ := (unhide HA).cell h8
        obtain ⟨b2, o2, rfl, _, e2, _⟩ := (unhide HC2) k h8
        simp only at e2
        have h8' : (k : Int) < (l.length : Int) := by omega
        by_cases hx : l.getD k 0 = m.getD k 0
        · have ALL2 : Hid (∀ j, j < k + 1 → l.getD j 0 = m.getD j 0) := fun j hj => by
            by_cases e : j = k
            · subst e; exact hx
            · exact unhide ALL j (by omega)
          rw [hx] at e1
          clear hx
          generalize m.getD k 0 = x at *
          go_wp2_with fail
          go_quiet (fail)
          go_wp2
          go_roundw
          case rel => exact ⟨k + 1, n + nq, by omega, by go_num, by simp, unhide ALL2⟩
          case measure => simp [intOf]; omega
        · have NE : Hid (¬ l = m) := fun e => hx (by rw [e])
          generalize l.getD k 0 = x at *
          generalize m.getD k 0 = y at *
          have hxy : ¬ (x : Int) = (y : Int) := by omega
          go_wp2_with fail
          go_quiet (fail)
          go_wp2
          go_returns
          refine ⟨_, n + nq, rfl, ?_, by simp⟩
          exact iff_no (unhide NE)
      · obtain rfl : k = l.length := by omega
        have EQ := hide (unhide LE (unhide ALL))
        go_wp2
        go_returns
        exact SameP.mk (iff_yes (unhide EQ))
  · have NE : Hid (¬ l = m) := fun e => hlen (by rw [e])
    have hlen' : ¬ (l.length : Int) = (m.length : Int) := by omega
    clear HA HC hlen
    generalize l.length = x at *
    generalize m.length = y at *
    go_enter Try.func17, Try.ntmps17
    go_wp2
    go_returns
    exact ⟨_, 0, rfl, iff_no (unhide NE), rfl⟩

set_option maxRecDepth 100000 in
set_option maxHeartbeats 8000000 in
theorem rsame_any (x y : Bt) (a c : Option Addr) (ca cc : Nat) (w : World) (hx : RAt w a x.vs) (hy : RAt w c y.vs) (hl : ∀ v ∈ x.vs, v.length ≤ 9223372036854775807) (hn63 : x.vs.length ≤ 9223372036854775807) :
    Calls Try.prog 18 #[bv x a ca, bv y c cc] w fun e w' => BoolPost w (x = y) e w' := by
  have HX := hide hx
  have HY := hide hy
  have HL := hide hl
  clear hx hy hl
  obtain ⟨base, epoch, pid, pep, seq, txn, ctl, com, xs⟩ := x
  obtain ⟨base', epoch', pid', pep', seq', txn', ctl', com', ys⟩ := y
  simp only at hn63 HX HY HL
  show Calls Try.prog 18 #[.agg #[.int .i64 base, .int .i64 epoch, .int .u64 (pid : Int), .int .i64 pep, .int .i64 seq, .bool txn, .bool ctl, .bool com, .slice a xs.length ca], .agg #[.int .i64 base', .int .i64 epoch', .int .u64 (pid' : Int), .int .i64 pep', .int .i64 seq', .bool txn', .bool ctl', .bool com', .slice c ys.length cc]] w _
  by_cases t_base : base = base'
  · subst t_base
    by_cases t_epoch : epoch = epoch'
    · subst t_epoch
      by_cases t_pid : pid = pid'
      · subst t_pid
        by_cases t_pep : pep = pep'
        · subst t_pep
          by_cases t_seq : seq = seq'
          · subst t_seq
            by_cases t_txn : txn = txn'
            · subst t_txn
              by_cases t_ctl : ctl = ctl'
              · subst t_ctl
                by_cases t_com : com = com'
                · subst t_com
                  by_cases hlen : xs.length = ys.length
                  · have LE := hide (vlist_eq_of hlen)
                    have HLN := hide hlen
                    have HY2 : Hid (∀ k, k < xs.length → ∃ b off x c', c = some ⟨b, off, none⟩ ∧ b < w.heap.size ∧ w.cell? ⟨b, off + k, none⟩ = some (.slice x (ys.getD k []).length c') ∧ LAt w x (ys.getD k [])) := fun k hk => by
                      obtain ⟨b, off, x, c', e1, e2, e3, e4, _⟩ := (unhide HY).cell (i := k) (by omega)
                      exact ⟨b, off, x, c', e1, e2, e3, e4⟩
                    rw [← hlen]
                    clear hlen
                    have B0 : Hid (Below w.heap.size w ((w.alloc (.cells #[.int .i64 base, .int .i64 epoch, .int .u64 (pid : Int), .int .i64 pep, .int .i64 seq, .bool txn, .bool ctl, .bool com, .slice a xs.length ca] 25)).alloc (.cells #[.int .i64 base, .int .i64 epoch, .int .u64 (pid : Int), .int .i64 pep, .int .i64 seq, .bool txn, .bool ctl, .bool com, .slice c xs.length cc] 25))) := ((Below.refl _ _).alloc (Nat.le_refl _) _).alloc (by simp) _
                    have K1 : Hid (((w.alloc (.cells #[.int .i64 base, .int .i64 epoch, .int .u64 (pid : Int), .int .i64 pep, .int .i64 seq, .bool txn, .bool ctl, .bool com, .slice a xs.length ca] 25)).alloc (.cells #[.int .i64 base, .int .i64 epoch, .int .u64 (pid : Int), .int .i64 pep, .int .i64 seq, .bool txn, .bool ctl, .bool com, .slice c xs.length cc] 25)).cell? ⟨w.heap.size, 8, none⟩ = some (.slice a xs.length ca)) := cell_of (heap_old _ (heap_new w _)) 8
                    have K2 : Hid (((w.alloc (.cells #[.int .i64 base, .int .i64 epoch, .int .u64 (pid : Int), .int .i64 pep, .int .i64 seq, .bool txn, .bool ctl, .bool com, .slice a xs.length ca] 25)).alloc (.cells #[.int .i64 base, .int .i64 epoch, .int .u64 (pid : Int), .int .i64 pep, .int .i64 seq, .bool txn, .bool ctl, .bool com, .slice c xs.length cc] 25)).cell? ⟨w.heap.size + 1, 8, none⟩ = some (.slice c xs.length cc)) := by
                      have := cell_of (heap_new (w.alloc (.cells #[.int .i64 base, .int .i64 epoch, .int .u64 (pid : Int), .int .i64 pep, .int .i64 seq, .bool txn, .bool ctl, .bool com, .slice a xs.length ca] 25)) (.cells #[.int .i64 base, .int .i64 epoch, .int .u64 (pid : Int), .int .i64 pep, .int .i64 seq, .bool txn, .bool ctl, .bool com, .slice c xs.length cc] 25)) 8
                      simp only [World.size_alloc] at this
                      exact this
                    go_enter Try.func18, Try.ntmps18
                    go_wp2_with fail
                    generalize (w.alloc (.cells #[.int .i64 base, .int .i64 epoch, .int .u64 (pid : Int), .int .i64 pep, .int .i64 seq, .bool txn, .bool ctl, .bool com, .slice a xs.length ca] 25)).alloc (.cells #[.int .i64 base, .int .i64 epoch, .int .u64 (pid : Int), .int .i64 pep, .int .i64 seq, .bool txn, .bool ctl, .bool com, .slice c xs.length cc] 25) = W at *
                    go_loopw [5] (fun i wr => ∃ (k n : Nat), k ≤ xs.length ∧ i = .int .i64 k ∧ wr = W.drewN n ∧ ∀ j, j < k → xs.getD j [] = ys.getD j []) (fun i _ => xs.length - (intOf i).toNat)
                    case atStart => exact ⟨0, 0, Nat.zero_le _, rfl, rfl, fun j hj => by omega⟩
                    case round =>
                      obtain ⟨k, n, hk, rfl, hw, hall⟩ := hrel
                      have HW := hide hw
                      have ALL := hide hall
                      have k1 : wr.cell? ⟨w.heap.size, 8, none⟩ = some (.slice a xs.length ca) := by rw [hw]; exact unhide K1
                      have k2 : wr.cell? ⟨w.heap.size + 1, 8, none⟩ = some (.slice c xs.length cc) := by rw [hw]; exact unhide K2
                      clear hall
                      by_cases hkl : k < xs.length
                      · have hkl' : (k : Int) < (xs.length : Int) := by omega
                        obtain ⟨b1, o1, x1, c1, rfl, _, h1', l1', _⟩ := ((unhide HX).later (unhide B0)).cell hkl
                        obtain ⟨b2, o2, x2, c2, rfl, hb2, h2', l2'⟩ := unhide HY2 k hkl
                        have h1 : wr.cell? ⟨b1, o1 + k, none⟩ = some (.slice x1 (xs.getD k []).length c1) := by rw [hw]; exact h1'
                        have h2 : wr.cell? ⟨b2, o2 + k, none⟩ = some (.slice x2 (ys.getD k []).length c2) := by rw [hw]; exact (show W.cell? ⟨b2, o2 + k, none⟩ = _ from ((unhide B0).cell (p := ⟨b2, o2 + k, none⟩) hb2).trans h2')
                        have l1 : LAt wr x1 (xs.getD k []) := by rw [hw]; exact l1'
                        have l2 : LAt wr x2 (ys.getD k []) := by rw [hw]; exact (show LAt W x2 (ys.getD k []) from LAt.later l2' (unhide B0))
                        have hvl := unhide HL _ (getD_mem_l hkl)
                        have SM : Hid (∀ n, Calls Try.prog 17 #[.slice x1 (xs.getD k []).length c1, .slice x2 (ys.getD k []).length c2] (wr.drewN n) fun e w' => SameP (wr.drewN n) (xs.getD k [] = ys.getD k []) e w') := fun n => same_gen (wr.drewN n) x1 x2 c1 c2 (xs.getD k []) (ys.getD k []) l1 l2 hvl
                        clear l1 l2 h1' h2' l1' l2' hw hvl hb2
                        by_cases he : xs.getD k [] = ys.getD k []
                        · have ALL2 : Hid (∀ j, j < k + 1 → xs.getD j [] = ys.getD j []) := fun j hj => by
                            by_cases e : j = k
                            · subst e; exact he
                            · exact unhide ALL j (by omega)
                          have SM2 : Hid (∀ n, Calls Try.prog 17 #[.slice x1 (xs.getD k []).length c1, .slice x2 (ys.getD k []).length c2] (wr.drewN n) fun e w' => e = .returned (.bool true) ∧ ∃ m, w' = (wr.drewN n).drewN m) := fun n => (unhide SM n).mono (fun e w' h => by
                            obtain ⟨q, m, h1, h2, h3⟩ := h
                            exact ⟨by rw [h1, h2.2 he], m, h3⟩)
                          clear SM he ALL
                          generalize (xs.getD k []).length = L at *
                          generalize (ys.getD k []).length = M at *
                          go_wp2_with fail
                          go_quiet (first | (go_at_call 17; exact Calls.quiet_of (unhide SM2 _)))
                          go_wp2
                          go_roundw
                          case rel => exact ⟨k + 1, n + nq, by omega, by go_num, by rw [unhide HW, World.drewN_drewN], unhide ALL2⟩
                          case measure => simp [intOf]; omega
                        · have NE : Hid (¬ (⟨base, epoch, pid, pep, seq, txn, ctl, com, xs⟩ : Bt) = ⟨base, epoch, pid, pep, seq, txn, ctl, com, ys⟩) := fun e => he (by have := congrArg Bt.vs e; simp only at this; rw [this])
                          have SM2 : Hid (∀ n, Calls Try.prog 17 #[.slice x1 (xs.getD k []).length c1, .slice x2 (ys.getD k []).length c2] (wr.drewN n) fun e w' => e = .returned (.bool false) ∧ ∃ m, w' = (wr.drewN n).drewN m) := fun n => (unhide SM n).mono (fun e w' h => by
                            obtain ⟨q, m, h1, h2, h3⟩ := h
                            exact ⟨by rw [h1, bool_off h2 he], m, h3⟩)
                          clear SM he ALL
                          generalize (xs.getD k []).length = L at *
                          generalize (ys.getD k []).length = M at *
                          go_wp2_with fail
                          go_quiet (first | (go_at_call 17; exact Calls.quiet_of (unhide SM2 _)))
                          go_wp2
                          go_returns
                          refine ⟨_, rfl, iff_no (unhide NE), ?_⟩
                          rw [unhide HW]
                          exact below_drewN3 (below_drewN3 (unhide B0) n) _
                      · obtain rfl : k = xs.length := by omega
                        have EQ : Hid ((⟨base, epoch, pid, pep, seq, txn, ctl, com, xs⟩ : Bt) = ⟨base, epoch, pid, pep, seq, txn, ctl, com, ys⟩) := by show _ = _; rw [unhide LE (unhide ALL)]
                        clear hw
                        go_wp2
                        go_returns
                        refine ⟨_, rfl, iff_yes (unhide EQ), ?_⟩
                        rw [unhide HW]
                        exact below_drewN3 (unhide B0) n
                  · have NE : Hid (¬ (⟨base, epoch, pid, pep, seq, txn, ctl, com, xs⟩ : Bt) = ⟨base, epoch, pid, pep, seq, txn, ctl, com, ys⟩) := fun e => hlen (by have := congrArg Bt.vs e; simp only at this; rw [this])
                    have q : ¬ (xs.length : Int) = (ys.length : Int) := by omega
                    clear HX HY HL hlen
                    generalize xs.length = n at *
                    generalize ys.length = n' at *
                    go_enter Try.func18, Try.ntmps18
                    go_wp2
                    go_returns
                    exact ⟨_, rfl, iff_no (unhide NE), ((Below.refl _ _).alloc (Nat.le_refl _) _).alloc (by simp) _⟩
                · have NE : Hid (¬ (⟨base, epoch, pid, pep, seq, txn, ctl, com, xs⟩ : Bt) = ⟨base, epoch, pid, pep, seq, txn, ctl, com', ys⟩) := fun e => t_com (congrArg Bt.com e)
                  have q : (com == com') = false := by simpa using t_com
                  have q2 : (com != com') = true := by simpa using t_com
                  clear t_com HX HY HL
                  go_enter Try.func18, Try.ntmps18
                  go_wp2
                  go_returns
                  exact ⟨_, rfl, iff_no (unhide NE), ((Below.refl _ _).alloc (Nat.le_refl _) _).alloc (by simp) _⟩
              · have NE : Hid (¬ (⟨base, epoch, pid, pep, seq, txn, ctl, com, xs⟩ : Bt) = ⟨base, epoch, pid, pep, seq, txn, ctl', com', ys⟩) := fun e => t_ctl (congrArg Bt.ctl e)
                have q : (ctl == ctl') = false := by simpa using t_ctl
                have q2 : (ctl != ctl') = true := by simpa using t_ctl
                clear t_ctl HX HY HL
                go_enter Try.func18, Try.ntmps18
                go_wp2
                go_returns
                exact ⟨_, rfl, iff_no (unhide NE), ((Below.refl _ _).alloc (Nat.le_refl _) _).alloc (by simp) _⟩
            · have NE : Hid (¬ (⟨base, epoch, pid, pep, seq, txn, ctl, com, xs⟩ : Bt) = ⟨base, epoch, pid, pep, seq, txn', ctl', com', ys⟩) := fun e => t_txn (congrArg Bt.txn e)
              have q : (txn == txn') = false := by simpa using t_txn
              have q2 : (txn != txn') = true := by simpa using t_txn
              clear t_txn HX HY HL
              go_enter Try.func18, Try.ntmps18
              go_wp2
              go_returns
              exact ⟨_, rfl, iff_no (unhide NE), ((Below.refl _ _).alloc (Nat.le_refl _) _).alloc (by simp) _⟩
          · have NE : Hid (¬ (⟨base, epoch, pid, pep, seq, txn, ctl, com, xs⟩ : Bt) = ⟨base, epoch, pid, pep, seq', txn', ctl', com', ys⟩) := fun e => t_seq (congrArg Bt.seq e)
            have q : ¬ seq = seq' := by omega
            clear t_seq HX HY HL
            go_enter Try.func18, Try.ntmps18
            go_wp2
            go_returns
            exact ⟨_, rfl, iff_no (unhide NE), ((Below.refl _ _).alloc (Nat.le_refl _) _).alloc (by simp) _⟩
        · have NE : Hid (¬ (⟨base, epoch, pid, pep, seq, txn, ctl, com, xs⟩ : Bt) = ⟨base, epoch, pid, pep', seq', txn', ctl', com', ys⟩) := fun e => t_pep (congrArg Bt.pep e)
          have q : ¬ pep = pep' := by omega
          clear t_pep HX HY HL
          go_enter Try.func18, Try.ntmps18
          go_wp2
          go_returns
          exact ⟨_, rfl, iff_no (unhide NE), ((Below.refl _ _).alloc (Nat.le_refl _) _).alloc (by simp) _⟩
      · have NE : Hid (¬ (⟨base, epoch, pid, pep, seq, txn, ctl, com, xs⟩ : Bt) = ⟨base, epoch, pid', pep', seq', txn', ctl', com', ys⟩) := fun e => t_pid (congrArg Bt.pid e)
        have q : ¬ (pid : Int) = (pid' : Int) := by omega
        clear t_pid HX HY HL
        go_enter Try.func18, Try.ntmps18
        go_wp2
        go_returns
        exact ⟨_, rfl, iff_no (unhide NE), ((Below.refl _ _).alloc (Nat.le_refl _) _).alloc (by simp) _⟩
    · have NE : Hid (¬ (⟨base, epoch, pid, pep, seq, txn, ctl, com, xs⟩ : Bt) = ⟨base, epoch', pid', pep', seq', txn', ctl', com', ys⟩) := fun e => t_epoch (congrArg Bt.epoch e)
      have q : ¬ epoch = epoch' := by omega
      clear t_epoch HX HY HL
      go_enter Try.func18, Try.ntmps18
      go_wp2
      go_returns
      exact ⟨_, rfl, iff_no (unhide NE), ((Below.refl _ _).alloc (Nat.le_refl _) _).alloc (by simp) _⟩
  · have NE : Hid (¬ (⟨base, epoch, pid, pep, seq, txn, ctl, com, xs⟩ : Bt) = ⟨base', epoch', pid', pep', seq', txn', ctl', com', ys⟩) := fun e => t_base (congrArg Bt.base e)
    have q : ¬ base = base' := by omega
    clear t_base HX HY HL
    go_enter Try.func18, Try.ntmps18
    go_wp2
    go_returns
    exact ⟨_, rfl, iff_no (unhide NE), ((Below.refl _ _).alloc (Nat.le_refl _) _).alloc (by simp) _⟩
end Go.Proofs.Ytfccddcoindnlaa
