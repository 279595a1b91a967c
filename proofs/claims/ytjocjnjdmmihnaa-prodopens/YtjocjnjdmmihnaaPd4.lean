/-
  prod's Table.Check. Conditions: the table is one; numbers of producers below 2^64.
-/
import Derived.Test.YtjocjnjdmmihnaaPd2
namespace Go.Proofs.Ytjocjnjdmmihnaa
open Go.RowKit
set_option linter.unusedVariables false

theorem PdAt.later {w w' : World} {gp : Nat} {p : Pd} (h : PdAt w gp p) (hb : Below w.heap.size w w') : PdAt w' gp p := below_keep hb h
theorem Lst9.later {w w' : World} {p : Pd} {ls : List Sn} (h : Lst9 w p ls) (hb : Below w.heap.size w w') : Lst9 w' p ls := ⟨h.1.later hb, h.2⟩
abbrev tup3 (x : Int × Bool × Int) : Value := .tuple #[.int .i64 x.1, .bool x.2.1, .int .i64 x.2.2]
/-- What Check tells. -/
def chkE (b : Bt) (p : Pd) (ls : List Sn) : Int × Bool × Int :=
  if chk b ≠ 0 then (0, false, (chk b : Int)) else if b.pid = 0 then (0, false, 0) else if b.pep < p.ep then (0, false, 10) else if b.ctl = true then (0, false, 0)
  else if (findE ls b.seq (b.vs.length : Int)).2 = true then ((findE ls b.seq (b.vs.length : Int)).1, true, 0) else if b.seq = p.nx then (0, false, 0) else (0, false, 11)
set_option maxRecDepth 100000 in
set_option maxHeartbeats 4000000 in
theorem check9_any {w : World} {tb : Nat} {mv av : Value} (h : w.heap[tb]? = some (.cells #[mv, av] 49)) (b : Bt) (a : Option Addr) (cap : Nat) (hp : RAt w a b.vs) (q : Pd) (kn : Bool) (hm : ∃ mb, mv = .map mb)
    (hl : ∀ W, Below w.heap.size w W → (Instr.lookup 46 mv (.int .u64 (b.pid : Int)) true).run Try.prog W = .ok (.tuple #[pdV q, .bool kn]) W) (ls : List Sn) (hls : Lst9 w (atP q kn b.pep) ls) :
    Calls Try.prog 8 #[.pointer (some ⟨tb, 0, none⟩), bv b a cap] w fun e w' => AnsPost w (tup3 (chkE b (atP q kn b.pep) ls)) e w' := by
  have HT := hide h
  have htb := lt_of_heap h
  have HL := hide hl
  have HLS := hide hls
  have HP := hide hp
  have hA : Below w.heap.size w (w.alloc (.cells #[.int .i64 b.base, .int .i64 b.epoch, .int .u64 (b.pid : Int), .int .i64 b.pep, .int .i64 b.seq, .bool b.txn, .bool b.ctl, .bool b.com, .slice a b.vs.length cap] 30)) := (Below.refl _ _).alloc (Nat.le_refl _) _
  have HA := hide hA
  have KC : Hid (∀ w', Below w.heap.size w w' → Calls Try.prog 13 #[bv b a cap] w' fun e w'' => IntPost w' (chk b) e w'') := fun w' hb => check_any b a cap w' ((unhide HP).later hb)
  have KK : Hid (∀ w', Calls Try.prog 16 #[bv b a cap] w' fun e w'' => AnsPost w' (.agg #[.int .i64 b.seq, .int .i64 (b.vs.length : Int)]) e w'') := fun w' => keyOf_any b a cap w'
  have KAT : Hid (∀ w', Below w.heap.size w w' → Calls Try.prog 14 #[.pointer (some ⟨tb, 0, none⟩), .int .u64 (b.pid : Int), .int .i64 b.pep] w' fun e w'' => AnsPost w' (pdV (atP q kn b.pep)) e w'') := fun w' hb =>
    at9_any (below_keep hb (unhide HT)) b.pid b.pep q kn (fun v hv => by rw [← hv]; exact hm) (fun W hW => unhide HL W (hb.trans (hW.mono hb.size)))
  have EE : Hid (chkE b (atP q kn b.pep) ls = if chk b ≠ 0 then (0, false, (chk b : Int)) else if b.pid = 0 then (0, false, 0) else if b.pep < (atP q kn b.pep).ep then (0, false, 10) else if b.ctl = true then (0, false, 0) else if (findE ls b.seq (b.vs.length : Int)).2 = true then ((findE ls b.seq (b.vs.length : Int)).1, true, 0) else if b.seq = (atP q kn b.pep).nx then (0, false, 0) else (0, false, 11)) := rfl
  clear h hl hls hp hA
  generalize chkE b (atP q kn b.pep) ls = RES at *
  generalize atP q kn b.pep = p at *
  have KF : Hid (∀ W gp, Below w.heap.size w W → PdAt W gp p → Calls Try.prog 15 #[.pointer (some ⟨gp, 0, none⟩), .agg #[.int .i64 b.seq, .int .i64 (b.vs.length : Int)]] W fun e w' => AnsPost W (tup2 (findE ls b.seq (b.vs.length : Int))) e w') := fun W gp hb hp => find_any hp ((unhide HLS).later hb) b.seq (b.vs.length : Int)
  generalize hFE : findE ls b.seq (b.vs.length : Int) = FE at *
  have hc0 : chk b ≤ 7 := chk_le b
  generalize chk b = C at *
  clear hFE HL HLS HP
  obtain ⟨FE1, FE2⟩ := FE
  have BXN := Box.new w b a cap
  obtain ⟨base, epoch, pid, pep, seq, txn, ctl, com, vs⟩ := b
  simp only at EE
  have BX : Hid ((w.alloc (.cells #[.int .i64 base, .int .i64 epoch, .int .u64 (pid : Int), .int .i64 pep, .int .i64 seq, .bool txn, .bool ctl, .bool com, .slice a vs.length cap] 30)).heap[w.heap.size]? = some (.cells #[.int .i64 base, .int .i64 epoch, .int .u64 (pid : Int), .int .i64 pep, .int .i64 seq, .bool txn, .bool ctl, .bool com, .slice a vs.length cap] 30)) := BXN
  have HA2 : Hid (Below w.heap.size w (w.alloc (.cells #[.int .i64 base, .int .i64 epoch, .int .u64 (pid : Int), .int .i64 pep, .int .i64 seq, .bool txn, .bool ctl, .bool com, .slice a vs.length cap] 30))) := unhide HA
  have KC2 : Hid (∀ w', Below w.heap.size w w' → Calls Try.prog 13 #[.agg #[.int .i64 base, .int .i64 epoch, .int .u64 (pid : Int), .int .i64 pep, .int .i64 seq, .bool txn, .bool ctl, .bool com, .slice a vs.length cap]] w' fun e w'' => IntPost w' C e w'') := unhide KC
  have KK2 : Hid (∀ w', Calls Try.prog 16 #[.agg #[.int .i64 base, .int .i64 epoch, .int .u64 (pid : Int), .int .i64 pep, .int .i64 seq, .bool txn, .bool ctl, .bool com, .slice a vs.length cap]] w' fun e w'' => AnsPost w' (.agg #[.int .i64 seq, .int .i64 (vs.length : Int)]) e w'') := unhide KK
  have KAT2 : Hid (∀ w', Below w.heap.size w w' → Calls Try.prog 14 #[.pointer (some ⟨tb, 0, none⟩), .int .u64 (pid : Int), .int .i64 pep] w' fun e w'' => AnsPost w' (pdV p) e w'') := unhide KAT
  have KF2 : Hid (∀ W gp, Below w.heap.size w W → PdAt W gp p → Calls Try.prog 15 #[.pointer (some ⟨gp, 0, none⟩), .agg #[.int .i64 seq, .int .i64 (vs.length : Int)]] W fun e w' => AnsPost W (tup2 (FE1, FE2)) e w') := unhide KF
  clear KC KK KAT KF BXN HA
  show Calls Try.prog _ #[.pointer (some ⟨tb, 0, none⟩), .agg #[.int .i64 base, .int .i64 epoch, .int .u64 (pid : Int), .int .i64 pep, .int .i64 seq, .bool txn, .bool ctl, .bool com, .slice a vs.length cap]] w _
  generalize vs.length = nv at *
  obtain ⟨k0, k1, k2, k3, k4, k5, k6, k7, k8⟩ := (show Box _ w.heap.size ⟨base, epoch, pid, pep, seq, txn, ctl, com, List.replicate nv []⟩ a cap by show _ = _; simp only [List.length_replicate]; exact unhide BX).cells
  simp only [List.length_replicate] at k0 k1 k2 k3 k4 k5 k6 k7 k8
  go_enter Try.func8, Try.ntmps8
  go_wp2_with fail
  generalize w.alloc (.cells #[.int .i64 base, .int .i64 epoch, .int .u64 (pid : Int), .int .i64 pep, .int .i64 seq, .bool txn, .bool ctl, .bool com, .slice a nv cap] 30) = W at *
  refine (unhide KC2 W (unhide HA2)).mono ?_
  rintro e w1 ⟨rfl, b1⟩
  have B1 := hide ((unhide HA2).trans (b1.mono (unhide HA2).size))
  have X1 := hide (below_keep b1 (unhide BX))
  clear b1 HA2 BX KC2 k0 k1 k2 k3 k4 k5 k6 k7 k8
  by_cases hC : C = 0
  · subst hC
    have x2 : w1.cell? ⟨w.heap.size, 2, none⟩ = some (.int .u64 (pid : Int)) := cell_of (unhide X1) 2
    have x3 : w1.cell? ⟨w.heap.size, 3, none⟩ = some (.int .i64 pep) := cell_of (unhide X1) 3
    by_cases hpid : pid = 0
    · have F : Hid (AnsPost w (tup3 RES) (.returned (tup3 (0, false, 0))) w1) := ⟨by rw [unhide EE]; simp [hpid], unhide B1⟩
      subst hpid
      clear EE B1 X1
      go_wp2
      go_returns
      exact unhide F
    · have hpid' : ¬ (pid : Int) = 0 := by omega
      go_wp2_with fail
      refine (unhide KAT2 w1 (unhide B1)).mono ?_
      rintro e w2 ⟨rfl, b2⟩
      obtain ⟨pe, px, pg, pn, pc, po, pf⟩ := p
      simp only at EE
      have AB : Below w2.heap.size w2 (w2.alloc (.cells #[.int .i64 pe, .int .i64 px, .slice (pg.map (fun g => ⟨g, 0, none⟩)) pn pc, .bool po, .int .i64 pf] 44)) := (Below.refl _ _).alloc (Nat.le_refl _) _
      have b12 : Below w1.heap.size w1 (w2.alloc (.cells #[.int .i64 pe, .int .i64 px, .slice (pg.map (fun g => ⟨g, 0, none⟩)) pn pc, .bool po, .int .i64 pf] 44)) := b2.trans (AB.mono b2.size)
      have B2 := hide ((unhide B1).trans (b12.mono (unhide B1).size))
      have X2 := hide (below_keep b12 (unhide X1))
      have P2 : Hid (PdAt (w2.alloc (.cells #[.int .i64 pe, .int .i64 px, .slice (pg.map (fun g => ⟨g, 0, none⟩)) pn pc, .bool po, .int .i64 pf] 44)) w2.heap.size ⟨pe, px, pg, pn, pc, po, pf⟩) := heap_new _ _
      have KF3 : Hid (∀ W, Below w.heap.size w W → PdAt W w2.heap.size ⟨pe, px, pg, pn, pc, po, pf⟩ → Calls Try.prog 15 #[.pointer (some ⟨w2.heap.size, 0, none⟩), .agg #[.int .i64 seq, .int .i64 (nv : Int)]] W fun e w' => AnsPost W (tup2 (FE1, FE2)) e w') := fun W hb hp => unhide KF2 W w2.heap.size hb hp
      clear b2 AB b12 B1 X1 KAT2 KF2 x2 x3
      unfold PdAt at P2 KF3
      dsimp only [pdS] at P2 KF3
      generalize hav : pg.map (fun g => (⟨g, 0, none⟩ : Addr)) = av at *
      have x3 : (w2.alloc (.cells #[.int .i64 pe, .int .i64 px, .slice av pn pc, .bool po, .int .i64 pf] 44)).cell? ⟨w.heap.size, 3, none⟩ = some (.int .i64 pep) := cell_of (unhide X2) 3
      have x6 : (w2.alloc (.cells #[.int .i64 pe, .int .i64 px, .slice av pn pc, .bool po, .int .i64 pf] 44)).cell? ⟨w.heap.size, 6, none⟩ = some (.bool ctl) := cell_of (unhide X2) 6
      by_cases hf : pep < pe
      · have F : Hid (AnsPost w (tup3 RES) (.returned (tup3 (0, false, 10))) (w2.alloc (.cells #[.int .i64 pe, .int .i64 px, .slice av pn pc, .bool po, .int .i64 pf] 44))) := ⟨by rw [unhide EE]; simp [hpid, hf], unhide B2⟩
        clear EE B2 X2 P2 KF3 KK2
        go_wp2
        go_returns
        exact unhide F
      · cases ctl with
        | true =>
          have F : Hid (AnsPost w (tup3 RES) (.returned (tup3 (0, false, 0))) (w2.alloc (.cells #[.int .i64 pe, .int .i64 px, .slice av pn pc, .bool po, .int .i64 pf] 44))) := ⟨by rw [unhide EE]; simp [hpid, hf], unhide B2⟩
          clear EE B2 X2 P2 KF3 KK2
          go_wp2
          go_returns
          exact unhide F
        | false =>
          have EE2 : Hid (RES = if FE2 = true then (FE1, true, 0) else if seq = px then (0, false, 0) else (0, false, 11)) := by
            show RES = _
            rw [unhide EE]; simp [hpid, hf]
          clear EE
          have x0 : (w2.alloc (.cells #[.int .i64 pe, .int .i64 px, .slice av pn pc, .bool po, .int .i64 pf] 44)).cell? ⟨w.heap.size, 0, none⟩ = some (.int .i64 base) := cell_of (unhide X2) 0
          have x1 : (w2.alloc (.cells #[.int .i64 pe, .int .i64 px, .slice av pn pc, .bool po, .int .i64 pf] 44)).cell? ⟨w.heap.size, 1, none⟩ = some (.int .i64 epoch) := cell_of (unhide X2) 1
          have x2 : (w2.alloc (.cells #[.int .i64 pe, .int .i64 px, .slice av pn pc, .bool po, .int .i64 pf] 44)).cell? ⟨w.heap.size, 2, none⟩ = some (.int .u64 (pid : Int)) := cell_of (unhide X2) 2
          have x4 : (w2.alloc (.cells #[.int .i64 pe, .int .i64 px, .slice av pn pc, .bool po, .int .i64 pf] 44)).cell? ⟨w.heap.size, 4, none⟩ = some (.int .i64 seq) := cell_of (unhide X2) 4
          have x5 : (w2.alloc (.cells #[.int .i64 pe, .int .i64 px, .slice av pn pc, .bool po, .int .i64 pf] 44)).cell? ⟨w.heap.size, 5, none⟩ = some (.bool txn) := cell_of (unhide X2) 5
          have x7 : (w2.alloc (.cells #[.int .i64 pe, .int .i64 px, .slice av pn pc, .bool po, .int .i64 pf] 44)).cell? ⟨w.heap.size, 7, none⟩ = some (.bool com) := cell_of (unhide X2) 7
          have x8 : (w2.alloc (.cells #[.int .i64 pe, .int .i64 px, .slice av pn pc, .bool po, .int .i64 pf] 44)).cell? ⟨w.heap.size, 8, none⟩ = some (.slice a nv cap) := cell_of (unhide X2) 8
          go_wp2_with fail
          generalize w2.alloc (.cells #[.int .i64 pe, .int .i64 px, .slice av pn pc, .bool po, .int .i64 pf] 44) = V0 at *
          refine (unhide KK2 V0).mono ?_
          rintro e w3 ⟨rfl, b3⟩
          have B3 := hide ((unhide B2).trans (b3.mono (unhide B2).size))
          have X3 := hide (below_keep b3 (unhide X2))
          have P3 := hide (below_keep b3 (unhide P2))
          clear b3 B2 X2 P2 KK2 x0 x1 x2 x3 x4 x5 x6 x7 x8
          go_wp2_with fail
          refine (unhide KF3 w3 (unhide B3) (unhide P3)).mono ?_
          rintro e w4 ⟨rfl, b4⟩
          have B4 := hide ((unhide B3).trans (b4.mono (unhide B3).size))
          have y4 : w4.cell? ⟨w.heap.size, 4, none⟩ = some (.int .i64 seq) := cell_of (below_keep b4 (unhide X3)) 4
          have yn : w4.cell? ⟨w2.heap.size, 1, none⟩ = some (.int .i64 px) := cell_of (below_keep b4 (unhide P3)) 1
          clear b4 B3 X3 P3 KF3
          cases FE2 with
          | true =>
            have F : Hid (AnsPost w (tup3 RES) (.returned (tup3 (FE1, true, 0))) w4) := ⟨by rw [unhide EE2]; simp, unhide B4⟩
            clear EE2 B4
            go_wp2
            go_returns
            exact unhide F
          | false =>
            by_cases hs : seq = px
            · have F : Hid (AnsPost w (tup3 RES) (.returned (tup3 (0, false, 0))) w4) := ⟨by rw [unhide EE2]; simp [hs], unhide B4⟩
              subst hs
              clear EE2 B4
              go_wp2
              go_returns
              exact unhide F
            · have F : Hid (AnsPost w (tup3 RES) (.returned (tup3 (0, false, 11))) w4) := ⟨by rw [unhide EE2]; simp [hs], unhide B4⟩
              clear EE2 B4
              go_wp2
              go_returns
              exact unhide F
  · have hC' : ¬ (C : Int) = 0 := by omega
    have F : Hid (AnsPost w (tup3 RES) (.returned (tup3 (0, false, (C : Int)))) w1) := ⟨by rw [unhide EE]; simp [hC], unhide B1⟩
    clear EE B1 X1 KAT2 KF2 KK2
    go_wp2
    go_returns
    exact unhide F
end Go.Proofs.Ytjocjnjdmmihnaa
