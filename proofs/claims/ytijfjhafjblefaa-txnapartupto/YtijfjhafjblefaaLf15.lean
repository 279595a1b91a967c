/-
  A name's life by what is answered, in plain words; life. Conditions: none but the state's own.
-/
import Derived.Test.YtijfjhafjblefaaTx8
import Derived.Test.YtijfjhafjblefaaTx5
import Derived.Test.YtijfjhafjblefaaPay15
namespace Go.Proofs.Ytijfjhafjblefaa
open Go.RowKit Go.Maps
set_option linter.unusedVariables false

theorem end_tw {w : World} {N : Nat → Prop} {sb c : Nat} {K : Int → Option Tx} (n pid epoch : Int) (commit : Bool) (h : TW w N sb K c) : Calls Try.prog 23 #[.pointer (some ⟨sb, 0, none⟩), .int .i64 n, .int .u64 pid, .int .i64 epoch, .bool commit] w fun e w' => DnP w (endD (getT K n) n pid epoch commit) e w' := by
  obtain ⟨mv, m, R, h1, h2, h3⟩ := h
  exact end_any n pid epoch commit h1
def m2 (i : Int) : Int := (wrap64 (i.tmod 2 + 2)).tmod 2
def m6 (i : Int) : Int := (wrap64 (i.tmod 6 + 6)).tmod 6
theorem m2_in (i : Int) : 0 ≤ m2 i ∧ m2 i ≤ 1 := by
  unfold m2
  have h1 := Int.tmod_lt_of_pos i (show (0 : Int) < 2 by decide)
  have h2 := Int.lt_tmod_of_pos i (show (0 : Int) < 2 by decide)
  rw [wrap64_low (by omega) (by omega), Int.tmod_eq_emod_of_nonneg (by omega)]
  omega
theorem m6_in (i : Int) : 0 ≤ m6 i ∧ m6 i < 6 := by
  unfold m6
  have h1 := Int.tmod_lt_of_pos i (show (0 : Int) < 6 by decide)
  have h2 := Int.lt_tmod_of_pos i (show (0 : Int) < 6 by decide)
  rw [wrap64_low (by omega) (by omega), Int.tmod_eq_emod_of_nonneg (by omega)]
  omega
/-- What is asked of the name 0, and answered. -/
def lifeD (x : Tx) (o : Oq) (next : Int) : Dn :=
  if o.kd = 0 then initD x 0 (wrap64 (x.inc + m2 o.inc)) next else if o.kd = 1 then addD x 0 x.pid x.ep (m6 o.pt) else if o.kd = 2 then endD x 0 x.pid x.ep o.co else ⟨⟨4, 0, 0, 0, 0, [], false⟩, decide (x.st = 3), 0⟩
def lifeX (x : Tx) (d : Dn) : Tx := if d.ok = true then apT d.r x else x
def lifeK (K : Int → Option Tx) (d : Dn) : Int → Option Tx := if d.ok = true then putT K 0 (apT d.r (getT K 0)) else K
theorem begin_tx (inc pid : Int) : (beginD 0 inc pid).r.tx = 0 ∧ (beginD 0 inc pid).r.ps.length ≤ 1 := by
  unfold beginD
  split <;> exact ⟨rfl, Nat.le_of_ble_eq_true rfl⟩
theorem life_tx (x : Tx) (o : Oq) (next : Int) : (lifeD x o next).r.tx = 0 ∧ (lifeD x o next).r.ps.length ≤ 1 := by
  unfold lifeD
  split
  · unfold initD
    split
    · exact ⟨rfl, Nat.le_of_ble_eq_true rfl⟩
    split
    · exact begin_tx _ _
    split
    · exact ⟨rfl, Nat.le_of_ble_eq_true rfl⟩
    split
    · exact ⟨rfl, Nat.le_of_ble_eq_true rfl⟩
    split
    · exact ⟨rfl, Nat.le_of_ble_eq_true rfl⟩
    split
    · exact ⟨rfl, Nat.le_of_ble_eq_true rfl⟩
    split
    · exact begin_tx _ _
    · exact ⟨rfl, Nat.le_of_ble_eq_true rfl⟩
  split
  · unfold addD
    repeat' split
    all_goals exact ⟨rfl, Nat.le_of_ble_eq_true rfl⟩
  split
  · unfold endD
    repeat' split
    all_goals exact ⟨rfl, Nat.le_of_ble_eq_true rfl⟩
  · exact ⟨rfl, Nat.le_of_ble_eq_true rfl⟩
theorem lifeK_get (K : Int → Option Tx) (d : Dn) : getT (lifeK K d) 0 = lifeX (getT K 0) d := by
  unfold lifeK lifeX
  split
  · unfold getT putT; simp
  · rfl
def LfP (w : World) (N : Nat → Prop) (sb c : Nat) (K : Int → Option Tx) (d : Dn) (e : Ending) (w' : World) : Prop := e = .returned (.bool d.ok) ∧ TW w' N sb (lifeK K d) (c + 1) ∧ Touch (fun k => ¬ N k) w w'
/-- At the switch's end. -/
def LfC (w W : World) (N : Nat → Prop) (sb c rb : Nat) (K : Int → Option Tx) (d : Dn) (s9 : Value) : Prop :=
  s9 = .bool d.ok ∧ ∃ sa c2, W.heap[rb]? = some (.cells (reC d.r sa c2) 25) ∧ IL W (.slice sa d.r.ps.length c2) d.r.ps ∧ TW W (fun k => N k ∨ w.heap.size ≤ k) sb K c ∧ Below w.heap.size w W
theorem Below.touchN {w w' : World} {N : Nat → Prop} (h : Below w.heap.size w w') : Touch N w w' := Touch.of_below h
theorem bool_eq3 (st : Int) : Value.bool (st == 3) = .bool (decide (st = 3)) := by
  by_cases h : st = 3
  · subst h; rfl
  · simp [h]
theorem lfc_done {w V : World} {N : Nat → Prop} {sb c rb : Nat} {K : Int → Option Tx} {D : Dn} {st : Int} (hb : V.heap[rb]? = some (.cells #[.int .i64 0, .int .i64 0, .int .i64 0, .int .u64 0, .int .i64 0, .slice none 0 0, .bool false] 25)) (tv : TW V (fun k => N k ∨ w.heap.size ≤ k) sb K c) (bv : Below w.heap.size w V) (hd : D = ⟨⟨4, 0, 0, 0, 0, [], false⟩, decide (st = 3), 0⟩) (hr : w.heap.size < rb) : LfC w (((((((V.setCell ⟨rb, 0, none⟩ (.int .i64 4)).setCell ⟨rb, 1, none⟩ (.int .i64 0)).setCell ⟨rb, 2, none⟩ (.int .i64 0)).setCell ⟨rb, 3, none⟩ (.int .u64 0)).setCell ⟨rb, 4, none⟩ (.int .i64 0)).setCell ⟨rb, 5, none⟩ (.slice none 0 0)).setCell ⟨rb, 6, none⟩ (.bool false)).drew N sb c rb K D (.bool (st == 3)) := by
  obtain ⟨s1, s2⟩ := set7 hb rfl (.int .i64 4) (.int .i64 0) (.int .i64 0) (.int .u64 0) (.int .i64 0) (.slice none 0 0) (.bool false)
  generalize (((((((V.setCell ⟨rb, 0, none⟩ (.int .i64 4)).setCell ⟨rb, 1, none⟩ (.int .i64 0)).setCell ⟨rb, 2, none⟩ (.int .i64 0)).setCell ⟨rb, 3, none⟩ (.int .u64 0)).setCell ⟨rb, 4, none⟩ (.int .i64 0)).setCell ⟨rb, 5, none⟩ (.slice none 0 0)).setCell ⟨rb, 6, none⟩ (.bool false)) = T at *
  subst hd
  exact ⟨bool_eq3 st, none, 0, s1, IL.nil _, tv.keep s2.drew (fun k _ hk => .inr (by omega)), below_touch bv s2.drew bv.size (fun k hk => by omega)⟩
set_option maxRecDepth 100000 in
set_option maxHeartbeats 4000000 in
theorem life_any {w : World} {N : Nat → Prop} {sb c : Nat} {K : Int → Option Tx} (h : TW w N sb K c) (hN : ∀ k, N k → k < w.heap.size) (o : Oq) (next : Int) (hl : (getT K 0).ps.length + 1 ≤ 17592186044416) (hm : c < 4611686018427387904) :
    Calls Try.prog 30 #[.pointer (some ⟨sb, 0, none⟩), .agg (oqL o).toArray, .int .u64 next] w fun e w' => LfP w N sb c K (lifeD (getT K 0) o next) e w' := by
  have hd0 := hide (life_tx (getT K 0) o next)
  obtain ⟨kd, n, inc, ep, pt, pid, co, dd, g⟩ := o
  simp only [oqL]
  have b0 : Below w.heap.size w (w.alloc (.cells #[.int .i64 kd, .int .i64 n, .int .i64 inc, .int .i64 ep, .int .i64 pt, .int .u64 pid, .bool co, .bool dd, .int .i64 g.r.kd, .int .i64 g.r.tx, .int .i64 g.r.inc, .int .u64 g.r.pid, .int .i64 g.r.ep, .slice g.a g.r.ps.length g.k, .bool g.r.co] 46)) := (Below.refl _ _).alloc (Nat.le_refl _) _
  have h0 := heap_new w (.cells #[.int .i64 kd, .int .i64 n, .int .i64 inc, .int .i64 ep, .int .i64 pt, .int .u64 pid, .bool co, .bool dd, .int .i64 g.r.kd, .int .i64 g.r.tx, .int .i64 g.r.inc, .int .u64 g.r.pid, .int .i64 g.r.ep, .slice g.a g.r.ps.length g.k, .bool g.r.co] 46)
  have KT := hide (tx_tw (h.later b0) (n := 0) ⟨by decide, by decide⟩ (by omega))
  have TA := hide (h.add.later b0)
  have B0 := hide b0
  have H0 := hide h0
  have HN := hide hN
  have HL := hide hl
  have HM := hide hm
  clear h b0 h0 hN hl hm
  go_enter Try.func30, Try.ntmps30
  go_wp2_with fail
  refine (unhide KT).mono ?_
  rintro e w1 ⟨q, rfl, f1, n1, b1⟩
  have hob := below_keep b1 (unhide H0)
  have bw1 : Below w.heap.size w w1 := (unhide B0).trans (b1.mono (by simp))
  have T1 := hide ((unhide TA).later b1)
  obtain ⟨st, ix, px, xe, gg, n', c', la, lp, cx⟩ := q
  simp only [tdV, tdC, tdS]
  generalize hsa : gg.map (fun g => (⟨g, 0, none⟩ : Addr)) = sa at *
  clear hsa
  have x0 : w1.cell? ⟨w.heap.size, 0, none⟩ = some (.int .i64 kd) := cell_of hob 0
  have x2 : w1.cell? ⟨w.heap.size, 2, none⟩ = some (.int .i64 inc) := cell_of hob 2
  have x4 : w1.cell? ⟨w.heap.size, 4, none⟩ = some (.int .i64 pt) := cell_of hob 4
  have x6 : w1.cell? ⟨w.heap.size, 6, none⟩ = some (.bool co) := cell_of hob 6
  have hlt : w.heap.size < w1.heap.size := lt_of_heap hob
  have E1 : Hid ((getT K 0).st = st) := f1.st.symm
  have E2 : Hid ((getT K 0).inc = ix) := f1.inc.symm
  have E3 : Hid ((getT K 0).pid = px) := f1.pid.symm
  have E4 : Hid ((getT K 0).ep = xe) := f1.ep.symm
  have hv : Below w1.heap.size w1 ((w1.alloc (.cells #[.int .i64 st, .int .i64 ix, .int .u64 px, .int .i64 xe, .slice sa n' c', .int .i64 la, .int .u64 lp, .bool cx] 57)).alloc (.cells #[.int .i64 0, .int .i64 0, .int .i64 0, .int .u64 0, .int .i64 0, .slice none 0 0, .bool false] 25)) := ((Below.refl _ _).alloc (Nat.le_refl _) _).alloc (by simp) _
  have TV := hide ((unhide T1).later hv)
  have BV : Hid (Below w.heap.size w ((w1.alloc (.cells #[.int .i64 st, .int .i64 ix, .int .u64 px, .int .i64 xe, .slice sa n' c', .int .i64 la, .int .u64 lp, .bool cx] 57)).alloc (.cells #[.int .i64 0, .int .i64 0, .int .i64 0, .int .u64 0, .int .i64 0, .slice none 0 0, .bool false] 25))) := bw1.trans (hv.mono bw1.size)
  have HB : Hid (((w1.alloc (.cells #[.int .i64 st, .int .i64 ix, .int .u64 px, .int .i64 xe, .slice sa n' c', .int .i64 la, .int .u64 lp, .bool cx] 57)).alloc (.cells #[.int .i64 0, .int .i64 0, .int .i64 0, .int .u64 0, .int .i64 0, .slice none 0 0, .bool false] 25)).heap[w1.heap.size + 1]? = some (.cells #[.int .i64 0, .int .i64 0, .int .i64 0, .int .u64 0, .int .i64 0, .slice none 0 0, .bool false] 25)) := by
    have := heap_new (w1.alloc (.cells #[.int .i64 st, .int .i64 ix, .int .u64 px, .int .i64 xe, .slice sa n' c', .int .i64 la, .int .u64 lp, .bool cx] 57)) (.cells #[.int .i64 0, .int .i64 0, .int .i64 0, .int .u64 0, .int .i64 0, .slice none 0 0, .bool false] 25)
    rw [World.size_alloc] at this
    exact this
  have y0 := (hv.cell (p := ⟨w.heap.size, 0, none⟩) hlt).trans x0
  have y2 := (hv.cell (p := ⟨w.heap.size, 2, none⟩) hlt).trans x2
  have y4 := (hv.cell (p := ⟨w.heap.size, 4, none⟩) hlt).trans x4
  have y6 := (hv.cell (p := ⟨w.heap.size, 6, none⟩) hlt).trans x6
  clear f1 n1 b1 hob bw1 hv KT TA B0 H0 T1 x0 x2 x4 x6
  obtain ⟨rb, hrb⟩ : ∃ y, w1.heap.size + 1 = y := ⟨_, rfl⟩
  rw [hrb] at HB
  have hrl : w.heap.size < rb := by omega
  have HT1 : Hid (w1.heap.size < rb) := by show _ < _; omega
  go_upto_block 0 with fail
  clear hrb
  go_cut [9] from 10 (fun s9 wx => LfC w wx N sb c rb K (lifeD (getT K 0) ⟨kd, n, inc, ep, pt, pid, co, dd, g⟩ next) s9)
  case first =>
    by_cases k0 : kd = 0
    · subst k0
      have HD : Hid (lifeD (getT K 0) ⟨0, n, inc, ep, pt, pid, co, dd, g⟩ next = initD (getT K 0) 0 (wrap64 (ix + m2 inc)) next) := by show _ = _; unfold lifeD; rw [if_pos rfl, unhide E2]
      have KC := init_tw 0 (wrap64 (ix + m2 inc)) next (unhide TV)
      generalize hdd : initD (getT K 0) 0 (wrap64 (ix + m2 inc)) next = d at *
      clear hdd
      have KCH := hide KC
      clear KC
      go_wp2_with fail
      generalize ((w1.alloc (.cells #[.int .i64 st, .int .i64 ix, .int .u64 px, .int .i64 xe, .slice sa n' c', .int .i64 la, .int .u64 lp, .bool cx] 57)).alloc (.cells #[.int .i64 0, .int .i64 0, .int .i64 0, .int .u64 0, .int .i64 0, .slice none 0 0, .bool false] 25)) = V at *
      refine (unhide KCH).mono ?_
      rintro e w3 ⟨sa2, c2, rfl, i3, n3, b3⟩
      have HB3 : Hid (w3.heap[rb]? = some (.cells #[.int .i64 0, .int .i64 0, .int .i64 0, .int .u64 0, .int .i64 0, .slice none 0 0, .bool false] 25)) := below_keep b3 (unhide HB)
      have BW3 : Hid (Below w.heap.size w w3) := (unhide BV).trans (b3.mono (unhide BV).size)
      have I3 := hide i3
      have N3 : Hid (∀ k, (Value.slice sa2 d.r.ps.length c2).ownBlock = some k → rb < k) := fun k hk => by have h1 := n3 k hk; have h2 := lt_of_heap (unhide HB); omega
      have T3 := hide ((unhide TV).later b3)
      clear i3 n3 b3 KCH HB TV BV
      obtain ⟨⟨rk, rt, ri, rp, re, rl, rc⟩, ok, er⟩ := d
      simp only [reC]
      obtain ⟨rn, hrn⟩ : ∃ y, rl.length = y := ⟨_, rfl⟩
      have RN := hide hrn
      rw [hrn]
      clear hrn
      have z0 : w3.cell? ⟨rb, 0, none⟩ = some (.int .i64 0) := cell_of (unhide HB3) 0
      have fz0 : w3.frozen? ⟨rb, 0, none⟩ = false := frozen_of (unhide HB3) 0
      have z1 : w3.cell? ⟨rb, 1, none⟩ = some (.int .i64 0) := cell_of (unhide HB3) 1
      have fz1 : w3.frozen? ⟨rb, 1, none⟩ = false := frozen_of (unhide HB3) 1
      have z2 : w3.cell? ⟨rb, 2, none⟩ = some (.int .i64 0) := cell_of (unhide HB3) 2
      have fz2 : w3.frozen? ⟨rb, 2, none⟩ = false := frozen_of (unhide HB3) 2
      have z3 : w3.cell? ⟨rb, 3, none⟩ = some (.int .u64 0) := cell_of (unhide HB3) 3
      have fz3 : w3.frozen? ⟨rb, 3, none⟩ = false := frozen_of (unhide HB3) 3
      have z4 : w3.cell? ⟨rb, 4, none⟩ = some (.int .i64 0) := cell_of (unhide HB3) 4
      have fz4 : w3.frozen? ⟨rb, 4, none⟩ = false := frozen_of (unhide HB3) 4
      have z5 : w3.cell? ⟨rb, 5, none⟩ = some (.slice none 0 0) := cell_of (unhide HB3) 5
      have fz5 : w3.frozen? ⟨rb, 5, none⟩ = false := frozen_of (unhide HB3) 5
      have z6 : w3.cell? ⟨rb, 6, none⟩ = some (.bool false) := cell_of (unhide HB3) 6
      have fz6 : w3.frozen? ⟨rb, 6, none⟩ = false := frozen_of (unhide HB3) 6
      go_wp2_with fail
      go_meet
      obtain ⟨s1, s2⟩ := set7 (unhide HB3) rfl (.int .i64 rk) (.int .i64 rt) (.int .i64 ri) (.int .u64 rp) (.int .i64 re) (.slice sa2 rn c2) (.bool rc)
      rw [unhide HD]
      refine ⟨rfl, sa2, c2, by simp only [reC]; rw [unhide RN]; exact s1, (unhide I3).keep s2 (fun k hk e => by have := unhide N3 k hk; omega), (unhide T3).keep s2 (fun k _ hk => .inr (by omega)), below_touch (unhide BW3) s2 (unhide BW3).size (fun k hk => by omega)⟩
    by_cases k1 : kd = 1
    · subst k1
      clear k0
      have HD : Hid (lifeD (getT K 0) ⟨1, n, inc, ep, pt, pid, co, dd, g⟩ next = addD (getT K 0) 0 px xe (m6 pt)) := by show _ = _; unfold lifeD; rw [if_neg (show ¬ (1 : Int) = 0 by decide), if_pos rfl, unhide E3, unhide E4]
      have KC := add_tw 0 px xe (m6 pt) (unhide TV)
      generalize hdd : addD (getT K 0) 0 px xe (m6 pt) = d at *
      clear hdd
      have KCH := hide KC
      clear KC
      go_wp2_with fail
      generalize ((w1.alloc (.cells #[.int .i64 st, .int .i64 ix, .int .u64 px, .int .i64 xe, .slice sa n' c', .int .i64 la, .int .u64 lp, .bool cx] 57)).alloc (.cells #[.int .i64 0, .int .i64 0, .int .i64 0, .int .u64 0, .int .i64 0, .slice none 0 0, .bool false] 25)) = V at *
      refine (unhide KCH).mono ?_
      rintro e w3 ⟨sa2, c2, rfl, i3, n3, b3⟩
      have HB3 : Hid (w3.heap[rb]? = some (.cells #[.int .i64 0, .int .i64 0, .int .i64 0, .int .u64 0, .int .i64 0, .slice none 0 0, .bool false] 25)) := below_keep b3 (unhide HB)
      have BW3 : Hid (Below w.heap.size w w3) := (unhide BV).trans (b3.mono (unhide BV).size)
      have I3 := hide i3
      have N3 : Hid (∀ k, (Value.slice sa2 d.r.ps.length c2).ownBlock = some k → rb < k) := fun k hk => by have h1 := n3 k hk; have h2 := lt_of_heap (unhide HB); omega
      have T3 := hide ((unhide TV).later b3)
      clear i3 n3 b3 KCH HB TV BV
      obtain ⟨⟨rk, rt, ri, rp, re, rl, rc⟩, ok, er⟩ := d
      simp only [reC]
      obtain ⟨rn, hrn⟩ : ∃ y, rl.length = y := ⟨_, rfl⟩
      have RN := hide hrn
      rw [hrn]
      clear hrn
      have z0 : w3.cell? ⟨rb, 0, none⟩ = some (.int .i64 0) := cell_of (unhide HB3) 0
      have fz0 : w3.frozen? ⟨rb, 0, none⟩ = false := frozen_of (unhide HB3) 0
      have z1 : w3.cell? ⟨rb, 1, none⟩ = some (.int .i64 0) := cell_of (unhide HB3) 1
      have fz1 : w3.frozen? ⟨rb, 1, none⟩ = false := frozen_of (unhide HB3) 1
      have z2 : w3.cell? ⟨rb, 2, none⟩ = some (.int .i64 0) := cell_of (unhide HB3) 2
      have fz2 : w3.frozen? ⟨rb, 2, none⟩ = false := frozen_of (unhide HB3) 2
      have z3 : w3.cell? ⟨rb, 3, none⟩ = some (.int .u64 0) := cell_of (unhide HB3) 3
      have fz3 : w3.frozen? ⟨rb, 3, none⟩ = false := frozen_of (unhide HB3) 3
      have z4 : w3.cell? ⟨rb, 4, none⟩ = some (.int .i64 0) := cell_of (unhide HB3) 4
      have fz4 : w3.frozen? ⟨rb, 4, none⟩ = false := frozen_of (unhide HB3) 4
      have z5 : w3.cell? ⟨rb, 5, none⟩ = some (.slice none 0 0) := cell_of (unhide HB3) 5
      have fz5 : w3.frozen? ⟨rb, 5, none⟩ = false := frozen_of (unhide HB3) 5
      have z6 : w3.cell? ⟨rb, 6, none⟩ = some (.bool false) := cell_of (unhide HB3) 6
      have fz6 : w3.frozen? ⟨rb, 6, none⟩ = false := frozen_of (unhide HB3) 6
      go_wp2_with fail
      go_meet
      obtain ⟨s1, s2⟩ := set7 (unhide HB3) rfl (.int .i64 rk) (.int .i64 rt) (.int .i64 ri) (.int .u64 rp) (.int .i64 re) (.slice sa2 rn c2) (.bool rc)
      rw [unhide HD]
      refine ⟨rfl, sa2, c2, by simp only [reC]; rw [unhide RN]; exact s1, (unhide I3).keep s2 (fun k hk e => by have := unhide N3 k hk; omega), (unhide T3).keep s2 (fun k _ hk => .inr (by omega)), below_touch (unhide BW3) s2 (unhide BW3).size (fun k hk => by omega)⟩
    by_cases k2 : kd = 2
    · subst k2
      clear k0 k1
      have HD : Hid (lifeD (getT K 0) ⟨2, n, inc, ep, pt, pid, co, dd, g⟩ next = endD (getT K 0) 0 px xe co) := by show _ = _; unfold lifeD; rw [if_neg (show ¬ (2 : Int) = 0 by decide), if_neg (show ¬ (2 : Int) = 1 by decide), if_pos rfl, unhide E3, unhide E4]
      have KC := end_tw 0 px xe co (unhide TV)
      generalize hdd : endD (getT K 0) 0 px xe co = d at *
      clear hdd
      have KCH := hide KC
      clear KC
      go_wp2_with fail
      generalize ((w1.alloc (.cells #[.int .i64 st, .int .i64 ix, .int .u64 px, .int .i64 xe, .slice sa n' c', .int .i64 la, .int .u64 lp, .bool cx] 57)).alloc (.cells #[.int .i64 0, .int .i64 0, .int .i64 0, .int .u64 0, .int .i64 0, .slice none 0 0, .bool false] 25)) = V at *
      refine (unhide KCH).mono ?_
      rintro e w3 ⟨sa2, c2, rfl, i3, n3, b3⟩
      have HB3 : Hid (w3.heap[rb]? = some (.cells #[.int .i64 0, .int .i64 0, .int .i64 0, .int .u64 0, .int .i64 0, .slice none 0 0, .bool false] 25)) := below_keep b3 (unhide HB)
      have BW3 : Hid (Below w.heap.size w w3) := (unhide BV).trans (b3.mono (unhide BV).size)
      have I3 := hide i3
      have N3 : Hid (∀ k, (Value.slice sa2 d.r.ps.length c2).ownBlock = some k → rb < k) := fun k hk => by have h1 := n3 k hk; have h2 := lt_of_heap (unhide HB); omega
      have T3 := hide ((unhide TV).later b3)
      clear i3 n3 b3 KCH HB TV BV
      obtain ⟨⟨rk, rt, ri, rp, re, rl, rc⟩, ok, er⟩ := d
      simp only [reC]
      obtain ⟨rn, hrn⟩ : ∃ y, rl.length = y := ⟨_, rfl⟩
      have RN := hide hrn
      rw [hrn]
      clear hrn
      have z0 : w3.cell? ⟨rb, 0, none⟩ = some (.int .i64 0) := cell_of (unhide HB3) 0
      have fz0 : w3.frozen? ⟨rb, 0, none⟩ = false := frozen_of (unhide HB3) 0
      have z1 : w3.cell? ⟨rb, 1, none⟩ = some (.int .i64 0) := cell_of (unhide HB3) 1
      have fz1 : w3.frozen? ⟨rb, 1, none⟩ = false := frozen_of (unhide HB3) 1
      have z2 : w3.cell? ⟨rb, 2, none⟩ = some (.int .i64 0) := cell_of (unhide HB3) 2
      have fz2 : w3.frozen? ⟨rb, 2, none⟩ = false := frozen_of (unhide HB3) 2
      have z3 : w3.cell? ⟨rb, 3, none⟩ = some (.int .u64 0) := cell_of (unhide HB3) 3
      have fz3 : w3.frozen? ⟨rb, 3, none⟩ = false := frozen_of (unhide HB3) 3
      have z4 : w3.cell? ⟨rb, 4, none⟩ = some (.int .i64 0) := cell_of (unhide HB3) 4
      have fz4 : w3.frozen? ⟨rb, 4, none⟩ = false := frozen_of (unhide HB3) 4
      have z5 : w3.cell? ⟨rb, 5, none⟩ = some (.slice none 0 0) := cell_of (unhide HB3) 5
      have fz5 : w3.frozen? ⟨rb, 5, none⟩ = false := frozen_of (unhide HB3) 5
      have z6 : w3.cell? ⟨rb, 6, none⟩ = some (.bool false) := cell_of (unhide HB3) 6
      have fz6 : w3.frozen? ⟨rb, 6, none⟩ = false := frozen_of (unhide HB3) 6
      go_wp2_with fail
      go_meet
      obtain ⟨s1, s2⟩ := set7 (unhide HB3) rfl (.int .i64 rk) (.int .i64 rt) (.int .i64 ri) (.int .u64 rp) (.int .i64 re) (.slice sa2 rn c2) (.bool rc)
      rw [unhide HD]
      refine ⟨rfl, sa2, c2, by simp only [reC]; rw [unhide RN]; exact s1, (unhide I3).keep s2 (fun k hk e => by have := unhide N3 k hk; omega), (unhide T3).keep s2 (fun k _ hk => .inr (by omega)), below_touch (unhide BW3) s2 (unhide BW3).size (fun k hk => by omega)⟩
    · have HD : Hid (lifeD (getT K 0) ⟨kd, n, inc, ep, pt, pid, co, dd, g⟩ next = ⟨⟨4, 0, 0, 0, 0, [], false⟩, decide (st = 3), 0⟩) := by show _ = _; unfold lifeD; rw [if_neg k0, if_neg k1, if_neg k2, unhide E1]
      have s0 : ((w1.alloc (.cells #[.int .i64 st, .int .i64 ix, .int .u64 px, .int .i64 xe, .slice sa n' c', .int .i64 la, .int .u64 lp, .bool cx] 57)).alloc (.cells #[.int .i64 0, .int .i64 0, .int .i64 0, .int .u64 0, .int .i64 0, .slice none 0 0, .bool false] 25)).cell? ⟨w1.heap.size, 0, none⟩ = some (.int .i64 st) := cell_of (heap_old _ (heap_new w1 _)) 0
      generalize ((w1.alloc (.cells #[.int .i64 st, .int .i64 ix, .int .u64 px, .int .i64 xe, .slice sa n' c', .int .i64 la, .int .u64 lp, .bool cx] 57)).alloc (.cells #[.int .i64 0, .int .i64 0, .int .i64 0, .int .u64 0, .int .i64 0, .slice none 0 0, .bool false] 25)) = V at *
      have hg1 := unhide HT1
      generalize w1.heap.size = gb at *
      have HB3 := HB
      have z0 : V.cell? ⟨rb, 0, none⟩ = some (.int .i64 0) := cell_of (unhide HB3) 0
      have fz0 : V.frozen? ⟨rb, 0, none⟩ = false := frozen_of (unhide HB3) 0
      have z1 : V.cell? ⟨rb, 1, none⟩ = some (.int .i64 0) := cell_of (unhide HB3) 1
      have fz1 : V.frozen? ⟨rb, 1, none⟩ = false := frozen_of (unhide HB3) 1
      have z2 : V.cell? ⟨rb, 2, none⟩ = some (.int .i64 0) := cell_of (unhide HB3) 2
      have fz2 : V.frozen? ⟨rb, 2, none⟩ = false := frozen_of (unhide HB3) 2
      have z3 : V.cell? ⟨rb, 3, none⟩ = some (.int .u64 0) := cell_of (unhide HB3) 3
      have fz3 : V.frozen? ⟨rb, 3, none⟩ = false := frozen_of (unhide HB3) 3
      have z4 : V.cell? ⟨rb, 4, none⟩ = some (.int .i64 0) := cell_of (unhide HB3) 4
      have fz4 : V.frozen? ⟨rb, 4, none⟩ = false := frozen_of (unhide HB3) 4
      have z5 : V.cell? ⟨rb, 5, none⟩ = some (.slice none 0 0) := cell_of (unhide HB3) 5
      have fz5 : V.frozen? ⟨rb, 5, none⟩ = false := frozen_of (unhide HB3) 5
      have z6 : V.cell? ⟨rb, 6, none⟩ = some (.bool false) := cell_of (unhide HB3) 6
      have fz6 : V.frozen? ⟨rb, 6, none⟩ = false := frozen_of (unhide HB3) 6
      have hne : gb ≠ rb := by omega
      have F := hide (lfc_done (unhide HB3) (unhide TV) (unhide BV) (unhide HD) hrl)
      clear y0 y2 y4 y6 E1 E2 E3 E4 HL HM HN hd0 TV BV HB HB3 HD hg1 HT1
      go_wp2_with fail
      go_region
      go_wp2_with fail
      go_meet
      exact unhide F
  case rest =>
    obtain ⟨rfl, sa2, c2, c1, c3, c4, c5⟩ := hcut
    obtain ⟨ia, ic, ie, iI, il, im, inn, _⟩ := c3.iat
    injection ie with ie1 ie2 ie3
    obtain ⟨dt, dl⟩ := unhide hd0
    have HK : Hid (lifeK K (lifeD (getT K 0) ⟨kd, n, inc, ep, pt, pid, co, dd, g⟩ next) = lifeK K (lifeD (getT K 0) ⟨kd, n, inc, ep, pt, pid, co, dd, g⟩ next)) := rfl
    generalize hd : lifeD (getT K 0) ⟨kd, n, inc, ep, pt, pid, co, dd, g⟩ next = d at *
    have HDD := hide hd
    clear hd
    cases hok : d.ok with
    | false =>
      have F : Hid (LfP w N sb c K d (.returned (.bool false)) wc) := by
        refine ⟨by rw [hok], ?_, Touch.of_below c5⟩
        unfold lifeK
        rw [hok]
        obtain ⟨mv, m, R, t1, t2, t3⟩ := c4.weak (N' := N) (fun k hk => .inl hk)
        exact ⟨mv, m, R, t1, by omega, t3⟩
      clear c1 c3 c4 c5 iI il im inn ie1 ie2 ie3 dt dl hd0 HK hok
      go_wp2
      go_returns
      rw [unhide HDD]
      exact unhide F
    | true =>
      have hNN := unhide HN
      have KA := apply_tw (r := d.r) (a := sa2) (cp := c2) (c4.weak (N' := N) (fun k hk => .inl hk)) (fun k hk => Nat.lt_of_lt_of_le (hNN k hk) c5.size) (by rw [ie1]; exact iI) (fun e => by rw [ie3]; exact inn (by rw [← ie1]; exact e)) (by rw [dt]; exact ⟨by decide, by decide⟩) (by rw [dt]; have := unhide HL; omega) (unhide HM)
      have F : Hid (∀ w', TW w' N sb (putT K d.r.tx (apT d.r (getT K d.r.tx))) (c + 1) → Touch (fun k => ¬ N k) wc w' → LfP w N sb c K d (.returned (.bool true)) w') := fun w' t u => by
        refine ⟨by rw [hok], ?_, (Touch.of_below (S := fun k => ¬ N k) c5).trans u⟩
        unfold lifeK
        rw [hok, if_pos rfl]
        rw [dt] at t
        exact t
      have HC1 := hide c1
      have KAH := hide KA
      obtain ⟨⟨rk, rt, ri, rp, re, rl, rc⟩, ok, er⟩ := d
      simp only [reC] at KAH
      obtain ⟨rn, hrn⟩ : ∃ y, rl.length = y := ⟨_, rfl⟩
      simp only [reC, hrn] at KAH HC1
      have u0 : wc.cell? ⟨rb, 0, none⟩ = some (.int .i64 rk) := cell_of (unhide HC1) 0
      have u1 : wc.cell? ⟨rb, 1, none⟩ = some (.int .i64 rt) := cell_of (unhide HC1) 1
      have u2 : wc.cell? ⟨rb, 2, none⟩ = some (.int .i64 ri) := cell_of (unhide HC1) 2
      have u3 : wc.cell? ⟨rb, 3, none⟩ = some (.int .u64 rp) := cell_of (unhide HC1) 3
      have u4 : wc.cell? ⟨rb, 4, none⟩ = some (.int .i64 re) := cell_of (unhide HC1) 4
      have u5 : wc.cell? ⟨rb, 5, none⟩ = some (.slice sa2 rn c2) := cell_of (unhide HC1) 5
      have u6 : wc.cell? ⟨rb, 6, none⟩ = some (.bool rc) := cell_of (unhide HC1) 6
      clear c1 c3 c4 c5 iI il im inn ie1 ie2 ie3 dt dl hd0 HK KA hrn hok
      go_wp2_with fail
      refine (unhide KAH).mono ?_
      rintro e w4 ⟨rfl, t4, v4⟩
      have FF := hide (unhide F w4 t4 v4)
      clear t4 v4 F KAH
      go_wp2
      go_returns
      rw [unhide HDD]
      exact unhide FF
end Go.Proofs.Ytijfjhafjblefaa
