/-
  The end of a client's program; Tick of a client that has no operation left. Conditions: the client as it lies.
-/
import Derived.Test.YtbonlonkienhaaaCs5
namespace Go.Proofs.Ytbonlonkienhaaa
open Go.RowKit
set_option linter.unusedVariables false

def lay (cs : Array Value) : Nat → List Value → Array Value
  | _, [] => cs
  | o, v :: r => lay (cs.setIfInBounds o v) (o + 1) r
theorem heap_setCells {g : Nat} {t : TypeId} : ∀ (vs : List Value) (o : Nat) (u : World) (cs : Array Value), u.heap[g]? = some (.cells cs t) → (u.setCells g o vs).heap[g]? = some (.cells (lay cs o vs) t) ∧ Touch (· = g) u (u.setCells g o vs)
  | [], o, u, cs, h => ⟨h, Touch.refl _ _⟩
  | v :: r, o, u, cs, h => by
    have h1 := heap_set h o v
    obtain ⟨q1, q2⟩ := heap_setCells r (o + 1) (u.setCell ⟨g, o, none⟩ v) (cs.setIfInBounds o v) h1
    exact ⟨q1, (touch_set u g o v).trans q2⟩
theorem lay_size : ∀ (vs : List Value) (o : Nat) (cs : Array Value), (lay cs o vs).size = cs.size
  | [], _, _ => rfl
  | v :: r, o, cs => by rw [lay, lay_size r]; simp
theorem lay_at : ∀ (vs : List Value) (o : Nat) (cs : Array Value) (i : Nat), (lay cs o vs)[i]? = if o ≤ i ∧ i < o + vs.length ∧ i < cs.size then vs[i - o]? else cs[i]?
  | [], o, cs, i => by
    rw [lay, if_neg]
    simp
    omega
  | v :: r, o, cs, i => by
    rw [lay, lay_at r]
    by_cases h : i = o
    · subst h
      rw [if_neg (by omega)]
      by_cases hs : i < cs.size
      · rw [if_pos (by simp; omega)]
        simp [hs]
      · rw [if_neg (by omega)]
        simp [hs]
    · by_cases hs : o + 1 ≤ i ∧ i < o + 1 + r.length ∧ i < cs.size
      · rw [if_pos (by simpa using hs), if_pos (by simp; omega)]
        have e : i - o = i - (o + 1) + 1 := by omega
        rw [e, List.getElem?_cons_succ]
      · rw [if_neg (by simpa using hs), if_neg (by simp; omega)]
        rw [Array.getElem?_setIfInBounds_ne (by omega)]
theorem lay_all {cs : Array Value} {vs : List Value} (h : cs.size = vs.length) : lay cs 0 vs = vs.toArray := by
  refine Array.ext_getElem? fun i => ?_
  rw [lay_at]
  by_cases hi : i < vs.length
  · rw [if_pos (by omega)]
    simp
  · rw [if_neg (by omega), Array.getElem?_eq_none (by omega)]
    simp
    omega
theorem there_of {u : World} {g o n : Nat} {cs : Array Value} {t : TypeId} (h : u.heap[g]? = some (.cells cs t)) (hn : o + n ≤ cs.size) : u.there g o n := fun j hj => by
  refine ⟨?_, frozen_of h (o + j)⟩
  rw [cell_of h]
  simp
  omega
theorem store_part {ops : Array Oper} {rest : List Oper} {op : Oper} {a : Act} {w : World} {Q : Exit → Act → World → Prop} (T TM : TypeId) (hgd : op.guard = none) (x y : Operand) (ho : op.op = .store T x y)
    (g o : Nat) (D : List Value) (hx : a.eval x = .pointer (some ⟨g, o, none⟩)) (hy : a.eval y = .agg D.toArray) {cs : Array Value} (L' : List Value)
    (hg : w.heap[g]? = some (.cells cs TM)) (hfit : o + D.length ≤ cs.size) (hi : (Try.prog.info? T).map (·.size) = some D.length) (h1 : D.toArray.all (·.oneCell') = true) (hL : lay cs o D = L'.toArray)
    (h : ∀ W, W.heap[g]? = some (.cells L'.toArray TM) → Touch (· = g) w W → wpList Try.prog ops Q rest (a.put op.dst undef) W) : wpList Try.prog ops Q (op :: rest) a w := by
  refine wpList_store_mid hgd T x y ho g o _ hx hy (there_of hg (by simpa using hfit)) (by rw [hi]; simp) h1 ?_
  obtain ⟨q1, q2⟩ := heap_setCells D o w _ hg
  rw [hL] at q1
  exact h _ q1 q2

theorem below_drewN6 {B : Nat} {w0 w : World} (h : Below B w0 w) (n : Nat) : Below B w0 (w.drewN n) := h.trans ⟨rfl, rfl, rfl, Nat.le_refl _, fun _ _ => rfl⟩
def endS (c : Cl) : Sn := ⟨7, c.n, c.pl, 0, 0, ByteArray.empty, 0⟩
def endC (c : Cl) (a : Option Addr) (k : Nat) : Cl := { seenC c (endS c) a k with en := true }
theorem lay_mind (c : Cl) : lay (clL c).toArray 13 mind0 = (clL c).toArray := by kernel_rfl
theorem set_en (c : Cl) (q : Bool) : (clL c).toArray.setIfInBounds 12 (.bool q) = (clL { c with en := q }).toArray := by kernel_rfl
theorem mind_one : mind0.toArray.all (·.oneCell') = true := by simp [mind0, Value.oneCell']
theorem info_mind : (Try.prog.info? 89).map (·.size) = some mind0.length := by kernel_rfl
def EnP (w : World) (b : Nat) (c : Cl) (e : Ending) (w' : World) : Prop := e = .returned (.tuple #[]) ∧ ∃ a k, ClAt w' b (endC c a k) ∧ Touch (Mine b c) w w' ∧ Moved w (trV c) (trV (endC c a k))
set_option maxRecDepth 100000 in
set_option maxHeartbeats 8000000 in
theorem end_any {w : World} {b : Nat} {c : Cl} (h : ClAt w b c) (hl : c.tr.length ≤ 4096) :
    Calls Try.prog 30 #[.pointer (some ⟨b, 0, none⟩)] w fun e w' => EnP w b c e w' := by
  have K := hide (see_any h ⟨7, 0, 0, 0, 0, ByteArray.empty, 0⟩ hl)
  have bt : Hid (∀ k, (trV c).ownBlock = some k → k ≠ b) := hide (fun k hk e => by
    subst e
    obtain ⟨cs, h1⟩ := h.tr.heap hk
    rw [h.cl] at h1
    exact absurd (Obj.cells.inj (Option.some.inj h1)).2.1 (by decide))
  clear h hl
  unfold cellsSn at K
  go_enter Try.func30, Try.ntmps30
  go_wp2_with fail
  refine (unhide K).mono ?_
  rintro e w2 ⟨rfl, a, k, hc, ht, hm⟩
  have y12 : w2.cell? ⟨b, 12, none⟩ = some (.bool c.en) := cell_of hc.cl 12
  have f12 : w2.frozen? ⟨b, 12, none⟩ = false := frozen_of hc.cl 12
  have HC := hide hc
  have HT := hide ht
  have HM := hide hm
  clear hc ht hm K
  go_upto_region 2 with fail
  have H3 := hide ((heap_set (unhide HC).cl 12 (.bool true)).trans (by rw [set_en]))
  have T3 := hide (touch_set w2 b 12 (.bool true))
  clear y12 f12
  generalize w2.setCell ⟨b, 12, none⟩ (.bool true) = w3 at *
  obtain ⟨D, hD⟩ : ∃ D, D = mind0 := ⟨_, rfl⟩
  have HD := hide hD
  have HDL : Hid (D.length = 100) := hide (by rw [hD]; kernel_rfl)
  have HD1 : Hid (D.toArray.all (·.oneCell') = true) := hide (by rw [hD]; exact mind_one)
  have HDI : Hid ((Try.prog.info? 89).map (·.size) = some D.length) := hide (by rw [hD]; exact info_mind)
  obtain ⟨LC, hLC⟩ : ∃ LC, LC = clL (endC c a k) := ⟨_, rfl⟩
  have HLY : Hid (lay LC.toArray 13 D = LC.toArray) := hide (by rw [hLC, hD]; exact lay_mind _)
  have HLZ : Hid (LC.toArray.size = 113) := hide (by rw [hLC]; exact clL_len _)
  have H4 : Hid (w3.heap[b]? = some (.cells LC.toArray 91)) := hide (by rw [hLC]; exact unhide H3)
  have HLC := hide hLC
  clear hD hLC H3
  go_wp2_with (with_reducible (show wpList _ _ _ (Oper.mk _ (Op.store _ _ _) _ _ _ _ :: _) _ _); refine store_part 89 91 rfl (.tmp 11) (.tmp 9) rfl b 13 D rfl (by rw [unhide HD]; kernel_rfl) LC (unhide H4) (by rw [unhide HDL, unhide HLZ]; decide) (unhide HDI) (unhide HD1) (unhide HLY) ?_; rintro w5 q1 q2; have Q1 := hide q1; have Q2 := hide q2; clear q1 q2)
  have FF : Hid (EnP w b c (.returned (.tuple #[])) w5) := by
    have t25 : Touch (· = b) w2 w5 := (unhide T3).trans (unhide Q2)
    refine ⟨rfl, a, k, ⟨by have := unhide Q1; rw [unhide HLC] at this; exact this, ?_, ?_⟩, (unhide HT).trans (t25.mono (fun q hq => .inl hq)), unhide HM⟩
    · refine (unhide HC).ops.keep t25 (fun q hq e => ?_)
      subst e
      obtain ⟨cs, h1⟩ := (unhide HC).ops.heap hq
      rw [(unhide HC).cl] at h1
      exact absurd (Obj.cells.inj (Option.some.inj h1)).2.1 (by decide)
    · refine (unhide HC).tr.keep t25 (fun q hq e => ?_)
      subst e
      obtain ⟨cs, h1⟩ := (unhide HC).tr.heap hq
      rw [(unhide HC).cl] at h1
      exact absurd (Obj.cells.inj (Option.some.inj h1)).2.1 (by decide)
  clear HC HT HM T3 HD HDL HD1 HDI HLY HLZ H4 HLC Q1 Q2 bt
  go_returns
  exact unhide FF
theorem nil_taker : ∀ W : World, (binOp .neq 73 .nilFunc .nilFunc).run Try.prog W = .ok (.bool false) W := fun W => by kernel_rfl
set_option maxRecDepth 100000 in
theorem waits_no {w : World} {b : Nat} {c : Cl} (h : w.heap[b]? = some (.cells (clL c).toArray 91)) :
    Calls Try.prog 18 #[.pointer (some ⟨b, 0, none⟩)] w fun e w' => e = .returned (.bool false) ∧ w' = w := by
  have y : w.cell? ⟨b, 73, none⟩ = some .nilFunc := (cell_of h 73).trans (by kernel_rfl)
  have hq := nil_taker
  clear h
  go_enter Try.func18, Try.ntmps18
  go_wp2
  go_ret
  exact ⟨rfl, rfl⟩
/-- What a Tick leaves where no operation is left. -/
def TkE (w : World) (b : Nat) (c : Cl) (e : Ending) (w' : World) : Prop := e = .returned (.slice none 0 0) ∧ ∃ a k, ClAt w' b (endC c a k) ∧ Touch (Mine b c) w w' ∧ Moved w (trV c) (trV (endC c a k))
set_option maxRecDepth 100000 in
set_option maxHeartbeats 8000000 in
theorem step_end {w : World} {b : Nat} {c : Cl} (h : ClAt w b c) (hl : c.tr.length ≤ 4096) (hp : c.pl = (c.os.length : Int)) :
    Calls Try.prog 19 #[.pointer (some ⟨b, 0, none⟩)] w fun e w' => TkE w b c e w' := by
  have KE : Hid (∀ n, Calls Try.prog 30 #[.pointer (some ⟨b, 0, none⟩)] (w.drewN n) fun e w' => EnP (w.drewN n) b c e w') := hide (fun n => end_any (h.keep ((Touch.of_below (below_drewN6 (Below.refl _ _) n)))) hl)
  have hpb : (c.pl == (c.os.length : Int)) = true := beq_iff_eq.2 hp
  have y7 : w.cell? ⟨b, 7, none⟩ = some (.bool false) := cell_of h.cl 7
  have y5 : w.cell? ⟨b, 5, none⟩ = some (.int .i64 c.pl) := cell_of h.cl 5
  have y4 : w.cell? ⟨b, 4, none⟩ = some (.slice c.oa c.os.length c.oc) := cell_of h.cl 4
  clear h hl hp
  go_enter Try.func19, Try.ntmps19
  go_wp2_with fail
  go_quiet (fail)
  have K := hide (unhide KE nq)
  have B := hide (below_drewN6 (Below.refl w.heap.size w) nq)
  generalize w.drewN nq = w2 at *
  clear KE y7 y5 y4 hpb
  go_wp2_with fail
  refine (unhide K).mono ?_
  rintro e w3 ⟨rfl, a, k, hc, ht, hm⟩
  have FF : Hid (TkE w b c (.returned (.slice none 0 0)) w3) := hide ⟨rfl, a, k, hc, (Touch.of_below (unhide B)).trans ht, fun q hq => (hm q hq).imp id (fun h => Nat.le_trans (unhide B).size h)⟩
  clear hc ht hm K B
  go_wp2
  go_returns
  exact unhide FF
theorem tick_end {w : World} {b : Nat} {c : Cl} (h : ClAt w b c) (hl : c.tr.length ≤ 4096) (hp : c.pl = (c.os.length : Int)) (he : c.en = false) :
    Calls Try.prog 11 #[.pointer (some ⟨b, 0, none⟩)] w fun e w' => TkE w b c e w' := by
  have KS := hide (step_end h hl hp)
  have KW := hide (waits_no h.cl)
  have y12 : w.cell? ⟨b, 12, none⟩ = some (.bool false) := by have := cell_of h.cl 12; rw [← he]; exact this
  clear h hl hp he
  go_enter Try.func11, Try.ntmps11
  go_wp2_with fail
  refine (unhide KW).mono ?_
  rintro e w2 ⟨rfl, rfl⟩
  clear y12 KW
  go_wp2_with fail
  refine (unhide KS).mono ?_
  rintro e w3 ⟨rfl, a, k, hc, ht, hm⟩
  have FF : Hid (TkE w2 b c (.returned (.slice none 0 0)) w3) := hide ⟨rfl, a, k, hc, ht, hm⟩
  clear hc ht hm KS
  go_wp2
  go_returns
  exact unhide FF
end Go.Proofs.Ytbonlonkienhaaa
