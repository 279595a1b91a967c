/-
  What is wrong with a batch: batch.Size, outOfRange, badProducer, badKind, tooLong and Check, and the document's Size and DocCheck. Conditions: none beyond those of the parameters' types.
-/
import Derived.Test.YtcekleconjmfjaaSpn
namespace Go.Proofs.Ytcekleconjmfjaa
open Go.RowKit
set_option linter.unusedVariables false

/-- A batch's value. -/
abbrev bv (b : Bt) (a : Option Addr) (cap : Nat) : Value := .agg #[.int .i64 b.base, .int .i64 b.epoch, .int .u64 (b.pid : Int), .int .i64 b.pep, .int .i64 b.seq, .bool b.txn, .bool b.ctl, .bool b.com, .slice a b.vs.length cap]
def BoolPost (w : World) (p : Prop) (e : Ending) (w' : World) : Prop := ∃ q : Bool, e = .returned (.bool q) ∧ (q = true ↔ p) ∧ Below w.heap.size w w'
def IntPost (w : World) (n : Nat) (e : Ending) (w' : World) : Prop := e = .returned (.int .i64 (n : Nat)) ∧ Below w.heap.size w w'
theorem BoolPost.mk {w w' : World} {p : Prop} {q : Bool} (h : q = true ↔ p) (hb : Below w.heap.size w w') : BoolPost w p (.returned (.bool q)) w' := ⟨q, rfl, h, hb⟩

theorem len_cases (vs : List (List Nat)) : vs.length = 0 ∨ 0 < vs.length := by omega

set_option maxRecDepth 100000 in
set_option maxHeartbeats 4000000 in
theorem outOf_any (b : Bt) (a : Option Addr) (cap : Nat) (w : World) :
    Calls Try.prog 94 #[bv b a cap] w fun e w' => BoolPost w (outB b) e w' := by
  obtain ⟨base, epoch, pid, pep, seq, txn, ctl, com, vs⟩ := b
  have C : base < 0 ∨ (¬ base < 0 ∧ (epoch < 0 ∨ (¬ epoch < 0 ∧ (pep < 0 ∨ (¬ pep < 0 ∧ (seq < 0 ∨ (¬ seq < 0 ∧ ((1000 : Int) < pep ∨ (¬ (1000 : Int) < pep ∧ ((1000 : Int) < (pid : Int) ∨ ¬ (1000 : Int) < (pid : Int))))))))))) := by omega
  rcases C with t1 | ⟨t1, t2 | ⟨t2, t3 | ⟨t3, t4 | ⟨t4, t5 | ⟨t5, t6 | t6⟩⟩⟩⟩⟩
  all_goals go_enter Try.func94, Try.ntmps94
  all_goals go_wp2
  all_goals go_returns
  all_goals refine BoolPost.mk ?_ ((Below.refl _ _).alloc (Nat.le_refl _) _)
  all_goals simp only [outB]
  all_goals constructor
  all_goals intro h
  all_goals first | trivial | rfl | omega | (cases h; done)

set_option maxRecDepth 100000 in
set_option maxHeartbeats 4000000 in
theorem badProd_any (b : Bt) (a : Option Addr) (cap : Nat) (w : World) :
    Calls Try.prog 95 #[bv b a cap] w fun e w' => BoolPost w (prodB b) e w' := by
  obtain ⟨base, epoch, pid, pep, seq, txn, ctl, com, vs⟩ := b
  have C : ¬ (pid : Int) = 0 ∨ (pid = 0 ∧ (txn = true ∨ (txn = false ∧ (¬ pep = 0 ∨ (pep = 0 ∧ (¬ seq = 0 ∨ seq = 0)))))) := by cases txn <;> simp <;> omega
  rcases C with t1 | ⟨rfl, rfl | ⟨rfl, t3 | ⟨rfl, t4 | rfl⟩⟩⟩
  all_goals go_enter Try.func95, Try.ntmps95
  all_goals go_wp2
  all_goals go_returns
  all_goals refine BoolPost.mk ?_ ((Below.refl _ _).alloc (Nat.le_refl _) _)
  all_goals simp [prodB] <;> omega

set_option maxRecDepth 100000 in
set_option maxHeartbeats 4000000 in
theorem badKind_n (base epoch : Int) (pid : Nat) (pep seq : Int) (txn ctl com : Bool) (n : Nat) (a : Option Addr) (cap : Nat) (w : World) (K : Prop) (hK : K ↔ (ctl = true ∧ (0 < n ∨ txn = false ∨ pid = 0 ∨ seq ≠ 0)) ∨ (ctl = false ∧ (n = 0 ∨ com = true))) :
    Calls Try.prog 96 #[.agg #[.int .i64 base, .int .i64 epoch, .int .u64 (pid : Int), .int .i64 pep, .int .i64 seq, .bool txn, .bool ctl, .bool com, .slice a n cap]] w fun e w' => BoolPost w K e w' := by
  have HK := hide hK
  clear hK
  have D1 : n = 0 ∨ (0 : Int) < (n : Int) := by omega
  have D2 : pid = 0 ∨ ¬ (pid : Int) = 0 := by omega
  have D3 : ¬ seq = 0 ∨ seq = 0 := by omega
  cases ctl
  · rcases D1 with rfl | t1
    · clear D2 D3
      go_enter Try.func96, Try.ntmps96
      go_wp2
      go_returns
      exact BoolPost.mk ⟨fun _ => (unhide HK).2 (by simp <;> omega), fun _ => by first | rfl | (simp <;> omega)⟩ ((Below.refl _ _).alloc (Nat.le_refl _) _)
    · have t2 : ¬ (n : Int) = 0 := by omega
      have T2 : Hid (0 < n) := by show 0 < n; omega
      clear D2 D3
      cases com
      · go_enter Try.func96, Try.ntmps96
        go_wp2
        go_returns
        refine BoolPost.mk ?_ ((Below.refl _ _).alloc (Nat.le_refl _) _)
        have := unhide T2
        rw [unhide HK]
        simp <;> omega
      · go_enter Try.func96, Try.ntmps96
        go_wp2
        go_returns
        exact BoolPost.mk ⟨fun _ => (unhide HK).2 (by simp <;> omega), fun _ => by first | rfl | (simp <;> omega)⟩ ((Below.refl _ _).alloc (Nat.le_refl _) _)
  · rcases D1 with rfl | t1
    · cases txn
      · clear D2 D3
        go_enter Try.func96, Try.ntmps96
        go_wp2
        go_returns
        exact BoolPost.mk ⟨fun _ => (unhide HK).2 (by simp <;> omega), fun _ => by first | rfl | (simp <;> omega)⟩ ((Below.refl _ _).alloc (Nat.le_refl _) _)
      · rcases D2 with rfl | t2
        · clear D3
          go_enter Try.func96, Try.ntmps96
          go_wp2
          go_returns
          exact BoolPost.mk ⟨fun _ => (unhide HK).2 (by simp <;> omega), fun _ => by first | rfl | (simp <;> omega)⟩ ((Below.refl _ _).alloc (Nat.le_refl _) _)
        · rcases D3 with t3 | rfl
          · have T3 := hide t3
            go_enter Try.func96, Try.ntmps96
            go_wp2
            go_returns
            exact BoolPost.mk ⟨fun _ => (unhide HK).2 (by have := unhide T3; simp <;> omega), fun _ => by first | rfl | (simp <;> omega)⟩ ((Below.refl _ _).alloc (Nat.le_refl _) _)
          · have T2 : Hid (pid ≠ 0) := by show pid ≠ 0; omega
            go_enter Try.func96, Try.ntmps96
            go_wp2
            go_returns
            refine BoolPost.mk ?_ ((Below.refl _ _).alloc (Nat.le_refl _) _)
            have := unhide T2
            rw [unhide HK]
            simp <;> omega
    · have T2 : Hid (0 < n) := by show 0 < n; omega
      clear D2 D3
      go_enter Try.func96, Try.ntmps96
      go_wp2
      go_returns
      exact BoolPost.mk ⟨fun _ => (unhide HK).2 (by have := unhide T2; simp <;> omega), fun _ => by first | rfl | (simp <;> omega)⟩ ((Below.refl _ _).alloc (Nat.le_refl _) _)
theorem badKind_any (b : Bt) (a : Option Addr) (cap : Nat) (w : World) :
    Calls Try.prog 96 #[bv b a cap] w fun e w' => BoolPost w (kindB b) e w' :=
  badKind_n b.base b.epoch b.pid b.pep b.seq b.txn b.ctl b.com b.vs.length a cap w (kindB b) Iff.rfl

theorem long_at {vs : List (List Nat)} {k : Nat} (hk : k < vs.length) (h : 64 < (vs.getD k []).length) : longB vs := .inr ⟨_, by simp [List.getD, hk], h⟩
theorem long_no {vs : List (List Nat)} (h16 : ¬ 16 < vs.length) (h : ∀ j, j < vs.length → (vs.getD j []).length ≤ 64) : ¬ longB vs := by
  rintro (h1 | ⟨v, hv, h1⟩)
  · exact h16 h1
  · obtain ⟨i, hi, e⟩ := List.getElem_of_mem hv
    have := h i hi
    simp [List.getD, hi, e] at this
    omega

set_option maxRecDepth 100000 in
set_option maxHeartbeats 4000000 in
theorem tooLong_any (vs : List (List Nat)) (a : Option Addr) (cap : Nat) (w : World) (hp : RAt w a vs) :
    Calls Try.prog 97 #[.slice a vs.length cap] w fun e w' => BoolPost w (longB vs) e w' := by
  have HP := hide hp
  clear hp
  by_cases h16 : 16 < vs.length
  · have h16' : (16 : Int) < (vs.length : Int) := by omega
    go_enter Try.func97, Try.ntmps97
    go_wp2
    go_returns
    exact BoolPost.mk ⟨fun _ => .inl h16, fun _ => rfl⟩ (Below.refl _ _)
  · have h16' : ¬ (16 : Int) < (vs.length : Int) := by omega
    go_enter Try.func97, Try.ntmps97
    go_wp2_with fail
    go_loop [10] (fun i => ∃ k : Nat, k ≤ vs.length ∧ i = .int .i64 k ∧ ∀ j, j < k → (vs.getD j []).length ≤ 64) (fun i => vs.length - (intOf i).toNat)
    case atStart => exact ⟨0, Nat.zero_le _, rfl, fun j hj => by omega⟩
    case round =>
      obtain ⟨k, hk, rfl, hall⟩ := hrel
      have HA := hide hall
      clear hall
      by_cases hkc : k < vs.length
      · have hkc' : (k : Int) < (vs.length : Int) := by omega
        obtain ⟨bb, off, x, c, rfl, _, hcell, _, _⟩ := (unhide HP).cell hkc
        by_cases h64 : 64 < (vs.getD k []).length
        · have L := hide (long_at hkc h64)
          generalize vs.getD k [] = p at *
          have h64' : (64 : Int) < (p.length : Int) := by omega
          go_wp2
          go_returns
          exact BoolPost.mk ⟨fun _ => unhide L, fun _ => rfl⟩ (Below.refl _ _)
        · have HA2 : Hid (∀ j, j < k + 1 → (vs.getD j []).length ≤ 64) := fun j hj => by
            by_cases e : j = k
            · subst e; omega
            · exact unhide HA j (by omega)
          generalize vs.getD k [] = p at *
          have h64' : ¬ (64 : Int) < (p.length : Int) := by omega
          go_wp2
          go_round
          case rel => exact ⟨k + 1, by omega, by go_num, unhide HA2⟩
          case measure => simp [intOf]; omega
      · obtain rfl : k = vs.length := by omega
        have L := hide (long_no h16 (unhide HA))
        go_wp2
        go_returns
        exact BoolPost.mk ⟨(fun h => by cases h), fun h => absurd h (unhide L)⟩ (Below.refl _ _)

theorem IntPost.mk {w w' : World} {n : Nat} {e : Ending} (he : e = .returned (.int .i64 (n : Nat))) (hb : Below w.heap.size w w') : IntPost w n e w' := ⟨he, hb⟩
theorem bool_off {q : Bool} {p : Prop} (h : q = true ↔ p) (hp : ¬ p) : q = false := by cases q <;> simp_all

/-- A batch in its box. -/
def Box (w : World) (g : Nat) (b : Bt) (a : Option Addr) (cap : Nat) : Prop := w.heap[g]? = some (.cells #[.int .i64 b.base, .int .i64 b.epoch, .int .u64 (b.pid : Int), .int .i64 b.pep, .int .i64 b.seq, .bool b.txn, .bool b.ctl, .bool b.com, .slice a b.vs.length cap] 38)
theorem Box.later {w w' : World} {g : Nat} {b : Bt} {a : Option Addr} {cap : Nat} (h : Box w g b a cap) (hb : Below w.heap.size w w') : Box w' g b a cap := below_keep hb h
theorem Box.keep {w w' : World} {g : Nat} {b : Bt} {a : Option Addr} {cap : Nat} {S : Nat → Prop} (h : Box w g b a cap) (t : Touch S w w') (hs : ¬ S g) : Box w' g b a cap := t.keep h hs
theorem Box.new (w : World) (b : Bt) (a : Option Addr) (cap : Nat) : Box (w.alloc (.cells #[.int .i64 b.base, .int .i64 b.epoch, .int .u64 (b.pid : Int), .int .i64 b.pep, .int .i64 b.seq, .bool b.txn, .bool b.ctl, .bool b.com, .slice a b.vs.length cap] 38)) w.heap.size b a cap := heap_new _ _
theorem Box.cells {w : World} {g : Nat} {b : Bt} {a : Option Addr} {cap : Nat} (h : Box w g b a cap) :
    w.cell? ⟨g, 0, none⟩ = some (.int .i64 b.base) ∧ w.cell? ⟨g, 1, none⟩ = some (.int .i64 b.epoch) ∧ w.cell? ⟨g, 2, none⟩ = some (.int .u64 (b.pid : Int)) ∧ w.cell? ⟨g, 3, none⟩ = some (.int .i64 b.pep) ∧ w.cell? ⟨g, 4, none⟩ = some (.int .i64 b.seq) ∧ w.cell? ⟨g, 5, none⟩ = some (.bool b.txn) ∧ w.cell? ⟨g, 6, none⟩ = some (.bool b.ctl) ∧ w.cell? ⟨g, 7, none⟩ = some (.bool b.com) ∧ w.cell? ⟨g, 8, none⟩ = some (.slice a b.vs.length cap) := by
  refine ⟨?_, ?_, ?_, ?_, ?_, ?_, ?_, ?_, ?_⟩ <;> rw [cell_of h] <;> rfl

set_option maxRecDepth 100000 in
set_option maxHeartbeats 4000000 in
theorem check_any (b : Bt) (a : Option Addr) (cap : Nat) (w : World) (hp : RAt w a b.vs) :
    Calls Try.prog 92 #[bv b a cap] w fun e w' => IntPost w (chk b) e w' := by
  have HP := hide hp
  clear hp
  obtain ⟨base, epoch, pid, pep, seq, txn, ctl, com, vs⟩ := b
  have B0 : Hid (Below w.heap.size w (w.alloc (.cells #[.int .i64 base, .int .i64 epoch, .int .u64 (pid : Int), .int .i64 pep, .int .i64 seq, .bool txn, .bool ctl, .bool com, .slice a vs.length cap] 38))) := (Below.refl _ _).alloc (Nat.le_refl _) _
  have BX0 := hide (Box.new w ⟨base, epoch, pid, pep, seq, txn, ctl, com, vs⟩ a cap)
  go_enter Try.func92, Try.ntmps92
  go_wp2_with fail
  refine (outOf_any ⟨base, epoch, pid, pep, seq, txn, ctl, com, vs⟩ a cap _).mono ?_
  rintro e w1 ⟨q1, rfl, h1, b1⟩
  have B1 := hide ((unhide B0).trans (b1.mono (unhide B0).size))
  have BX1 := hide ((unhide BX0).later b1)
  clear b1 B0 BX0
  by_cases hO : outB ⟨base, epoch, pid, pep, seq, txn, ctl, com, vs⟩
  · obtain rfl := h1.2 hO
    have E := hide (chk_out hO)
    clear h1 hO
    go_wp2
    go_returns
    exact IntPost.mk (by rw [unhide E]; rfl) (unhide B1)
  · obtain rfl := bool_off h1 hO
    have XF := hide (chk_form hO)
    have XL := hide (chk_long hO)
    have XK := hide (chk_ok hO)
    clear h1 hO
    obtain ⟨k0, k1, k2, k3, k4, k5, k6, k7, k8⟩ := (unhide BX1).cells
    simp only at k0 k1 k2 k3 k4 k5 k6 k7 k8
    go_wp2_with fail
    refine (badProd_any ⟨base, epoch, pid, pep, seq, txn, ctl, com, vs⟩ a cap _).mono ?_
    rintro e w2 ⟨q2, rfl, h2, b2⟩
    have B2 := hide ((unhide B1).trans (b2.mono (unhide B1).size))
    have BX2 := hide ((unhide BX1).later b2)
    clear b2 B1 BX1 k0 k1 k2 k3 k4 k5 k6 k7 k8
    by_cases hP : prodB ⟨base, epoch, pid, pep, seq, txn, ctl, com, vs⟩
    · obtain rfl := h2.2 hP
      have E := hide (unhide XF (.inl hP))
      clear h2 hP XF XL XK
      go_wp2
      go_returns
      exact IntPost.mk (by rw [unhide E]; rfl) (unhide B2)
    · obtain rfl := bool_off h2 hP
      obtain ⟨k0, k1, k2, k3, k4, k5, k6, k7, k8⟩ := (unhide BX2).cells
      simp only at k0 k1 k2 k3 k4 k5 k6 k7 k8
      clear h2
      go_wp2_with fail
      refine (badKind_any ⟨base, epoch, pid, pep, seq, txn, ctl, com, vs⟩ a cap _).mono ?_
      rintro e w3 ⟨q3, rfl, h3, b3⟩
      have B3 := hide ((unhide B2).trans (b3.mono (unhide B2).size))
      have BX3 := hide ((unhide BX2).later b3)
      clear b3 B2 BX2 k0 k1 k2 k3 k4 k5 k6 k7 k8
      by_cases hK : kindB ⟨base, epoch, pid, pep, seq, txn, ctl, com, vs⟩
      · obtain rfl := h3.2 hK
        have E := hide (unhide XF (.inr hK))
        clear h3 hK hP XF XL XK
        go_wp2
        go_returns
        exact IntPost.mk (by rw [unhide E]; rfl) (unhide B3)
      · obtain rfl := bool_off h3 hK
        have XL2 := hide (unhide XL (fun h => h.elim hP hK))
        have XK2 := hide (unhide XK (fun h => h.elim hP hK))
        have P3 := hide ((unhide HP).later (unhide B3))
        obtain ⟨k0, k1, k2, k3, k4, k5, k6, k7, k8⟩ := (unhide BX3).cells
        simp only at k0 k1 k2 k3 k4 k5 k6 k7 k8
        clear h3 hP hK XF XL XK
        go_wp2_with fail
        refine (tooLong_any vs a cap _ (unhide P3)).mono ?_
        rintro e w4 ⟨q4, rfl, h4, b4⟩
        have B4 := hide ((unhide B3).trans (b4.mono (unhide B3).size))
        clear b4 B3 BX3 k0 k1 k2 k3 k4 k5 k6 k7 k8
        by_cases hL : longB vs
        · obtain rfl := h4.2 hL
          have E := hide (unhide XL2 hL)
          clear h4 hL XL2 XK2
          go_wp2
          go_returns
          exact IntPost.mk (by rw [unhide E]; rfl) (unhide B4)
        · obtain rfl := bool_off h4 hL
          have E := hide (unhide XK2 hL)
          clear h4 hL XL2 XK2
          go_wp2
          go_returns
          exact IntPost.mk (by rw [unhide E]; rfl) (unhide B4)
end Go.Proofs.Ytcekleconjmfjaa
