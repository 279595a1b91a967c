/-
  Layer 17's awake answers true. Conditions: none.
-/
import Derived.Test.YtcekleconjmfjaaRq7
import Derived.Test.YtcekleconjmfjaaRq8
namespace Go.Proofs.Ytcekleconjmfjaa
open Go.RowKit
set_option linter.unusedVariables false

theorem wp_world {P : Program} {c : Code} {E : Exit → Act → World → Prop} {a : Act} {w : World} (Q : World → Prop) (h : ∀ W, Q W → Code.wp P c E a W) (hq : Q w) : Code.wp P c E a w := h w hq
/-- What head leaves, of any reader. -/
def HdAll : Prop := ∀ {w : World} {b : Nat} {a : Option Addr} {cap : Nat} {t : List Nat} {x1 x2 x3 x4 x5 : Int} {s0 s1 s2 s3 s4 s5 : Rst}, RdAt 97 w b a cap t s0 → rI t s0 = (x1, s1) → rI t s1 = (x2, s2) → rI t s2 = (x3, s3) → rI t s3 = (x4, s4) → rI t s4 = (x5, s5) →
    Calls Try.prog 48 #[.agg #[.pointer (some ⟨b, 0, none⟩)]] w fun e w' => HdP w b a cap t s5 x1 x2 x3 x4 x5 e w'
def awP (L : List Value) : Prop := ∃ ma mc, L = mgL { awM with ma := ma, mc := mc }
theorem aw_msg (HEAD : HdAll) (W : World) (b : Nat) (a' : Option Addr) (cap' : Nat) (h : RdAt 97 W b a' cap' awT ⟨0, 0⟩) :
    Calls Try.prog 35 #[.agg #[.pointer (some ⟨b, 0, none⟩)]] W fun e w' => MsR awP W b e w' := by
  obtain ⟨d1, d2, d3, d4, d5⟩ := aw_head
  obtain ⟨e1, e2, e3, e4, e5, e6, e7, e8, e9⟩ := aw_rest
  obtain ⟨e10, e11, e12, e13, e14, e15, e16⟩ := aw_end
  refine (msg_r0 h ⟨by decide, by decide⟩ (fun h => HEAD h d1 d2 d3 d4 d5) e1 e2 e3 e4 e5 e6 e7 e8 e9 e10 e11 e12 e13 e14 e15 e16).mono ?_
  rintro e w' ⟨ma, mc, he, _, tc⟩
  exact ⟨_, he, rfl, mg_one _, ⟨ma, mc, rfl⟩, ⟨rfl, mg_one _⟩, tc⟩
set_option maxRecDepth 100000 in
set_option maxHeartbeats 8000000 in
theorem awake17_any (HEAD : HdAll) (w : World) : Calls Try.prog 10 #[] w fun e w' => e = .returned (.bool true) ∧ Below w.heap.size w w' := by
  have K1 : Calls Try.prog 11 #[.agg #[.int .i64 14, .int .i64 3, .int .i64 0, .int .i64 1, .int .i64 0, .int .i64 0, .int .i64 0, .int .i64 0, .int .i64 0, .int .i64 0, .int .i64 0, .int .i64 0, .bool false, .slice none 0 0, .slice none 0 0, .int .i64 0, .int .i64 0, .int .i64 0, .int .i64 0, .int .i64 0, .int .i64 0, .int .i64 0, .int .i64 0, .int .i64 0, .bool false, .int .i64 0, .int .i64 0, .int .i64 0, .int .i64 0, .slice none 0 0, .int .i64 0, .int .i64 0, .int .i64 0, .int .i64 0, .int .i64 0, .slice none 0 0, .int .i64 0, .int .i64 0, .int .u64 0, .int .i64 0, .int .i64 0, .bool false, .bool false, .bool false, .slice none 0 0, .int .i64 2, .int .i64 0, .int .i64 0, .int .i64 0, .int .u64 0, .int .i64 0, .bool false, .int .i64 1, .int .i64 0, .int .i64 0, .slice none 0 0, .slice none 0 0, .slice none 0 0, .int .i64 0]] w fun e w' => EnM w 0 awT e w' := wencode_any (aw_in w) aw_E aw_L
  have HK1 := hide K1
  clear K1
  go_enter Try.func10, Try.ntmps10
  go_wp2_with fail
  refine (unhide HK1).mono ?_
  rintro e w2 ⟨vo, rfl, r2, n2, b2⟩
  obtain ⟨ao, co, ev, l2, _, _, z2, _⟩ := r2.parts
  subst ev
  have B2 := hide b2
  have K2 := hide (wdec_ok (cap := co) (P := awP) l2 z2 (by decide) (aw_msg HEAD))
  have LT := hide l2
  clear r2 n2 b2 l2 z2 HK1
  go_wp2_with fail
  refine (unhide K2).mono ?_
  rintro e w3 ⟨L, pL, l3, rfl, b3⟩
  have HW : Hid (L.toArray.all (·.oneCell') = true) := hide (by obtain ⟨ma, mc, e⟩ := pL; rw [e]; exact mg_one _)
  have bA : ∀ ob, Below w3.heap.size w3 (w3.alloc ob) := fun ob => (Below.refl w3.heap.size w3).alloc (Nat.le_refl _) ob
  have HB : Hid (∀ ob, Below w3.heap.size w3 (w3.alloc ob)) := hide bA
  have B3 := hide ((unhide B2).trans (b3.mono (unhide B2).size))
  have LT3 := hide ((unhide LT).later b3)
  have NBK : Hid (∀ x, ao = some x → x.block < w3.heap.size) := hide (fun x hx => by
    obtain ⟨b', o', e', hb', _⟩ := (unhide LT) 0 (by decide)
    rw [hx] at e'
    cases e'
    exact Nat.lt_of_lt_of_le hb' b3.size)
  have HP := hide pL
  have HLN := hide l3
  clear b3 bA K2 LT pL l3
  go_upto_region 3 with (with_reducible (show wpList _ _ _ (Oper.mk _ (Op.store _ _ _) _ _ _ _ :: _) _ _); refine store_list rfl (.tmp 3) (.tmp 13) rfl w3.heap.size L rfl rfl (heap_new w3 _) rfl (unhide HLN) (unhide HW) ?_; rintro W4 q1 q2; have Q1 := hide q1; have BF := hide (below_touch ((unhide B3).trans ((unhide HB _).mono (unhide B3).size)) q2 (Nat.le_trans (unhide B3).size (unhide HB _).size) (fun k hk => by have := (unhide B3).size; omega)); have LT4 := hide (((unhide LT3).later (unhide HB _)).keep q2 (fun h0 x hx e => by have := unhide NBK x hx; omega)); clear q1 q2)
  obtain ⟨ma, mc, eL⟩ := unhide HP
  have HQ' := unhide Q1
  rw [eL] at HQ'
  have HQ := hide HQ'
  clear HQ' Q1 eL HW B3 LT3 NBK HP HLN HB
  generalize w3.heap.size = g at *
  have y0 : W4.cell? ⟨g, 0, none⟩ = some (.int .i64 14) := cell_of (unhide HQ) 0
  have y1 : W4.cell? ⟨g, 1, none⟩ = some (.int .i64 3) := cell_of (unhide HQ) 1
  have y52 : W4.cell? ⟨g, 52, none⟩ = some (.int .i64 1) := cell_of (unhide HQ) 52
  have y45 : W4.cell? ⟨g, 45, none⟩ = some (.int .i64 2) := cell_of (unhide HQ) 45
  obtain ⟨cb, off, ea, _, q0, _⟩ := (unhide LT4).cell (i := 0) (by decide)
  obtain ⟨cb', off', e', _, q1, _⟩ := (unhide LT4).cell (i := 1) (by decide)
  rw [ea] at e'
  cases e'
  subst ea
  rw [Nat.add_zero] at q0
  have q0' : W4.cell? ⟨cb, off, none⟩ = some (.int .u8 28) := q0
  have q1' : W4.cell? ⟨cb, off + 1, none⟩ = some (.int .u8 6) := q1
  have hgt : (5 : Int) < (awT.length : Int) := by decide
  have h0 : (0 : Int) < (awT.length : Int) := by decide
  have h1 : (1 : Int) < (awT.length : Int) := by decide
  clear q0 q1 HQ LT4
  generalize awT.length = n at *
  go_wp2
  go_ret
  exact ⟨rfl, unhide BF⟩
end Go.Proofs.Ytcekleconjmfjaa
