/-
  WireKinds answers true, for any kind and any message. Conditions: the message as it lies.
-/
import Derived.Test.YtcekleconjmfjaaAw17
import Derived.Test.YtcekleconjmfjaaMi17
import Derived.Test.YtcekleconjmfjaaRq1
namespace Go.Proofs.Ytcekleconjmfjaa
open Go.RowKit
set_option linter.unusedVariables false

theorem hd_all : HdAll := fun h e1 e2 e3 e4 e5 => head_any h e1 e2 e3 e4 e5
theorem bad_dec {w : World} {a : Option Addr} {cap : Nat} {k : Int} (hk : I64 k) (hn : kndE k ≠ 0) (ht : LAt w a (enc (zig k) ++ [0, 0, 0, 0])) (hz : a = none → cap = 0) :
    Calls Try.prog 13 #[.slice a (enc (zig k) ++ [0, 0, 0, 0]).length cap] w fun e w' => DcP (fun L => L = mgL mg0) w 1 e w' := by
  obtain ⟨r1, r2⟩ := kind_read hk
  have hl := enc_len10 (zig_lt hk.1 hk.2)
  refine wdec_no (E := 1) (by decide) ht hz (by rw [List.length_append]; simp; omega) (fun W b a' cap' h => msg_no h hn (fun {W} h => hd_all h r1 (r2 0 (by decide)) (r2 1 (by decide)) (r2 2 (by decide)) (r2 3 (by decide))))
set_option maxRecDepth 100000 in
set_option maxHeartbeats 8000000 in
theorem wireKinds_walk {w : World} {m : Mg} {k : Int} (hm : MgIn w m) (hk : I64 k) :
    Calls Try.prog 8 #[.int .i64 k, .agg (mgL m).toArray] w fun e w' => e = .returned (.bool true) ∧ Below w.heap.size w w' := by
  have b1 := (Below.refl w.heap.size w).alloc (Nat.le_refl _) (.cells (mgL m).toArray 41)
  have H1 := hide (heap_new w (.cells (mgL m).toArray 41))
  have B1 := hide b1
  have HM := hide hm
  have HI := hide hk
  clear b1 hm hk
  go_enter Try.func8, Try.ntmps8
  go_upto_region 1 with fail
  change Code.wp _ _ _ _ (w.alloc (.cells (mgL m).toArray 41))
  generalize w.alloc (.cells (mgL m).toArray 41) = W1 at *
  have y : W1.cell? ⟨w.heap.size, 0, none⟩ = some (.int .i64 m.kd) := cell_of (unhide H1) 0
  have yf := frozen_of (unhide H1) 0
  go_upto_region 2 with fail
  have H2 : Hid ((W1.setCell ⟨w.heap.size, 0, none⟩ (.int .i64 k)).heap[w.heap.size]? = some (.cells (mgL { m with kd := k }).toArray 41)) := hide (heap_set (unhide H1) 0 (.int .i64 k))
  have B2 := hide (below_touch (unhide B1) (touch_set W1 w.heap.size 0 (.int .i64 k)) (unhide B1).size (fun q hq => by omega))
  clear y yf H1 B1
  generalize W1.setCell ⟨w.heap.size, 0, none⟩ (.int .i64 k) = W2 at *
  have K1 := hide (wencode_any (((unhide HM).later (unhide B2)).kind (unhide HI)) rfl rfl)
  have FB := hide (fun hn : kndE k ≠ 0 => fin_bad (m := { m with kd := k }) hn)
  have FN := hide (fun hn : finE { m with kd := k } ≠ 0 => fin_none hn)
  have FF := hide (fun (h0 : finE { m with kd := k } = 0) (h1 : 1 ≤ k ∧ k ≤ 15) => fin_first (m := { m with kd := k }) h0 h1)
  have HRG := hide (range_of (o := 0) (ds := mgL { m with kd := k }) (unhide H2) (fun j v hv => by rw [Nat.zero_add]; exact hv))
  have HI1 := hide (info_mg { m with kd := k })
  generalize finE { m with kd := k } = E at *
  generalize finL { m with kd := k } = L at *
  generalize mgL { m with kd := k } = LL at *
  clear H2 HM W1
  go_wp2_with (first
    | (with_reducible (show wpList _ _ _ (Oper.mk _ (Op.load _ _) _ _ _ _ :: _) _ _); refine wpList_load_mid rfl 41 (.tmp 3) rfl w.heap.size 0 rfl LL _ (unhide HRG) Try.underlying41 rfl (unhide HI1) ?_)
    | (go_at_call 11; refine (unhide K1).mono ?_))
  rintro e w3 ⟨vo, rfl, r3, n3, b3⟩
  obtain ⟨ao, co, ev, l3, _, _, z3, _⟩ := r3.parts
  subst ev
  have L3 := hide l3
  have B3 := hide ((unhide B2).trans (b3.mono (unhide B2).size))
  clear r3 n3 b3 l3 z3 K1 HRG HI1 B2
  go_wp2_with fail
  refine (awake17_any hd_all w3).mono ?_
  rintro e w4 ⟨rfl, b4⟩
  have L4 := hide ((unhide L3).later b4)
  have B4 := hide ((unhide B3).trans (b4.mono (unhide B3).size))
  clear b4 L3 B3
  by_cases hn : kndE k = 0
  · have h15 : 1 ≤ k ∧ k ≤ 15 := by
      unfold kndE at hn
      split at hn
      · cases hn
      · omega
    have g1 : ¬ k < 1 := by omega
    have g2 : ¬ 15 < k := by omega
    by_cases hE : E = 0
    · obtain ⟨r, er⟩ := unhide FF hE h15
      subst er hE
      obtain ⟨cb, off, ea, _, q0, _⟩ := (unhide L4).cell (i := 0) (by simp)
      subst ea
      rw [Nat.add_zero] at q0
      have q0' : w4.cell? ⟨cb, off, none⟩ = some (.int .u8 (2 * k)) := by
        rw [q0]
        show some (Value.int .u8 (((2 * k).toNat : Nat) : Int)) = _
        rw [Int.toNat_of_nonneg (by omega)]
      have hlen : (0 : Int) < (((2 * k).toNat :: r).length : Int) := by simp
      generalize ((2 * k).toNat :: r).length = n at *
      clear q0 hn L4 FF FN FB
      go_wp2
      go_ret
      exact ⟨rfl, unhide B4⟩
    · have e0 := unhide FN hE
      subst e0
      have hEb : (E == 0) = false := beq_eq_false_iff_ne.2 hE
      clear hn L4 FF FN FB
      go_wp2
      go_ret
      exact ⟨rfl, unhide B4⟩
  · obtain ⟨e1, e2⟩ := unhide FB hn
    subst e1 e2
    have hor : k < 1 ∨ 15 < k := by
      unfold kndE at hn
      split at hn
      · assumption
      · exact absurd rfl hn
    have hw : I64 k := unhide HI
    have KI := hide (eint_any k w4 hw.1 hw.2)
    obtain ⟨T, hT⟩ : ∃ T, T = enc (zig k) ++ [0, 0, 0, 0] := ⟨_, rfl⟩
    have HT := hide hT
    have KD := hide (fun (W : World) (a : Option Addr) (cap : Nat) (h1 : LAt W a T) (h2 : a = none → cap = 0) => (show Calls Try.prog 13 #[.slice a T.length cap] W fun e w' => DcP (fun L => L = mgL mg0) W 1 e w' by subst hT; exact bad_dec hw hn h1 h2))
    have hlen := enc_len10 (zig_lt hw.1 hw.2)
    have hcond : (decide (k < 1) || decide (15 < k)) = true := by simp; exact hor
    clear hn L4 FF FN FB hw hT
    generalize hen : enc (zig k) = en at *
    clear hen
    go_upto_region 6 with fail
    all_goals
      go_wp2_with fail
      refine (unhide KI).mono ?_
      rintro e w5 ⟨v5, rfl, r5, n5, b5⟩
      have bA := (Below.refl w5.heap.size w5).alloc (Nat.le_refl _) (.cells #[.int .u8 0, .int .u8 0, .int .u8 0, .int .u8 0] 5)
      have RL := hide (LAt.lit w5 [0, 0, 0, 0] (by simp) #[.int .u8 0, .int .u8 0, .int .u8 0, .int .u8 0] rfl)
      have R6 := hide (r5.later bA)
      have BA := hide ((((unhide B4).trans (b5.mono (unhide B4).size))).alloc (Nat.le_trans (unhide B4).size b5.size) (.cells #[.int .u8 0, .int .u8 0, .int .u8 0, .int .u8 0] 5))
      have N5 : Hid (∀ q, v5.ownBlock = some q → w.heap.size ≤ q) := hide (fun q hq => by have := n5 q hq; have := (unhide B4).size; omega)
      clear r5 n5 b5 bA KI
      go_wp2_with (at_builtin; refine wpList_row _ rfl (.tmp 26) (.tmp 27) rfl v5 en rfl (unhide R6) (some ⟨w5.heap.size, 0, none⟩) 4 [0, 0, 0, 0] rfl (unhide RL) (fun h => by cases h) (by simp; omega) ?_; intro v7 w7 r7 t7 m7; rw [← unhide HT] at r7; obtain ⟨ta, tc, et, tl, _, _, tn, _⟩ := r7.parts; subst et; have TL := hide tl; have TN := hide tn; have B7 := hide (below_touch (unhide BA) t7 (unhide BA).size (fun q hq => unhide N5 q hq)); clear r7 t7 m7 tl tn)
      refine (unhide KD w7 ta tc (unhide TL) (unhide TN)).mono ?_
      rintro e w8 ⟨L8, p8, l8, rfl, b8⟩
      have HW : Hid (L8.toArray.all (·.oneCell') = true) := hide (by rw [p8]; exact mg_one _)
      have HLN := hide l8
      have B8 := hide ((unhide B7).trans (b8.mono (unhide B7).size))
      have HB : Hid (∀ ob, Below w8.heap.size w8 (w8.alloc ob)) := hide (fun ob => (Below.refl w8.heap.size w8).alloc (Nat.le_refl _) ob)
      clear p8 l8 b8 KD TL TN B7 RL R6 BA N5 HI
      go_upto_region 7 with (with_reducible (show wpList _ _ _ (Oper.mk _ (Op.store _ _ _) _ _ _ _ :: _) _ _); refine store_list rfl (.tmp 7) (.tmp 30) rfl w8.heap.size L8 rfl rfl (heap_new w8 _) rfl (unhide HLN) (unhide HW) ?_; rintro W9 q1 q2; have BF := hide (below_touch ((unhide B8).trans ((unhide HB _).mono (unhide B8).size)) q2 (Nat.le_trans (unhide B8).size (unhide HB _).size) (fun k hk => by have := (unhide B8).size; omega)); clear q1 q2)
      clear HW HLN B8 HB
      go_wp2
      go_ret
      exact ⟨rfl, unhide BF⟩
end Go.Proofs.Ytcekleconjmfjaa
