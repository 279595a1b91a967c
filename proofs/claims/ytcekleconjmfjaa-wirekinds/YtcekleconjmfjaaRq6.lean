/-
  wire.Decode, for whatever its msg tells. Conditions: the bytes as they lie.
-/
import Derived.Test.YtcekleconjmfjaaRq5
namespace Go.Proofs.Ytcekleconjmfjaa
open Go.RowKit
set_option linter.unusedVariables false

theorem enters_dec : ∀ args w, (callFunc 34 args).run Try.prog w = .ok (.enter 34 args) w := enters_of Try.func34 rfl rfl
theorem res_decL {Y : World} {g : Nat} {L : List Value} {E : Int} {tmps : Array Value} (h : Y.heap[g]? = some (.cells L.toArray 41)) (hL : L.length = 59) (ht : tmps[2]?.getD undef = .pointer (some ⟨g, 0, none⟩)) (h3 : tmps[3]?.getD undef = .int .i64 E) :
    (results Try.f13 tmps).run Try.prog Y = .ok (.tuple #[.agg L.toArray, .int .i64 E]) Y := by
  have hlv := run_loadVar_mid (P := Try.prog) Y g 0 41 L _ (range_of h (fun j v hv => by rw [Nat.zero_add]; exact hv)) Try.underlying41 rfl (by rw [info_msg, hL])
  simp [results, Try.results13, ht, h3, asAddr, hlv]
/-- What Decode answers. -/
def DcP (P : List Value → Prop) (w : World) (E : Int) (e : Ending) (w' : World) : Prop := ∃ L : List Value, P L ∧ L.length = 59 ∧ e = .returned (.tuple #[.agg L.toArray, .int .i64 E]) ∧ Below w.heap.size w w'
section
variable {w : World} {a : Option Addr} {cap : Nat} {t : List Nat}
/-- What msg tells, where it comes back. -/
def MsR (P : List Value → Prop) (W : World) (b : Nat) (e : Ending) (w' : World) : Prop := MsT (fun L u => P L ∧ (L.length = 59 ∧ L.toArray.all (·.oneCell') = true) ∧ Touch (fun q => q = b ∨ W.heap.size ≤ q) W u) e w'
set_option maxRecDepth 100000 in
set_option maxHeartbeats 8000000 in
theorem wdec_ok {P : List Value → Prop} (ht : LAt w a t) (hn : a = none → cap = 0) (hl : t.length ≤ 140737488355328)
    (MSG : ∀ W b a' cap', RdAt 97 W b a' cap' t ⟨0, 0⟩ → Calls Try.prog 35 #[.agg #[.pointer (some ⟨b, 0, none⟩)]] W fun e w' => MsR P W b e w') :
    Calls Try.prog 13 #[.slice a t.length cap] w fun e w' => DcP P w 0 e w' := by
  have hb1 := ((Below.refl w.heap.size w).alloc (Nat.le_refl _) (.cells (mgL mg0).toArray 41)).alloc (by simp) (.cells (mgL mg0).toArray 41)
  have H0 := hide (heap_old (.cells (mgL mg0).toArray 41) (heap_new w (.cells (mgL mg0).toArray 41)))
  have H1 := hide (heap_new (w.alloc (.cells (mgL mg0).toArray 41)) (.cells (mgL mg0).toArray 41))
  have hz1 : (w.alloc (.cells (mgL mg0).toArray 41)).heap.size = w.heap.size + 1 := by simp
  rw [hz1] at H1
  have hs2 : ((w.alloc (.cells (mgL mg0).toArray 41)).alloc (.cells (mgL mg0).toArray 41)).heap.size = w.heap.size + 2 := by simp
  have KN := hide (newreader_any ((w.alloc (.cells (mgL mg0).toArray 41)).alloc (.cells (mgL mg0).toArray 41)) a cap t (ht.later hb1) hn hl)
  have HB1 := hide hb1
  have HMSG := hide MSG
  have hmf : ∀ (fn : Fn) (first cap : Array Value) (w : World), (Instr.makeFunc fn first cap).run Try.prog w = .ok (.func fn first cap) w := fun _ _ _ _ => rfl
  clear ht hn hl hb1 hz1 MSG
  generalize t.length = tl at *
  go_enter Try.func13, Try.ntmps13
  go_upto_region 2 with fail
  change Code.wp _ _ _ _ ((w.alloc (.cells (mgL mg0).toArray 41)).alloc (.cells (mgL mg0).toArray 41))
  generalize (w.alloc (.cells (mgL mg0).toArray 41)).alloc (.cells (mgL mg0).toArray 41) = W2 at *
  go_wp2_with fail
  refine (unhide KN).mono ?_
  rintro e w3 ⟨b, a', cap', rfl, r3, b3, hb3, _⟩
  have bc := (Below.refl w3.heap.size w3).alloc (Nat.le_refl _) (.cells #[.pointer (some ⟨b, 0, none⟩)] 84)
  have R3 := hide (r3.later bc)
  have C3 := hide (heap_new w3 (.cells #[.pointer (some ⟨b, 0, none⟩)] 84))
  have H03 := hide (below_keep bc (below_keep b3 (unhide H0)))
  have H13 := hide (below_keep bc (below_keep b3 (unhide H1)))
  have b13 := ((unhide HB1).trans (b3.mono (unhide HB1).size)).trans (bc.mono (Nat.le_trans (unhide HB1).size b3.size))
  have B3 := hide b13
  have hbb : w.heap.size + 2 ≤ b := by omega
  have hbl : b < w3.heap.size := r3.lt
  have hw3 : w3.heap.size < (w3.alloc (.cells #[.pointer (some ⟨b, 0, none⟩)] 84)).heap.size := by simp
  clear r3 b3 hb3 bc b13 KN H0 H1 HB1 hs2
  go_upto_region 3 with fail
  generalize w3.alloc (.cells #[.pointer (some ⟨b, 0, none⟩)] 84) = W3 at *
  generalize w3.heap.size = c at *
  have b4 := (Below.refl W3.heap.size W3).alloc (Nat.le_refl _) (.cells #[.int .i64 0] 22)
  have R4 := (unhide R3).later b4
  have C4 := below_keep b4 (unhide C3)
  have H04 := below_keep b4 (unhide H03)
  have H14 := below_keep b4 (unhide H13)
  have HR4 := heap_new W3 (.cells #[.int .i64 0] 22)
  have B4 := (unhide B3).trans (b4.mono (unhide B3).size)
  have hz4 : (W3.alloc (.cells #[.int .i64 0] 22)).heap.size = W3.heap.size + 1 := by simp
  have KM := unhide HMSG (W3.alloc (.cells #[.int .i64 0] 22)) b a' cap' R4
  generalize hW4 : W3.alloc (.cells #[.int .i64 0] 22) = W4 at *
  have K1 := dec1_ok (mb := w.heap.size + 1) (cs := (mgL mg0).toArray) C4 (mg_size mg0) (R := fun L u => P L ∧ (L.length = 59 ∧ L.toArray.all (·.oneCell') = true) ∧ Touch (fun q => q = b ∨ W4.heap.size ≤ q) W4 u) (fun L u h => h.2.2.keep H14 (by omega)) KM
  have KT : Calls Try.prog 29 #[.func (.func 34) #[] #[.pointer (some ⟨c, 0, none⟩), .pointer (some ⟨w.heap.size + 1, 0, none⟩)]] W3 fun e w' => TD 0 (fun u => ∃ L : List Value, P L ∧ (L.length = 59 ∧ L.toArray.all (·.oneCell') = true) ∧ u.heap[w.heap.size + 1]? = some (.cells L.toArray 41) ∧ u.heap[w.heap.size]? = some (.cells (mgL mg0).toArray 41) ∧ Below w.heap.size w u) W3.heap.size e w' :=
    tried_ok enters_dec (by
      rw [hW4]
      refine K1.mono fun e w' h => ?_
      obtain ⟨he, L, u, ⟨p1, p2, p3⟩, h2, t2⟩ := h
      have s3 := p3.size
      refine ⟨he, t2.keep (p3.keep HR4 (by omega)) (by omega), L, p1, p2, h2, t2.keep (p3.keep H04 (by omega)) (by omega), ?_⟩
      exact below_touch (below_touch B4 p3 B4.size (fun k hk => by have := B4.size; omega)) t2 (by have := B4.size; omega) (fun k hk => by omega))
  have HKT := hide KT
  have hrl : w.heap.size + 2 ≤ W3.heap.size := by omega
  clear KT K1 KM hW4 B4 HR4 H14 H04 C4 R4 b4 hz4
  go_wp2_with fail
  refine (unhide HKT).mono ?_
  rintro e w5 ⟨rfl, u, ⟨L, p1, p2, h2, h3, b5⟩, t5⟩
  have A5 := hide (t5.keep h2 (by omega))
  have Z5 := hide (t5.keep h3 (by omega))
  have B5 := hide (below_touch b5 t5 b5.size (fun k hk => by omega))
  have HRG := hide (range_of (o := 0) (ds := L) (unhide A5) (fun j v hv => by rw [Nat.zero_add]; exact hv))
  have HT : Hid (w5.there w.heap.size 0 L.toArray.size) := hide (there_of (unhide Z5) (by rw [mg_size]; simp [p2.1]))
  have HI1 : Hid ((Try.prog.info? 41).map (·.size) = some L.length) := hide (by rw [info_msg, p2.1])
  have HI2 : Hid ((Try.prog.info? 41).map (·.size) = some L.toArray.size) := hide (by rw [info_msg]; simp [p2.1])
  have HW := hide p2.2
  have HLN := hide p2.1
  have HP := hide p1
  clear p1 p2 h2 h3 b5 t5 HKT
  go_wp2_with (first
    | (with_reducible (show wpList _ _ _ (Oper.mk _ (Op.load _ _) _ _ _ _ :: _) _ _); refine wpList_load_mid rfl 41 (.tmp 4) rfl (w.heap.size + 1) 0 rfl L _ (unhide HRG) Try.underlying41 rfl (unhide HI1) ?_)
    | (with_reducible (show wpList _ _ _ (Oper.mk _ (Op.store _ _ _) _ _ _ _ :: _) _ _); refine wpList_store_mid rfl 41 (.tmp 2) (.tmp 16) rfl w.heap.size 0 L.toArray rfl rfl (unhide HT) (unhide HI2) (unhide HW) ?_))
  obtain ⟨q1, q2⟩ := heap_setCells L 0 w5 _ (unhide Z5)
  rw [lay_all (by rw [mg_size, unhide HLN])] at q1
  have FF : Hid (DcP P w 0 (.returned (.tuple #[.agg L.toArray, .int .i64 0])) (w5.setCells w.heap.size 0 L)) := hide ⟨L, unhide HP, unhide HLN, rfl, below_touch (unhide B5) q2 (unhide B5).size (fun k hk => by omega)⟩
  refine bodyPost_ret (res_decL q1 (unhide HLN) rfl rfl) rfl ?_
  exact unhide FF
end
end Go.Proofs.Ytcekleconjmfjaa
