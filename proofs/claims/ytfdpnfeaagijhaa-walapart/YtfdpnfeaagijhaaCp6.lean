/-
  The law's copied. Conditions: at most 2^40 payloads, each of at most 4096 bytes.
-/
import Derived.Test.YtfdpnfeaagijhaaWt0

namespace Go.Proofs.Ytfdpnfeaagijhaa
open Go.RowKit
set_option linter.unusedVariables false

def CoPost (w : World) (ls : List (List Nat)) (e : Ending) (w' : World) : Prop := ∃ v, e = .returned v ∧ Paid w w' v ls ∧ New w v ∧ Below w.heap.size w w'
/-- What the loop has. -/
def Copied (w wr : World) (v : Value) (ls : List (List Nat)) : Prop := Paid w wr v ls ∧ New w v ∧ Below w.heap.size w wr
theorem take_succ_l {ls : List (List Nat)} {k : Nat} (h : k < ls.length) : ls.take (k + 1) = ls.take k ++ [ls.getD k []] := by
  rw [List.take_add_one]
  simp [List.getD, h]

set_option maxRecDepth 100000 in
set_option maxHeartbeats 4000000 in
theorem copied_any (w : World) (a : Option Addr) (cap : Nat) (ls : List (List Nat)) (hp : RAt w a ls) (hl : ls.length ≤ 1099511627776) (h4 : ∀ p ∈ ls, p.length ≤ 4096) :
    Calls Try.prog 10 #[.slice a ls.length cap] w fun e w' => CoPost w ls e w' := by
  have HP := hide hp
  have H4 := hide h4
  clear hp h4
  go_enter Try.func10, Try.ntmps10
  go_wp2_with fail
  go_loopw [3, 8] (fun pv pl wr => ∃ (v1 : Value) (k : Nat), v1 = pv ∧ k ≤ ls.length ∧ pl = .int .i64 k ∧ Copied w wr v1 (ls.take k)) (fun _ pl _ => ls.length - (intOf pl).toNat)
  case atStart => exact ⟨_, 0, rfl, Nat.zero_le _, rfl, ⟨[], Spine.nil _ _⟩, New.nil _, Below.refl _ _⟩
  case round =>
    obtain ⟨v1, k, rfl, hk, rfl, ⟨vs, hsp⟩, hnw, hbl⟩ := hrel
    have HSP := hide hsp
    have HNW := hide hnw
    have HBL := hide hbl
    obtain ⟨a1, m1, c1, rfl⟩ := hsp.shape
    clear hsp hnw hbl
    by_cases hkc : k < ls.length
    · have hkc' : (k : Int) < (ls.length : Int) := by omega
      obtain ⟨b, off, x, c, rfl, _, hcell, lx, hnx⟩ := ((unhide HP).later (unhide HBL)).cell hkc
      have hp4 : (ls.getD k []).length ≤ 4096 := unhide H4 _ (getD_mem_l hkc)
      have ET := hide (take_succ_l hkc)
      have hvl : vs.length ≤ 1099511627776 := by have := (unhide HSP).len; rw [List.length_take] at this; omega
      have LX := hide lx
      clear lx
      generalize ls.getD k [] = p at *
      have R0 := hide (Row.lit wr [] (fun x hx => by cases hx) #[] rfl (by simp [maxLen]))
      go_wp2_with (at_builtin; refine wpList_row _ rfl (.tmp 13) (.tmp 14) rfl _ [] rfl (unhide R0) x c p rfl ((unhide LX).keep ((Touch.refl (fun _ => False) wr).alloc _) (fun _ _ _ h => h)) hnx (by simp; omega) ?_)
      intro v3 w3 r3 t3 m3
      have F3 := fresh_copy4 r3 t3 m3
      have FR3 := hide F3
      obtain ⟨a3, n3, c3, rfl⟩ := r3.shape
      have SP3 : Hid (Spine (Mine4 w w3) w3 (.slice a1 m1 c1) vs (ls.take k)) := ((unhide HSP).later F3.2.2).imp (fun u l h => ⟨h.1.later F3.2.2, h.2⟩)
      have O4 : Hid (Own (w3.alloc (.cells #[.slice a3 n3 c3] 32)) 32 (.slice a1 m1 c1) vs) := (unhide SP3).own.later ((Below.refl _ _).alloc (Nat.le_refl _) _)
      have hu : (w3.alloc (.cells #[.slice a3 n3 c3] 32)).cell? ⟨w3.heap.size, 0, none⟩ = some (.slice a3 n3 c3) := cell_of (heap_new _ _) 0
      have HU := hide hu
      clear hu F3 r3 t3 m3 R0
      go_wp2_with (at_builtin; refine wpList_elem _ rfl (.tmp 12) (.tmp 16) rfl (.slice a1 m1 c1) vs rfl (unhide O4) w3.heap.size (.slice a3 n3 c3) rfl (unhide HU) rfl hvl ?_)
      intro v5 w5 o5 t5 m5
      have hA : Touch (fun _ => False) w3 (w3.alloc (.cells #[.slice a3 n3 c3] 32)) := (Touch.refl _ _).alloc _
      have hrA : ∀ (x : Value) (l : List Nat), Row w3 x l → Row w5 x l := fun x l hx => (hx.keep hA (fun _ _ h => h)).keep t5 (fun k hk e => Spine.apart (unhide O4) (hx.keep hA (fun _ _ h => h)) k hk e)
      have hsz : w.heap.size ≤ wr.heap.size := (unhide HBL).size
      have hsz3 : wr.heap.size ≤ w3.heap.size := (unhide FR3).2.2.size
      have NX : Hid (Copied w w5 v5 (ls.take k ++ [p])) := by
        refine ⟨⟨_, ((unhide SP3).imp (F := Mine4 w w5) (fun u l h => ⟨hrA u l h.1, h.2⟩)).push o5 ⟨hrA _ _ (unhide FR3).1, (unhide FR3).2.1.mono hsz⟩⟩, (unhide HNW).moved m5 (by simp; omega), ?_⟩
        exact below_touch (below_touch ((unhide HBL).trans ((unhide FR3).2.2.mono hsz)) hA (by omega) (fun _ h => h.elim)) t5 (by simp; omega) (fun j hj => unhide HNW j hj)
      rw [← unhide ET] at NX
      obtain ⟨a5, n5, c5, rfl⟩ : ∃ a n c, v5 = Value.slice a n c := by obtain ⟨a, cap, e, _⟩ := o5.parts; exact ⟨a, _, cap, e⟩
      clear o5 t5 m5 hA hrA O4 HU SP3 FR3 HNW HBL HSP LX
      go_wp2
      go_roundw
      case rel => exact ⟨_, k + 1, rfl, by omega, by go_num, unhide NX⟩
      case measure => simp [intOf]; omega
    · have hkc' : ¬ (k : Int) < (ls.length : Int) := by omega
      obtain rfl : k = ls.length := by omega
      rw [List.take_length] at HSP
      go_wp2
      go_returns
      exact ⟨_, rfl, ⟨vs, unhide HSP⟩, unhide HNW, unhide HBL⟩
end Go.Proofs.Ytfdpnfeaagijhaa
