/-
  wire.Decode's own function: what msg tells is laid into the message's box, or it gives up. Conditions: as each says.
-/
import Derived.Test.YtcekleconjmfjaaRq4
namespace Go.Proofs.Ytcekleconjmfjaa
open Go.RowKit
set_option linter.unusedVariables false

/-- What msg tells: 59 cells. -/
def MsT (R : List Value → World → Prop) (e : Ending) (w' : World) : Prop := ∃ L : List Value, e = .returned (.agg L.toArray) ∧ L.length = 59 ∧ L.toArray.all (·.oneCell') = true ∧ R L w'
def D1T (R : List Value → World → Prop) (mb : Nat) (e : Ending) (w' : World) : Prop := e = .returned (.tuple #[]) ∧ ∃ L u, R L u ∧ w'.heap[mb]? = some (.cells L.toArray 41) ∧ Touch (· = mb) u w'
section
variable {w : World} {b c mb : Nat} {cs : Array Value}
set_option maxHeartbeats 4000000 in
theorem dec1_ok {R : List Value → World → Prop} (hc : w.heap[c]? = some (.cells #[.pointer (some ⟨b, 0, none⟩)] 84)) (hcs : cs.size = 59) (hR : ∀ L u, R L u → u.heap[mb]? = some (.cells cs 41))
    (K : Calls Try.prog 35 #[.agg #[.pointer (some ⟨b, 0, none⟩)]] w fun e w' => MsT R e w') :
    Calls Try.prog 34 #[.pointer (some ⟨c, 0, none⟩), .pointer (some ⟨mb, 0, none⟩)] w fun e w' => D1T R mb e w' := by
  have z0 := cell_of hc 0
  simp at z0
  have HK := hide K
  have HR := hide hR
  clear K hR hc
  go_enter Try.func34, Try.ntmps34
  go_wp2_with fail
  refine (unhide HK).mono ?_
  rintro e w2 ⟨L, rfl, l2, o2, r2⟩
  have hh := unhide HR L w2 r2
  have HT := hide (there_of (o := 0) (n := L.toArray.size) hh (by simp [l2, hcs]))
  have HI : Hid ((Try.prog.info? 41).map (·.size) = some L.toArray.size) := hide (by rw [info_msg]; simp [l2])
  have HO := hide o2
  obtain ⟨q1, q2⟩ := heap_setCells L 0 w2 _ hh
  rw [lay_all (by rw [hcs, l2])] at q1
  have FF : Hid (D1T R mb (.returned (.tuple #[])) (w2.setCells mb 0 L)) := hide ⟨rfl, L, w2, r2, q1, q2⟩
  clear hh q1 q2 r2 o2 l2 z0 HK HR hcs
  go_wp2_with (with_reducible (show wpList _ _ _ (Oper.mk _ (Op.store _ _ _) _ _ _ _ :: _) _ _); refine wpList_store_mid rfl 41 (.tmp 1) (.tmp 3) rfl mb 0 L.toArray rfl rfl (unhide HT) (unhide HI) (unhide HO) ?_)
  go_returns
  exact unhide FF
set_option maxHeartbeats 4000000 in
theorem dec1_no {R : World → Prop} {E : Int} (hc : w.heap[c]? = some (.cells #[.pointer (some ⟨b, 0, none⟩)] 84))
    (K : Calls Try.prog 35 #[.agg #[.pointer (some ⟨b, 0, none⟩)]] w fun e w' => e = gone E ∧ R w') :
    Calls Try.prog 34 #[.pointer (some ⟨c, 0, none⟩), .pointer (some ⟨mb, 0, none⟩)] w fun e w' => e = gone E ∧ R w' := by
  have z0 := cell_of hc 0
  simp at z0
  have HK := hide K
  clear K hc
  go_enter Try.func34, Try.ntmps34
  go_wp2_with fail
  refine (unhide HK).mono ?_
  rintro e w2 ⟨rfl, r2⟩
  have R2 := hide r2
  clear r2
  go_wp2
  exact ⟨rfl, rfl, unhide R2⟩
end
end Go.Proofs.Ytcekleconjmfjaa
