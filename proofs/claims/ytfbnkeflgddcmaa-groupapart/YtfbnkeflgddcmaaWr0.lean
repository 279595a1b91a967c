/-
  bytes.Clone, and codec.Writer's lay and refuse. Conditions: what is laid together has at most 2^47 bytes.
-/
import Derived.Test.YtfbnkeflgddcmaaLst
import Derived.Test.YtfbnkeflgddcmaaCodecMath
import Derived.Laws.BitsAllLaws
import Derived.Deep.RegionWith
import Derived.Deep.QuietTactic
import Derived.Laws.Pointers
import Derived.WalkLawsBesides
namespace Go.Proofs.Ytfbnkeflgddcmaa
open Go.RowKit
set_option linter.unusedVariables false

set_option maxRecDepth 100000 in
theorem clone_any (a : Option Addr) (l : List Nat) (cap : Nat) (w : World) (h : LAt w a l) (hn : a = none → cap = 0) (hl : l.length ≤ 140737488355328) :
    Calls Try.prog 43 #[.slice a l.length cap] w fun e w' => ∃ v, e = .returned v ∧ Row w' v l ∧ New w v ∧ Below w.heap.size w w' := by
  have hnil := fun (w : World) (a : Option Addr) (l c : Nat) => eql_nil (P := Try.prog) w 41 5 a l c Try.underlying41
  cases a with
  | none =>
    have hl0 : l = [] := by
      cases l with
      | nil => rfl
      | cons x r => obtain ⟨_, _, h1, _⟩ := h 0 (by simp); cases h1
    obtain rfl := hn rfl
    subst hl0
    clear h
    go_enter Try.func43, Try.ntmps43
    go_wp2
    go_returns
    exact ⟨_, rfl, Row.nil _, New.nil _, Below.refl _ _⟩
  | some x =>
    have H := hide h
    clear h
    go_enter Try.func43, Try.ntmps43
    have R0 := hide (Row.lit w [] (fun x hx => by cases hx) #[] rfl (by simp [maxLen]))
    go_wp2_with (at_builtin; refine wpList_row _ rfl (.tmp 5) (.tmp 6) rfl _ [] rfl (unhide R0) (some x) cap l rfl ((unhide H).keep ((Touch.refl (fun _ => False) w).alloc _) (fun _ _ _ h => h)) (fun h => by cases h) (by simpa using hl) ?_)
    intro v' w' r t m
    have K : Hid (Row w' v' l ∧ New w v' ∧ Below w.heap.size w w') := by
      refine ⟨r, fun k hk => ?_, ?_⟩
      · rcases m k hk with e | e
        · simp [Value.ownBlock] at e; omega
        · simp at e; omega
      · exact below_touch ((Below.refl _ w).alloc (Nat.le_refl _) _) t (by simp) (fun k hk => by simp [Value.ownBlock] at hk; omega)
    clear r t m R0 H
    go_wp2
    go_returns
    exact ⟨_, rfl, unhide K⟩

/-- The blocks of a writer. -/
def Mine (pv v : Value) (k : Nat) : Prop := pv = .pointer (some ⟨k, 0, none⟩) ∨ v.ownBlock = some k
/-- What a writer's call leaves. -/
structure Step (pv : Value) (w : World) (v : Value) (w' : World) (v' : Value) : Prop where
  moved : Moved w v v'
  touch : Touch (Mine pv v) w w'
theorem Step.refl (pv : Value) (w : World) (v : Value) : Step pv w v w v := ⟨Moved.refl _ _, Touch.refl _ _⟩
theorem Step.trans {pv : Value} {w w1 w2 : World} {v v1 v2 : Value} (h : Step pv w v w1 v1) (k : Step pv w1 v1 w2 v2) : Step pv w v w2 v2 := by
  refine ⟨fun i hi => ?_, ?_⟩
  · rcases k.moved i hi with e | e
    · exact h.moved i e
    · have := h.touch.size; right; omega
  · refine ⟨k.touch.os.trans h.touch.os, k.touch.tape.trans h.touch.tape, k.touch.output.trans h.touch.output, Nat.le_trans h.touch.size k.touch.size, fun i hi hs => ?_⟩
    rw [k.touch.block i (Nat.lt_of_lt_of_le hi h.touch.size) ?_, h.touch.block i hi hs]
    rintro (e | e)
    · exact hs (.inl e)
    · rcases h.moved i e with e | e
      · exact hs (.inr e)
      · omega
theorem Step.below {pv : Value} {w w1 w2 : World} {v v2 : Value} (hb : Below w.heap.size w w1) (k : Step pv w1 v w2 v2) (hv : ∀ i, v.ownBlock = some i → i < w.heap.size) : Step pv w v w2 v2 := by
  refine ⟨fun i hi => ?_, ?_⟩
  · rcases k.moved i hi with e | e
    · exact .inl e
    · have := hb.size; right; omega
  · exact (Touch.of_below (S := Mine pv v) hb).trans k.touch
def lays (long : Bool) (l x : List Nat) : List Nat := if long then l else l ++ x
theorem lays_lays (long : Bool) (l x y : List Nat) : lays long (lays long l x) y = lays long l (x ++ y) := by cases long <;> simp [lays]
theorem lays_nil (long : Bool) (l : List Nat) : lays long l [] = l := by cases long <;> simp [lays]
theorem lays_len (long : Bool) (l x : List Nat) : (lays long l x).length ≤ l.length + x.length := by cases long <;> simp [lays]

end Go.Proofs.Ytfbnkeflgddcmaa
