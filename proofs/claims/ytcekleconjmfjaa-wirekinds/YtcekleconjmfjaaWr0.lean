/-
  bytes.Clone, and codec.Writer's lay and refuse. Conditions: what is laid together has at most 2^47 bytes.
-/
import Derived.Test.YtcekleconjmfjaaLst
import Derived.Test.YtcekleconjmfjaaCodecMath
import Derived.Laws.BitsAllLaws
import Derived.Deep.RegionWith
import Derived.Deep.QuietTactic
import Derived.Laws.Pointers
import Derived.WalkLawsBesides
namespace Go.Proofs.Ytcekleconjmfjaa
open Go.RowKit
set_option linter.unusedVariables false

set_option maxRecDepth 100000 in
theorem clone_any (a : Option Addr) (l : List Nat) (cap : Nat) (w : World) (h : LAt w a l) (hn : a = none → cap = 0) (hl : l.length ≤ 140737488355328) :
    Calls Try.prog 47 #[.slice a l.length cap] w fun e w' => ∃ v, e = .returned v ∧ Row w' v l ∧ New w v ∧ Below w.heap.size w w' := by
  have hnil := fun (w : World) (a : Option Addr) (l c : Nat) => eql_nil (P := Try.prog) w 24 5 a l c Try.underlying24
  cases a with
  | none =>
    have hl0 : l = [] := by
      cases l with
      | nil => rfl
      | cons x r => obtain ⟨_, _, h1, _⟩ := h 0 (by simp); cases h1
    obtain rfl := hn rfl
    subst hl0
    clear h
    go_enter Try.func47, Try.ntmps47
    go_wp2
    go_returns
    exact ⟨_, rfl, Row.nil _, New.nil _, Below.refl _ _⟩
  | some x =>
    have H := hide h
    clear h
    go_enter Try.func47, Try.ntmps47
    have R0 := hide (Row.lit w [] (fun x hx => by cases hx) #[] rfl (by simp [maxLen]))
    go_wp2_with (at_builtin; refine wpList_row _ rfl (.tmp 5) (.tmp 6) rfl _ [] rfl (unhide R0) (some x) cap l rfl ((unhide H).keep ((Touch.refl (fun _ => False) w).alloc _) (fun _ _ _ h => h)) (fun h => by cases h) (by simpa using hl) ?_)
    intro v' w' r t m
    have K : Hid (Row w' v' l ∧ New w v' ∧ Below w.heap.size w w') := by
      refine ⟨r, fun k hk => ?_, ?_⟩
      · rcases m k hk with e | e
        · simp [Value.ownBlock] at e; omega
        · simp at e; omega
      · exact below_touch ((Below.refl _ w).alloc (Nat.le_refl _) _) t (by simp) (fun k hk => by simp [Value.ownBlock] at hk; omega)
    clear r t m R0 H
    go_wp2
    go_returns
    exact ⟨_, rfl, unhide K⟩

/-- A writer's block: what was laid, and whether it has refused. -/
structure WrAt (w : World) (b : Nat) (v : Value) (l : List Nat) (long : Bool) : Prop where
  heap : w.heap[b]? = some (.cells #[v, .bool long] 90)
  row : Row w v l
  apart : ∀ k, v.ownBlock = some k → k ≠ b
/-- A writer, or none. -/
def WrV (w : World) (pv v : Value) (l : List Nat) (long : Bool) : Prop := (pv = .pointer none ∧ v = .slice none 0 0) ∨ ∃ b, pv = .pointer (some ⟨b, 0, none⟩) ∧ WrAt w b v l long
/-- The blocks of a writer. -/
def Mine (pv v : Value) (k : Nat) : Prop := pv = .pointer (some ⟨k, 0, none⟩) ∨ v.ownBlock = some k
/-- What a writer's call leaves. -/
structure Step (pv : Value) (w : World) (v : Value) (w' : World) (v' : Value) : Prop where
  moved : Moved w v v'
  touch : Touch (Mine pv v) w w'
theorem Step.refl (pv : Value) (w : World) (v : Value) : Step pv w v w v := ⟨Moved.refl _ _, Touch.refl _ _⟩
theorem Step.trans {pv : Value} {w w1 w2 : World} {v v1 v2 : Value} (h : Step pv w v w1 v1) (k : Step pv w1 v1 w2 v2) : Step pv w v w2 v2 := by
  refine ⟨fun i hi => ?_, ?_⟩
  · rcases k.moved i hi with e | e
    · exact h.moved i e
    · have := h.touch.size; right; omega
  · refine ⟨k.touch.os.trans h.touch.os, k.touch.tape.trans h.touch.tape, k.touch.output.trans h.touch.output, Nat.le_trans h.touch.size k.touch.size, fun i hi hs => ?_⟩
    rw [k.touch.block i (Nat.lt_of_lt_of_le hi h.touch.size) ?_, h.touch.block i hi hs]
    rintro (e | e)
    · exact hs (.inl e)
    · rcases h.moved i e with e | e
      · exact hs (.inr e)
      · omega
theorem Step.below {pv : Value} {w w1 w2 : World} {v v2 : Value} (hb : Below w.heap.size w w1) (k : Step pv w1 v w2 v2) (hv : ∀ i, v.ownBlock = some i → i < w.heap.size) : Step pv w v w2 v2 := by
  refine ⟨fun i hi => ?_, ?_⟩
  · rcases k.moved i hi with e | e
    · exact .inl e
    · have := hb.size; right; omega
  · exact (Touch.of_below (S := Mine pv v) hb).trans k.touch
theorem WrV.lt {w : World} {pv v : Value} {l : List Nat} {long : Bool} (h : WrV w pv v l long) : ∀ i, v.ownBlock = some i → i < w.heap.size := by
  rcases h with ⟨_, rfl⟩ | ⟨b, _, h⟩
  · intro i hi; simp [Value.ownBlock] at hi
  · exact h.row.lt
theorem WrV.mine {w : World} {pv v : Value} {l : List Nat} {long : Bool} (h : WrV w pv v l long) : ∀ i, Mine pv v i → i < w.heap.size := by
  intro i hi
  rcases hi with e | e
  · rcases h with ⟨e', _⟩ | ⟨b, e', h⟩
    · rw [e'] at e; cases e
    · rw [e'] at e; cases e; exact lt_of_heap h.heap
  · exact h.lt i e
theorem WrV.keep {w w' : World} {pv v : Value} {l : List Nat} {long : Bool} {S : Nat → Prop} (h : WrV w pv v l long) (t : Touch S w w') (hs : ∀ k, Mine pv v k → ¬ S k) : WrV w' pv v l long := by
  rcases h with h | ⟨b, e, h⟩
  · exact .inl h
  · exact .inr ⟨b, e, t.keep h.heap (hs b (.inl e)), h.row.keep t (fun k hk => hs k (.inr hk)), h.apart⟩
theorem WrV.later {w w' : World} {pv v : Value} {l : List Nat} {long : Bool} (h : WrV w pv v l long) (hb : Below w.heap.size w w') : WrV w' pv v l long := h.keep (Touch.of_below (S := fun _ => False) hb) (fun _ _ h => h)
def lays (long : Bool) (l x : List Nat) : List Nat := if long then l else l ++ x
theorem lays_lays (long : Bool) (l x y : List Nat) : lays long (lays long l x) y = lays long l (x ++ y) := by cases long <;> simp [lays]
theorem lays_nil (long : Bool) (l : List Nat) : lays long l [] = l := by cases long <;> simp [lays]
theorem lays_len (long : Bool) (l x : List Nat) : (lays long l x).length ≤ l.length + x.length := by cases long <;> simp [lays]

set_option maxRecDepth 100000 in
theorem lay_any (pv v : Value) (l : List Nat) (long : Bool) (ao : Option Addr) (c : Nat) (l2 : List Nat) (w : World) (h : WrV w pv v l long) (hb : LAt w ao l2) (hnone : ao = none → c = 0) (hlen : l.length + l2.length ≤ 140737488355328) :
    Calls Try.prog 84 #[pv, .slice ao l2.length c] w fun e w' => e = .returned (.tuple #[]) ∧ ∃ v', WrV w' pv v' (lays long l l2) long ∧ Step pv w v w' v' := by
  rcases h with ⟨rfl, rfl⟩ | ⟨b, rfl, h⟩
  · clear hb
    go_enter Try.func84, Try.ntmps84
    go_wp2
    go_returns
    exact ⟨rfl, _, .inl ⟨rfl, rfl⟩, Step.refl _ _ _⟩
  · have c0 : w.cell? ⟨b, 0, none⟩ = some v := by rw [cell_of h.heap]; rfl
    have c1 : w.cell? ⟨b, 1, none⟩ = some (.bool long) := by rw [cell_of h.heap]; rfl
    have H := hide h
    have HB := hide hb
    clear h hb
    cases long with
    | true =>
      go_enter Try.func84, Try.ntmps84
      go_wp2
      go_returns
      exact ⟨rfl, v, .inr ⟨b, rfl, unhide H⟩, Step.refl _ _ _⟩
    | false =>
      go_enter Try.func84, Try.ntmps84
      go_wp2_with (at_builtin; refine wpList_row _ rfl (.tmp 16) (.tmp 17) rfl v l rfl (unhide H).row ao c l2 rfl (unhide HB) hnone hlen ?_)
      intro v' w' r t m
      have hh : w'.heap[b]? = some (.cells #[v, .bool false] 90) := t.keep (unhide H).heap (fun hk => (unhide H).apart b hk rfl)
      have z0 : w'.frozen? ⟨b, 0, none⟩ = false := frozen_of hh 0
      have c0' : w'.cell? ⟨b, 0, none⟩ = some v := by rw [cell_of hh]; rfl
      have hv' : ∀ k, v'.ownBlock = some k → k ≠ b := fun k hk => by
        rcases m k hk with e | e
        · exact (unhide H).apart k e
        · have := lt_of_heap (unhide H).heap; omega
      have K : Hid (WrV (w'.setCell ⟨b, 0, none⟩ v') (.pointer (some ⟨b, 0, none⟩)) v' (lays false l l2) false ∧ Step (.pointer (some ⟨b, 0, none⟩)) w v (w'.setCell ⟨b, 0, none⟩ v') v') := by
        refine ⟨.inr ⟨b, rfl, by rw [heap_set hh]; rfl, r.keep (touch_set w' b 0 v') (fun k hk e => hv' k hk e), hv'⟩, m, ?_⟩
        exact (t.mono (fun k hk => .inr hk)).setCell (p := ⟨b, 0, none⟩) (.inl rfl) v'
      obtain ⟨a', n', cap', rfl⟩ := r.shape
      clear r t m H HB hh
      go_wp2
      go_returns
      exact ⟨rfl, _, unhide K⟩

set_option maxRecDepth 100000 in
theorem refuse_any (pv v : Value) (l : List Nat) (long : Bool) (w : World) (h : WrV w pv v l long) :
    Calls Try.prog 83 #[pv] w fun e w' => e = .returned (.tuple #[]) ∧ WrV w' pv (.slice none 0 0) [] true ∧ Step pv w v w' (.slice none 0 0) := by
  rcases h with ⟨rfl, rfl⟩ | ⟨b, rfl, h⟩
  · go_enter Try.func83, Try.ntmps83
    go_wp2
    go_returns
    exact ⟨rfl, .inl ⟨rfl, rfl⟩, Step.refl _ _ _⟩
  · have c0 : w.cell? ⟨b, 0, none⟩ = some v := by rw [cell_of h.heap]; rfl
    have z0 := frozen_of h.heap 0
    have z1 := frozen_of h.heap 1
    have c1 : w.cell? ⟨b, 1, none⟩ = some (.bool long) := by rw [cell_of h.heap]; rfl
    have hh1 := heap_set h.heap 0 (.slice none 0 0)
    have hh2 := heap_set hh1 1 (.bool true)
    have K : Hid (WrV ((w.setCell ⟨b, 0, none⟩ (.slice none 0 0)).setCell ⟨b, 1, none⟩ (.bool true)) (.pointer (some ⟨b, 0, none⟩)) (.slice none 0 0) [] true ∧ Step (.pointer (some ⟨b, 0, none⟩)) w v ((w.setCell ⟨b, 0, none⟩ (.slice none 0 0)).setCell ⟨b, 1, none⟩ (.bool true)) (.slice none 0 0)) := by
      refine ⟨.inr ⟨b, rfl, by rw [hh2]; rfl, Row.nil _, fun k hk => by simp [Value.ownBlock] at hk⟩, fun k hk => by simp [Value.ownBlock] at hk, ?_⟩
      exact ((Touch.refl _ w).setCell (p := ⟨b, 0, none⟩) (.inl rfl) _).setCell (p := ⟨b, 1, none⟩) (.inl rfl) _
    clear h hh1 hh2
    go_enter Try.func83, Try.ntmps83
    go_wp2
    go_returns
    exact ⟨rfl, unhide K⟩
end Go.Proofs.Ytcekleconjmfjaa
