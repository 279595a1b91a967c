/-
  frame.Framer's Encode and Decode, and penstockref04's, by plain functions on lists. Conditions: the bytes are at most 2^47.
-/
import Derived.Test.YtcnmenfianeakacRd4
import Derived.Test.YtcnmenfianeakacRf2
import Derived.Test.YtcnmenfianeakacWCrcOwn
namespace Go.Proofs.Ytcnmenfianeakac
variable {Xo : Outer}
open Go.RowKit
set_option linter.unusedVariables false

/-- The sum of a list of bytes. -/
def sm (p : List Nat) : Nat := mor (fun i => p.getD i 0) 0 p.length
theorem sm_lt (p : List Nat) : sm p < 4294967296 := mor_lt _ _ _
/-- A payload's frame. -/
def fenc (p : List Nat) : List Nat := fix p.length ++ (fix (sm p) ++ p)
theorem fenc_len (p : List Nat) : (fenc p).length = 8 + p.length := by simp [fenc, fix]; omega
/-- The frame at the front: the payload, how many bytes the frame has, the error. -/
def dec (t : List Nat) : List Nat × Nat × Nat :=
  if t.length < 8 then ([], 0, 6) else if 4096 < unfix t 0 then ([], 0, 2) else if t.length < 8 + unfix t 0 then ([], 0, 6) else if sm ((t.drop 8).take (unfix t 0)) = unfix t 4 then ((t.drop 8).take (unfix t 0), 8 + unfix t 0, 0) else ([], 0, 8)

/-- New blocks don't count. -/
theorem touch_new {S R : Nat → Prop} {w w1 w2 : World} (t1 : Touch S w w1) (t2 : Touch R w1 w2) (h : ∀ k, R k → S k ∨ w.heap.size ≤ k) : Touch S w w2 :=
  ⟨t2.os.trans t1.os, t2.tape.trans t1.tape, t2.output.trans t1.output, Nat.le_trans t1.size t2.size, fun k hk hs => by
    rw [t2.block k (Nat.lt_of_lt_of_le hk t1.size) (fun hr => by rcases h k hr with e | e; exact hs e; omega), t1.block k hk hs]⟩

theorem at_of_v {w : World} {b : Nat} {v : Value} {l : List Nat} {long : Bool} (h : WrV w (.pointer (some ⟨b, 0, none⟩)) v l long) : WrAt w b v l long := by
  rcases h with ⟨h, _⟩ | ⟨b', h, h'⟩
  · cases h
  · cases h; exact h'


/-- What a call on a framer leaves: the framer is ready, and of the old blocks its own alone has turned. -/
structure Fdone (Xo : Outer) (w w' : World) (fb : Nat) : Prop where
  ready : Ready Xo w' fb
  touch : Touch (· = fb) w w'

section
variable {w : World} {fb : Nat} {a : Option Addr} {cap : Nat} {p : List Nat}

set_option maxRecDepth 100000 in
set_option maxHeartbeats 2000000 in
theorem fencode_any (hr : Ready Xo w fb) (hp : LAt w a p) (hn : a = none → cap = 0) (hs : 0 < p.length → ∀ x, a = some x → x.block ≠ fb) (h4 : p.length ≤ 4096) :
    Calls Try.prog 24 #[.pointer (some ⟨fb, 2, none⟩), .slice a p.length cap] w fun e w' => ∃ v, e = .returned (.tuple #[v, .int .i64 0]) ∧ Row w' v (fenc p) ∧ New w v ∧ Fdone Xo w w' fb := by
  have HR := hide hr
  have HP := hide hp
  have HS := hide hs
  have hfb := hr.lt
  have HB : Hid (0 < p.length → ∀ x, a = some x → x.block < w.heap.size) := fun h0 x hx => by
    obtain ⟨b', off', e1, e2, _⟩ := hp.cell h0
    rw [hx] at e1; cases e1; exact e2
  clear hr hp hs
  have h4' : ¬ (4096 : Int) < (p.length : Int) := by omega
  go_enter Try.func24, Try.ntmps24
  go_wp2_with fail
  refine (newwriter_any w).mono ?_
  rintro e w1 ⟨rfl, h1, b1⟩
  have K1 := hide (wfix_any (.pointer (some ⟨w.heap.size, 0, none⟩)) (.slice none 0 0) [] false p.length w1 (.inr ⟨_, rfl, h1⟩) (by omega) (by simp))
  have B1 := hide b1
  clear h1 b1
  go_wp2_with fail
  refine (unhide K1).mono ?_
  rintro e w2 ⟨rfl, v2, h2, s2⟩
  have hm1 : ∀ k, Mine (.pointer (some ⟨w.heap.size, 0, none⟩)) (.slice none 0 0) k → w.heap.size ≤ k := by
    rintro k (e | e)
    · cases e; exact Nat.le_refl _
    · simp [Value.ownBlock] at e
  have hm2 : ∀ k, Mine (.pointer (some ⟨w.heap.size, 0, none⟩)) v2 k → w.heap.size ≤ k := by
    rintro k (e | e)
    · cases e; exact Nat.le_refl _
    · rcases s2.moved k e with e | e
      · simp [Value.ownBlock] at e
      · have := (unhide B1).size; omega
  have B2 := hide (below_touch (unhide B1) s2.touch (unhide B1).size hm1)
  have HM2 := hide hm2
  have SU := hide (sum_any fb a p.length cap (fun i => p.getD i 0) w2 ((unhide HR).keep (Touch.of_below (S := fun _ => False) (unhide B2)) (fun h => h)) ((unhide HP).later (unhide B2)) (unhide HS) (by omega))
  have HW2 := hide h2
  clear h2 s2 hm1 hm2 K1
  go_wp2_with fail
  refine (unhide SU).mono ?_
  rintro e w3 ⟨rfl, h3, t3⟩
  have T3 := hide (touch_new (Touch.of_below (S := (· = fb)) (unhide B2)) t3 (fun k hk => .inl hk))
  have W3 := hide ((unhide HW2).keep t3 (fun k hk e => by have := unhide HM2 k hk; omega))
  have R3 : Hid (Ready Xo w3 fb) := .inr h3
  have ES : Hid (mor (fun i => p.getD i 0) 0 p.length = sm p) := rfl
  rw [unhide ES]
  have K3 := hide (wfix_any (.pointer (some ⟨w.heap.size, 0, none⟩)) v2 _ false (sm p) w3 (unhide W3) (sm_lt p) (by simp [lays, fix]))
  clear h3 t3 SU HW2 B1
  generalize hsm : sm p = q at *
  go_wp2_with fail
  refine (unhide K3).mono ?_
  rintro e w4 ⟨rfl, v4, h4w, s4⟩
  have T4 := hide (touch_new (unhide T3) s4.touch (fun k hk => .inr (unhide HM2 k hk)))
  have R4 := hide ((unhide R3).keep s4.touch (fun hm => by have := unhide HM2 fb hm; omega))
  have OU := hide (out_any w.heap.size v4 _ w4 (at_of_v h4w) (by simp [lays, fix]))
  clear h4w s4 K3
  go_wp2_with fail
  refine (unhide OU).mono ?_
  rintro e w5 ⟨vo, rfl, r5, n5, b5⟩
  have T5 := hide (touch_new (unhide T4) (Touch.of_below (S := fun _ => False) b5) (fun _ h => h.elim))
  have R5 := hide ((unhide R4).keep (Touch.of_below (S := fun _ => False) b5) (fun h => h))
  have hn5 := n5.mono (unhide T4).size
  have N5 := hide hn5
  have e5 : lays false (lays false [] (fix p.length)) (fix q) = fix p.length ++ fix q := by simp [lays]
  rw [e5] at r5
  obtain ⟨X, hX⟩ : ∃ X, X = fix p.length ++ fix q := ⟨_, rfl⟩
  have hXl : X.length = 8 := by rw [hX]; rfl
  have EX : Hid (X ++ p = fenc p) := by show X ++ p = fenc p; rw [hX]; unfold fenc; rw [hsm, List.append_assoc]
  rw [← hX] at r5
  have RR5 := hide r5
  obtain ⟨a5, m5, c5, rfl⟩ := r5.shape
  have P5 := hide ((unhide HP).keep (unhide T5) (unhide HS))
  clear r5 n5 hn5 b5 OU e5 hX
  go_wp2_with (at_builtin; refine wpList_row _ rfl (.tmp 35) (.tmp 36) rfl _ X rfl (unhide RR5) a cap p rfl (unhide P5) hn (by omega) ?_)
  intro v6 w6 r6 t6 m6
  rw [unhide EX] at r6
  have F : Hid (Row w6 v6 (fenc p) ∧ New w v6 ∧ Fdone Xo w w6 fb) := by
    refine ⟨r6, (unhide N5).moved m6 (unhide T5).size, (unhide R5).keep t6 (fun h => by have := unhide N5 fb h; omega), touch_new (unhide T5) t6 (fun k hk => .inr (unhide N5 k hk))⟩
  obtain ⟨a6, m6', c6, rfl⟩ := r6.shape
  clear r6 t6 m6
  go_wp2
  go_returns
  exact ⟨_, rfl, unhide F⟩

theorem fencode_long (ao : Option Addr) (n c : Nat) (h4 : 4096 < n) :
    Calls Try.prog 24 #[.pointer (some ⟨fb, 2, none⟩), .slice ao n c] w fun e w' => e = .returned (.tuple #[.slice none 0 0, .int .i64 2]) ∧ w' = w := by
  have h4' : (4096 : Int) < (n : Int) := by omega
  go_enter Try.func24, Try.ntmps24
  go_wp2
  go_returns
  exact ⟨rfl, rfl⟩
theorem fencode_nil (v : Value) :
    Calls Try.prog 24 #[.pointer none, v] w fun e w' => e = .returned (.tuple #[.slice none 0 0, .int .i64 5]) ∧ w' = w := by
  go_enter Try.func24, Try.ntmps24
  go_wp2
  go_returns
  exact ⟨rfl, rfl⟩

end
end Go.Proofs.Ytcnmenfianeakac
