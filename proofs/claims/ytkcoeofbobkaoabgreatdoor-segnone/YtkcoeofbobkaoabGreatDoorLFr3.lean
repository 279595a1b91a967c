/-
  penstockref04.DocDecode, and 'awake' of layer 4. Conditions: the bytes are at most 2^47.
-/
import Derived.Test.YtkcoeofbobkaoabGreatDoorRd4
import Derived.Test.YtkcoeofbobkaoabGreatDoorRf2
import Derived.Test.YtkcoeofbobkaoabGreatDoorLCrcOwn
import Derived.Laws.IdiomStrings
import Derived.Lib.SlBytesConst

/-
  frame.Framer's Encode and Decode, and penstockref04's, by plain functions on lists. Conditions: the bytes are at most 2^47.
-/
namespace Go.Proofs.YtkcoeofbobkaoabGreatDoor
variable {Xo : Outer}
open Go.RowKit
set_option linter.unusedVariables false

/-- The sum of a list of bytes. -/
def sm (p : List Nat) : Nat := mor (fun i => p.getD i 0) 0 p.length
theorem sm_lt (p : List Nat) : sm p < 4294967296 := mor_lt _ _ _
/-- A payload's frame. -/
def fenc (p : List Nat) : List Nat := fix p.length ++ (fix (sm p) ++ p)
theorem fenc_len (p : List Nat) : (fenc p).length = 8 + p.length := by simp [fenc, fix]; omega
/-- The frame at the front: the payload, how many bytes the frame has, the error. -/
def dec (t : List Nat) : List Nat × Nat × Nat :=
  if t.length < 8 then ([], 0, 6) else if 4096 < unfix t 0 then ([], 0, 2) else if t.length < 8 + unfix t 0 then ([], 0, 6) else if sm ((t.drop 8).take (unfix t 0)) = unfix t 4 then ((t.drop 8).take (unfix t 0), 8 + unfix t 0, 0) else ([], 0, 8)

/-- New blocks don't count. -/
theorem touch_new {S R : Nat → Prop} {w w1 w2 : World} (t1 : Touch S w w1) (t2 : Touch R w1 w2) (h : ∀ k, R k → S k ∨ w.heap.size ≤ k) : Touch S w w2 :=
  ⟨t2.os.trans t1.os, t2.tape.trans t1.tape, t2.output.trans t1.output, Nat.le_trans t1.size t2.size, fun k hk hs => by
    rw [t2.block k (Nat.lt_of_lt_of_le hk t1.size) (fun hr => by rcases h k hr with e | e; exact hs e; omega), t1.block k hk hs]⟩

theorem at_of_v {w : World} {b : Nat} {v : Value} {l : List Nat} {long : Bool} (h : WrV w (.pointer (some ⟨b, 0, none⟩)) v l long) : WrAt w b v l long := by
  rcases h with ⟨h, _⟩ | ⟨b', h, h'⟩
  · cases h
  · cases h; exact h'


/-- What a call on a framer leaves: the framer is ready, and of the old blocks its own alone has turned. -/
structure Fdone (Xo : Outer) (w w' : World) (fb : Nat) : Prop where
  ready : Ready Xo w' fb
  touch : Touch (· = fb) w w'

section
variable {w : World} {fb : Nat} {a : Option Addr} {cap : Nat} {p : List Nat}

set_option maxRecDepth 100000 in
set_option maxHeartbeats 2000000 in
theorem fencode_any (hr : Ready Xo w fb) (hp : LAt w a p) (hn : a = none → cap = 0) (hs : 0 < p.length → ∀ x, a = some x → x.block ≠ fb) (h4 : p.length ≤ 4096) :
    Calls Tryz.prog 52 #[.pointer (some ⟨fb, 2, none⟩), .slice a p.length cap] w fun e w' => ∃ v, e = .returned (.tuple #[v, .int .i64 0]) ∧ Row w' v (fenc p) ∧ New w v ∧ Fdone Xo w w' fb := by
  have HR := hide hr
  have HP := hide hp
  have HS := hide hs
  have hfb := hr.lt
  have HB : Hid (0 < p.length → ∀ x, a = some x → x.block < w.heap.size) := fun h0 x hx => by
    obtain ⟨b', off', e1, e2, _⟩ := hp.cell h0
    rw [hx] at e1; cases e1; exact e2
  clear hr hp hs
  have h4' : ¬ (4096 : Int) < (p.length : Int) := by omega
  go_enter Tryz.func52, Tryz.ntmps52
  go_wp2_with fail
  refine (newwriter_any w).mono ?_
  rintro e w1 ⟨rfl, h1, b1⟩
  have K1 := hide (wfix_any (.pointer (some ⟨w.heap.size, 0, none⟩)) (.slice none 0 0) [] false p.length w1 (.inr ⟨_, rfl, h1⟩) (by omega) (by simp))
  have B1 := hide b1
  clear h1 b1
  go_wp2_with fail
  refine (unhide K1).mono ?_
  rintro e w2 ⟨rfl, v2, h2, s2⟩
  have hm1 : ∀ k, Mine (.pointer (some ⟨w.heap.size, 0, none⟩)) (.slice none 0 0) k → w.heap.size ≤ k := by
    rintro k (e | e)
    · cases e; exact Nat.le_refl _
    · simp [Value.ownBlock] at e
  have hm2 : ∀ k, Mine (.pointer (some ⟨w.heap.size, 0, none⟩)) v2 k → w.heap.size ≤ k := by
    rintro k (e | e)
    · cases e; exact Nat.le_refl _
    · rcases s2.moved k e with e | e
      · simp [Value.ownBlock] at e
      · have := (unhide B1).size; omega
  have B2 := hide (below_touch (unhide B1) s2.touch (unhide B1).size hm1)
  have HM2 := hide hm2
  have SU := hide (sum_any fb a p.length cap (fun i => p.getD i 0) w2 ((unhide HR).keep (Touch.of_below (S := fun _ => False) (unhide B2)) (fun h => h)) ((unhide HP).later (unhide B2)) (unhide HS) (by omega))
  have HW2 := hide h2
  clear h2 s2 hm1 hm2 K1
  go_wp2_with fail
  refine (unhide SU).mono ?_
  rintro e w3 ⟨rfl, h3, t3⟩
  have T3 := hide (touch_new (Touch.of_below (S := (· = fb)) (unhide B2)) t3 (fun k hk => .inl hk))
  have W3 := hide ((unhide HW2).keep t3 (fun k hk e => by have := unhide HM2 k hk; omega))
  have R3 : Hid (Ready Xo w3 fb) := .inr h3
  have ES : Hid (mor (fun i => p.getD i 0) 0 p.length = sm p) := rfl
  rw [unhide ES]
  have K3 := hide (wfix_any (.pointer (some ⟨w.heap.size, 0, none⟩)) v2 _ false (sm p) w3 (unhide W3) (sm_lt p) (by simp [lays, fix]))
  clear h3 t3 SU HW2 B1
  generalize hsm : sm p = q at *
  go_wp2_with fail
  refine (unhide K3).mono ?_
  rintro e w4 ⟨rfl, v4, h4w, s4⟩
  have T4 := hide (touch_new (unhide T3) s4.touch (fun k hk => .inr (unhide HM2 k hk)))
  have R4 := hide ((unhide R3).keep s4.touch (fun hm => by have := unhide HM2 fb hm; omega))
  have OU := hide (out_any w.heap.size v4 _ w4 (at_of_v h4w) (by simp [lays, fix]))
  clear h4w s4 K3
  go_wp2_with fail
  refine (unhide OU).mono ?_
  rintro e w5 ⟨vo, rfl, r5, n5, b5⟩
  have T5 := hide (touch_new (unhide T4) (Touch.of_below (S := fun _ => False) b5) (fun _ h => h.elim))
  have R5 := hide ((unhide R4).keep (Touch.of_below (S := fun _ => False) b5) (fun h => h))
  have hn5 := n5.mono (unhide T4).size
  have N5 := hide hn5
  have e5 : lays false (lays false [] (fix p.length)) (fix q) = fix p.length ++ fix q := by simp [lays]
  rw [e5] at r5
  obtain ⟨X, hX⟩ : ∃ X, X = fix p.length ++ fix q := ⟨_, rfl⟩
  have hXl : X.length = 8 := by rw [hX]; rfl
  have EX : Hid (X ++ p = fenc p) := by show X ++ p = fenc p; rw [hX]; unfold fenc; rw [hsm, List.append_assoc]
  rw [← hX] at r5
  have RR5 := hide r5
  obtain ⟨a5, m5, c5, rfl⟩ := r5.shape
  have P5 := hide ((unhide HP).keep (unhide T5) (unhide HS))
  clear r5 n5 hn5 b5 OU e5 hX
  go_wp2_with (at_builtin; refine wpList_row _ rfl (.tmp 35) (.tmp 36) rfl _ X rfl (unhide RR5) a cap p rfl (unhide P5) hn (by omega) ?_)
  intro v6 w6 r6 t6 m6
  rw [unhide EX] at r6
  have F : Hid (Row w6 v6 (fenc p) ∧ New w v6 ∧ Fdone Xo w w6 fb) := by
    refine ⟨r6, (unhide N5).moved m6 (unhide T5).size, (unhide R5).keep t6 (fun h => by have := unhide N5 fb h; omega), touch_new (unhide T5) t6 (fun k hk => .inr (unhide N5 k hk))⟩
  obtain ⟨a6, m6', c6, rfl⟩ := r6.shape
  clear r6 t6 m6
  go_wp2
  go_returns
  exact ⟨_, rfl, unhide F⟩

theorem fencode_long (ao : Option Addr) (n c : Nat) (h4 : 4096 < n) :
    Calls Tryz.prog 52 #[.pointer (some ⟨fb, 2, none⟩), .slice ao n c] w fun e w' => e = .returned (.tuple #[.slice none 0 0, .int .i64 2]) ∧ w' = w := by
  have h4' : (4096 : Int) < (n : Int) := by omega
  go_enter Tryz.func52, Tryz.ntmps52
  go_wp2
  go_returns
  exact ⟨rfl, rfl⟩
theorem fencode_nil (v : Value) :
    Calls Tryz.prog 52 #[.pointer none, v] w fun e w' => e = .returned (.tuple #[.slice none 0 0, .int .i64 5]) ∧ w' = w := by
  go_enter Tryz.func52, Tryz.ntmps52
  go_wp2
  go_returns
  exact ⟨rfl, rfl⟩

set_option maxRecDepth 100000 in
set_option maxHeartbeats 2000000 in
theorem docenc_any (hp : LAt w a p) (hn : a = none → cap = 0) (h4 : p.length ≤ 4096) :
    Calls Tryz.prog 7 #[.slice a p.length cap] w fun e w' => ∃ v, e = .returned (.tuple #[v, .int .i64 0]) ∧ Fresh w w' v (fenc p) := by
  have HP := hide hp
  clear hp
  have h4' : ¬ (4096 : Int) < (p.length : Int) := by omega
  go_enter Tryz.func7, Tryz.ntmps7
  go_wp2_with fail
  refine (efix_any p.length w (by omega)).mono ?_
  rintro e w1 ⟨v1, rfl, f1⟩
  have F1 := hide f1
  have MO := hide (refmore_any 0 a p.length cap (fun i => p.getD i 0) w1 (by omega) ((unhide HP).later f1.2.2) (by omega))
  clear f1
  go_wp2_with fail
  refine (unhide MO).mono ?_
  rintro e w2 ⟨rfl, rfl⟩
  have ES : Hid (mor (fun i => p.getD i 0) 0 p.length = sm p) := rfl
  rw [unhide ES]
  have hq := sm_lt p
  generalize hsm : sm p = q at *
  go_wp2_with fail
  refine (efix_any q w2 hq).mono ?_
  rintro e w3 ⟨v3, rfl, f3⟩
  obtain ⟨Y, hY⟩ : ∃ Y, Y = fix q := ⟨_, rfl⟩
  obtain ⟨X, hX⟩ : ∃ X, X = fix p.length := ⟨_, rfl⟩
  have hXl : X.length ≤ 4 := by rw [hX]; exact Nat.le_refl _
  have hYl : Y.length ≤ 4 := by rw [hY]; exact Nat.le_refl _
  have EX : Hid (X ++ Y ++ p = fenc p) := by show X ++ Y ++ p = fenc p; rw [hX, hY]; unfold fenc; rw [hsm, List.append_assoc]
  rw [← hY] at f3
  rw [← hX] at F1
  obtain ⟨a3, c3, rfl, l3, _, _, n3, _⟩ := f3.1.parts
  have B3 := hide f3.2.2
  have L3 := hide l3
  have R3 := hide ((unhide F1).1.later f3.2.2)
  obtain ⟨a1, m1, c1, rfl⟩ := (unhide F1).1.shape
  clear f3 l3 MO hX hY
  go_wp2_with (at_builtin; refine wpList_row _ rfl (.tmp 12) (.tmp 15) rfl _ X rfl (unhide R3) a3 c3 Y rfl (unhide L3) n3 (by omega) ?_)
  intro v4 w4 r4 t4 m4
  have F4 := hide (fresh_app (unhide F1) (unhide B3) r4 t4 m4)
  have R4 := hide r4
  obtain ⟨a4, m4', c4, rfl⟩ := r4.shape
  have P4 := hide ((unhide HP).later (unhide F4).2.2)
  have hXY : (X ++ Y).length ≤ 8 := by rw [List.length_append]; omega
  generalize hZ : X ++ Y = Z at *
  clear r4 t4 m4 R3 L3 B3 F1
  go_wp2_with (at_builtin; refine wpList_row _ rfl (.tmp 17) (.tmp 18) rfl _ Z rfl (unhide R4) a cap p rfl (unhide P4) hn (by omega) ?_)
  intro v6 w6 r6 t6 m6
  have F6 := fresh_app (unhide F4) (Below.refl _ _) r6 t6 m6
  rw [unhide EX] at F6
  obtain ⟨a6, m6', c6, rfl⟩ := r6.shape
  have FF := hide F6
  clear r6 t6 m6 F6
  go_wp2
  go_returns
  exact ⟨_, rfl, unhide FF⟩
theorem docenc_long (n : Nat) (h4 : 4096 < n) :
    Calls Tryz.prog 7 #[.slice a n cap] w fun e w' => e = .returned (.tuple #[.slice none 0 0, .int .i64 2]) ∧ w' = w := by
  have h4' : (4096 : Int) < (n : Int) := by omega
  go_enter Tryz.func7, Tryz.ntmps7
  go_wp2
  go_returns
  exact ⟨rfl, rfl⟩
end
end Go.Proofs.YtkcoeofbobkaoabGreatDoor


/-
  frame.Framer's Decode, and penstockref04's; 'awake' of layer 4. Conditions: the bytes are at most 2^47.
-/
namespace Go.Proofs.YtkcoeofbobkaoabGreatDoor
variable {Xo : Outer}
open Go.RowKit
set_option linter.unusedVariables false

theorem unfix_lt {t : List Nat} (h : ∀ x ∈ t, x < 256) {p : Nat} (hp : p + 4 ≤ t.length) : unfix t p < 4294967296 := by
  have h0 : t.getD p 0 < 256 := h _ (getD_mem (by omega))
  have h1 : t.getD (p + 1) 0 < 256 := h _ (getD_mem (by omega))
  have h2 : t.getD (p + 2) 0 < 256 := h _ (getD_mem (by omega))
  have h3 : t.getD (p + 3) 0 < 256 := h _ (getD_mem (by omega))
  unfold unfix; omega
theorem getD_take {t : List Nat} {n i : Nat} (h : i < n) : (t.take n).getD i 0 = t.getD i 0 := by simp [List.getD, h]
theorem unfix_take {t : List Nat} {p n : Nat} (h : p + 3 < n) : unfix (t.take n) p = unfix t p := by
  unfold unfix
  rw [getD_take (by omega), getD_take (by omega), getD_take (by omega), getD_take (by omega)]
theorem unfix_drop (t : List Nat) (k p : Nat) : unfix (t.drop k) p = unfix t (k + p) := by
  unfold unfix
  simp [List.getD, Nat.add_assoc]
theorem rX_ok {t : List Nat} {p : Nat} (h : p + 4 ≤ t.length) : rX t ⟨p, 0⟩ = (unfix t p, ⟨p + 4, 0⟩) := by unfold rX; rw [if_pos rfl, if_pos h]
theorem rX_few {t : List Nat} {p : Nat} (h : ¬ p + 4 ≤ t.length) : rX t ⟨p, 0⟩ = (0, ⟨p, 6⟩) := by unfold rX; rw [if_pos rfl, if_neg h]

theorem slice_8 (a : Option Addr) (len cap n : Nat) (hn : 8 + n ≤ cap) (w : World) : (Instr.slice 23 (.slice a len cap) (some (.int .i64 8)) (some (.int .i64 (8 + (n : Int)))) none).run Tryz.prog w = .ok (.slice (cut a 8 cap) n (cap - 8)) w := slice_lh a len cap 8 n hn w
theorem slice_h8 (a : Option Addr) (len cap : Nat) (hn : 8 ≤ cap) (w : World) : (Instr.slice 23 (.slice a len cap) none (some (.int .i64 8)) none).run Tryz.prog w = .ok (.slice a 8 cap) w := slice_h a len cap 8 hn w

section
variable {w : World} {fb : Nat} {a : Option Addr} {cap : Nat} {t : List Nat}

set_option maxRecDepth 100000 in
set_option maxHeartbeats 4000000 in
theorem fdecode_any (hr : Ready Xo w fb) (hp : LAt w a t) (hn : a = none → cap = 0) (hc : t.length ≤ cap) (hs : 0 < t.length → ∀ x, a = some x → x.block ≠ fb) (hl : t.length ≤ 140737488355328) :
    Calls Tryz.prog 121 #[.pointer (some ⟨fb, 2, none⟩), .slice a t.length cap] w fun e w' => ∃ v, e = .returned (.tuple #[v, .int .i64 ((dec t).2.1 : Nat), .int .i64 ((dec t).2.2 : Nat)]) ∧ Row w' v (dec t).1 ∧ New w v ∧ Fdone Xo w w' fb := by
  have HR := hide hr
  have HP := hide hp
  have HS := hide hs
  have hfb := hr.lt
  have hy := hp.bytes
  have hD : dec t = if t.length < 8 then ([], 0, 6) else if 4096 < unfix t 0 then ([], 0, 2) else if t.length < 8 + unfix t 0 then ([], 0, 6) else if sm ((t.drop 8).take (unfix t 0)) = unfix t 4 then ((t.drop 8).take (unfix t 0), 8 + unfix t 0, 0) else ([], 0, 8) := rfl
  clear hr hp hs
  generalize dec t = D at *
  by_cases h8 : t.length < 8
  · rw [if_pos h8] at hD
    subst hD
    have h8' : (t.length : Int) < 8 := by omega
    go_enter Tryz.func121, Tryz.ntmps121
    go_wp2
    go_returns
    exact ⟨_, rfl, Row.nil _, New.nil _, unhide HR, Touch.refl _ _⟩
  rw [if_neg h8] at hD
  have h8' : ¬ (t.length : Int) < 8 := by omega
  have hs8 := slice_h8 a t.length cap (by omega)
  have hl8 : (t.take 8).length = 8 := by rw [List.length_take]; omega
  have NR := newreader_any w a cap (t.take 8) ((unhide HP).take 8) hn (by omega)
  rw [hl8] at NR
  have NRH := hide NR
  have X1 : Hid (rX (t.take 8) ⟨0, 0⟩ = (unfix t 0, ⟨4, 0⟩)) := by
    have := rX_ok (t := t.take 8) (p := 0) (by omega)
    rw [unfix_take (by omega)] at this; exact this
  have X2 : Hid (rX (t.take 8) ⟨4, 0⟩ = (unfix t 4, ⟨8, 0⟩)) := by
    have := rX_ok (t := t.take 8) (p := 4) (by omega)
    rw [unfix_take (by omega)] at this; exact this
  have hn0 := unfix_lt hy (p := 0) (by omega)
  have hn4 := unfix_lt hy (p := 4) (by omega)
  clear NR hl8 hy
  generalize unfix t 0 = n at *
  generalize unfix t 4 = q at *
  generalize t.take 8 = t8 at *
  by_cases h4 : 4096 < n
  · rw [if_pos h4] at hD
    subst hD
    have h4' : (4096 : Int) < (n : Int) := by omega
    go_enter Tryz.func121, Tryz.ntmps121
    go_wp2_with fail
    refine (unhide NRH).mono ?_
    rintro e w1 ⟨b1, a1, c1, rfl, h1, bl1, hb1, _⟩
    have K := rfixed_any w1 h1
    rw [unhide X1] at K
    have KK := hide K
    have B1 := hide bl1
    clear K h1 bl1 NRH
    go_wp2_with fail
    refine (unhide KK).mono ?_
    rintro e w2 ⟨rfl, h2, t2⟩
    have K := rfixed_any w2 h2
    rw [unhide X2] at K
    have KK := hide K
    have B2 := hide (below_touch (unhide B1) t2 (unhide B1).size (fun k hk => by omega))
    clear K h2 t2 B1
    go_wp2_with fail
    refine (unhide KK).mono ?_
    rintro e w3 ⟨rfl, h3, t3⟩
    have B3 := hide (below_touch (unhide B2) t3 (unhide B2).size (fun k hk => by omega))
    clear h3 t3 B2 KK
    go_wp2
    go_returns
    exact ⟨_, rfl, Row.nil _, New.nil _, (unhide HR).keep (Touch.of_below (S := fun _ => False) (unhide B3)) (fun h => h), Touch.of_below (unhide B3)⟩
  rw [if_neg h4] at hD
  have h4' : ¬ (4096 : Int) < (n : Int) := by omega
  by_cases hN : t.length < 8 + n
  · rw [if_pos hN] at hD
    subst hD
    have hN' : (t.length : Int) < 8 + (n : Int) := by omega
    go_enter Tryz.func121, Tryz.ntmps121
    go_wp2_with fail
    refine (unhide NRH).mono ?_
    rintro e w1 ⟨b1, a1, c1, rfl, h1, bl1, hb1, _⟩
    have K := rfixed_any w1 h1
    rw [unhide X1] at K
    have KK := hide K
    have B1 := hide bl1
    clear K h1 bl1 NRH
    go_wp2_with fail
    refine (unhide KK).mono ?_
    rintro e w2 ⟨rfl, h2, t2⟩
    have K := rfixed_any w2 h2
    rw [unhide X2] at K
    have KK := hide K
    have B2 := hide (below_touch (unhide B1) t2 (unhide B1).size (fun k hk => by omega))
    clear K h2 t2 B1
    go_wp2_with fail
    refine (unhide KK).mono ?_
    rintro e w3 ⟨rfl, h3, t3⟩
    have B3 := hide (below_touch (unhide B2) t3 (unhide B2).size (fun k hk => by omega))
    clear h3 t3 B2 KK
    go_wp2
    go_returns
    exact ⟨_, rfl, Row.nil _, New.nil _, (unhide HR).keep (Touch.of_below (S := fun _ => False) (unhide B3)) (fun h => h), Touch.of_below (unhide B3)⟩
  rw [if_neg hN] at hD
  have hN' : ¬ (t.length : Int) < 8 + (n : Int) := by omega
  have hsl := slice_8 a t.length cap n (by omega)
  have hpl : ((t.drop 8).take n).length = n := by rw [List.length_take, List.length_drop]; omega
  obtain ⟨p, hpe⟩ : ∃ p, p = (t.drop 8).take n := ⟨_, rfl⟩
  rw [← hpe] at hD hpl
  have LP : Hid (∀ w', LAt w' a t → LAt w' (cut a 8 cap) p) := fun w' h => by rw [hpe]; exact (h.drop hc 8).take n
  have CN : Hid (cut a 8 cap = none → cap - 8 = 0) := cut_none hn
  have CS : Hid (0 < p.length → ∀ x, cut a 8 cap = some x → x.block ≠ fb) := fun h0 x hx => by
    obtain ⟨y, hy, e⟩ := cut_block hx
    rw [e]; exact unhide HS (by omega) y hy
  clear hpe
  generalize cut a 8 cap = ca at *
  generalize cap - 8 = cc at *
  have SUM : Hid (∀ w', Ready Xo w' fb → LAt w' a t → Calls Tryz.prog 84 #[.pointer (some ⟨fb, 2, none⟩), .slice ca n cc] w' fun e w'' => e = .returned (.int .u32 (sm p : Nat)) ∧ TabAt Xo w'' fb 1 0 (stps 8) ∧ Touch (· = fb) w' w'') := by
    intro w' h1 h2
    have := sum_any fb ca p.length cc (fun i => p.getD i 0) w' h1 (unhide LP w' h2) (unhide CS) (by omega)
    rw [hpl] at this
    have e : mor (fun i => p.getD i 0) 0 n = sm p := by unfold sm; rw [hpl]
    rw [e] at this
    exact this
  have CLO : Hid (∀ w', LAt w' a t → Calls Tryz.prog 73 #[.slice ca n cc] w' fun e w'' => ∃ v, e = .returned v ∧ Row w'' v p ∧ New w' v ∧ Below w'.heap.size w' w'') := by
    intro w' h2
    have := clone_any ca p cc w' (unhide LP w' h2) (unhide CN) (by omega)
    rw [hpl] at this
    exact this
  clear hpl LP CN CS
  go_enter Tryz.func121, Tryz.ntmps121
  go_wp2_with fail
  refine (unhide NRH).mono ?_
  rintro e w1 ⟨b1, a1, c1, rfl, h1, bl1, hb1, _⟩
  have K := rfixed_any w1 h1
  rw [unhide X1] at K
  have KK := hide K
  have B1 := hide bl1
  clear K h1 bl1 NRH
  go_wp2_with fail
  refine (unhide KK).mono ?_
  rintro e w2 ⟨rfl, h2, t2⟩
  have K := rfixed_any w2 h2
  rw [unhide X2] at K
  have KK := hide K
  have B2 := hide (below_touch (unhide B1) t2 (unhide B1).size (fun k hk => by omega))
  clear K h2 t2 B1
  go_wp2_with fail
  refine (unhide KK).mono ?_
  rintro e w3 ⟨rfl, h3, t3⟩
  have B3 := hide (below_touch (unhide B2) t3 (unhide B2).size (fun k hk => by omega))
  have R3 := hide ((unhide HR).keep (Touch.of_below (S := fun _ => False) (unhide B3)) (fun h => h))
  have SU := hide (unhide SUM w3 (unhide R3) ((unhide HP).later (unhide B3)))
  clear h3 t3 B2 KK SUM
  go_wp2_with fail
  refine (unhide SU).mono ?_
  rintro e w4 ⟨rfl, h4t, t4⟩
  have T4 := hide (touch_new (Touch.of_below (S := (· = fb)) (unhide B3)) t4 (fun k hk => .inl hk))
  have R4 : Hid (Ready Xo w4 fb) := .inr h4t
  have CL := hide (unhide CLO w4 ((unhide HP).keep (unhide T4) (unhide HS)))
  clear h4t t4 SU CLO B3 R3
  generalize sm p = y at *
  by_cases hq : y = q
  · rw [if_pos hq] at hD
    subst hD
    subst hq
    go_wp2_with fail
    refine (unhide CL).mono ?_
    rintro e w5 ⟨v5, rfl, r5, n5, b5⟩
    have F : Hid (Row w5 v5 p ∧ New w v5 ∧ Fdone Xo w w5 fb) := ⟨r5, n5.mono (unhide T4).size, (unhide R4).keep (Touch.of_below (S := fun _ => False) b5) (fun h => h), touch_new (unhide T4) (Touch.of_below (S := fun _ => False) b5) (fun _ h => h.elim)⟩
    clear r5 n5 b5 CL
    go_wp2
    go_returns
    exact ⟨_, rfl, unhide F⟩
  · rw [if_neg hq] at hD
    subst hD
    have hq' : ¬ (y : Int) = (q : Int) := by omega
    go_wp2
    go_returns
    exact ⟨_, rfl, Row.nil _, New.nil _, unhide R4, unhide T4⟩

theorem fdecode_nil (v : Value) :
    Calls Tryz.prog 121 #[.pointer none, v] w fun e w' => e = .returned (.tuple #[.slice none 0 0, .int .i64 0, .int .i64 5]) ∧ w' = w := by
  go_enter Tryz.func121, Tryz.ntmps121
  go_wp2
  go_returns
  exact ⟨rfl, rfl⟩
end
end Go.Proofs.YtkcoeofbobkaoabGreatDoor


namespace Go.Proofs.YtkcoeofbobkaoabGreatDoor
variable {Xo : Outer}
open Go.RowKit
set_option linter.unusedVariables false

theorem unfix_fix {n : Nat} (h : n < 4294967296) (u : List Nat) : unfix (fix n ++ u) 0 = n := by
  simp only [unfix, fix, List.cons_append, List.getD_cons_zero, List.getD_cons_succ, Nat.zero_add]
  omega
theorem unfix_fix4 {n : Nat} (m : Nat) (h : n < 4294967296) (u : List Nat) : unfix (fix m ++ (fix n ++ u)) 4 = n := by
  simp only [unfix, fix, List.cons_append, List.nil_append, List.getD_cons_zero, List.getD_cons_succ]
  omega
/-- A frame is read as what it is of, whatever stands behind it. -/
theorem dec_fenc {p : List Nat} (h : p.length ≤ 4096) (u : List Nat) : dec (fenc p ++ u) = (p, 8 + p.length, 0) := by
  have e : fenc p ++ u = fix p.length ++ (fix (sm p) ++ (p ++ u)) := by simp [fenc]
  have e0 : unfix (fenc p ++ u) 0 = p.length := by rw [e]; exact unfix_fix (by omega) _
  have e4 : unfix (fenc p ++ u) 4 = sm p := by rw [e]; exact unfix_fix4 _ (sm_lt p) _
  have ed : (fenc p ++ u).drop 8 = p ++ u := by rw [e]; rfl
  have el : (fenc p ++ u).length = 8 + p.length + u.length := by rw [List.length_append, fenc_len]
  have ep : (p ++ u).take p.length = p := List.take_left
  unfold dec
  rw [e0, e4, ed, ep, if_neg (by omega), if_neg (by omega), if_neg (by omega), if_pos rfl]

/-- Where the document's frame ends. -/
def docTo (at_ : Nat) (d : List Nat × Nat × Nat) : Nat := if d.2.2 = 0 then at_ + d.2.1 else 0

section
variable {w : World} {a : Option Addr} {cap : Nat} {t : List Nat}

set_option maxRecDepth 100000 in
set_option maxHeartbeats 4000000 in
theorem docdec_any (at_ : Nat) (hp : LAt w a t) (hn : a = none → cap = 0) (hc : t.length ≤ cap) (hat : at_ ≤ t.length) (hl : t.length ≤ 140737488355328) :
    Calls Tryz.prog 9 #[.slice a t.length cap, .int .i64 (at_ : Nat)] w fun e w' => ∃ a' n' c', e = .returned (.tuple #[.slice a' n' c', .int .i64 (docTo at_ (dec (t.drop at_)) : Nat), .int .i64 ((dec (t.drop at_)).2.2 : Nat)]) ∧ n' = (dec (t.drop at_)).1.length ∧ LAt w' a' (dec (t.drop at_)).1 ∧ (a' = none → c' = 0) ∧ (∀ x, a' = some x → ∃ y, a = some y ∧ x.block = y.block) ∧ Below w.heap.size w w' := by
  have HP := hide hp
  have hy := hp.bytes
  have hD : dec (t.drop at_) = if (t.drop at_).length < 8 then ([], 0, 6) else if 4096 < unfix (t.drop at_) 0 then ([], 0, 2) else if (t.drop at_).length < 8 + unfix (t.drop at_) 0 then ([], 0, 6) else if sm (((t.drop at_).drop 8).take (unfix (t.drop at_) 0)) = unfix (t.drop at_) 4 then (((t.drop at_).drop 8).take (unfix (t.drop at_) 0), 8 + unfix (t.drop at_) 0, 0) else ([], 0, 8) := rfl
  rw [List.length_drop, unfix_drop, unfix_drop, List.drop_drop, Nat.add_zero] at hD
  clear hp
  generalize dec (t.drop at_) = D at *
  have hBx : Below w.heap.size w (w.alloc (.cells #[.slice a t.length cap, .int .i64 (at_ : Nat), .int .i64 0] 68)) := (Below.refl _ _).alloc (Nat.le_refl _) _
  have R0 : RdAt 68 (w.alloc (.cells #[.slice a t.length cap, .int .i64 (at_ : Nat), .int .i64 0] 68)) w.heap.size a cap t ⟨at_, 0⟩ := by
    refine ⟨heap_new _ _, (unhide HP).later hBx, fun h0 x hx => ?_, hc, hn, hat, by simp, hl⟩
    obtain ⟨b', off', e1, e2, _⟩ := (unhide HP).cell h0
    rw [hx] at e1; cases e1; exact Nat.ne_of_lt e2
  have HB := hide hBx
  have K0 := hide (ffixed_any _ R0)
  clear R0 hBx
  by_cases h8 : t.length - at_ < 8
  · rw [if_pos h8] at hD
    subst hD
    by_cases h4 : at_ + 4 ≤ t.length
    · have X1 := hide (rX_ok (t := t) h4)
      have X2 := hide (rX_few (t := t) (p := at_ + 4) (by omega))
      have K1 := unhide K0
      rw [unhide X1] at K1
      have K1 := hide K1
      clear K0
      go_enter Tryz.func9, Tryz.ntmps9
      go_wp2_with fail
      refine (unhide K1).mono ?_
      rintro e w2 ⟨rfl, h2, t2⟩
      have K2 := ffixed_any w2 h2
      rw [unhide X2] at K2
      have KK := hide K2
      have B2 := hide (below_touch (unhide HB) t2 (unhide HB).size (fun k hk => by omega))
      clear K2 h2 t2 K1
      go_wp2_with fail
      refine (unhide KK).mono ?_
      rintro e w3 ⟨rfl, h3, t3⟩
      have B3 := hide (below_touch (unhide B2) t3 (unhide B2).size (fun k hk => by omega))
      have c1 := h3.c1
      have c2 := h3.c2
      clear h3 t3 B2 KK
      go_wp2
      go_returns
      exact ⟨_, _, _, rfl, rfl, (fun i hi => by cases hi), fun _ => rfl, (fun x hx => by cases hx), unhide B3⟩
    · have X1 := hide (rX_few (t := t) h4)
      have X2 := hide (rX_stop (t := t) (s := ⟨at_, 6⟩) (by simp))
      have K1 := unhide K0
      rw [unhide X1] at K1
      have K1 := hide K1
      clear K0
      go_enter Tryz.func9, Tryz.ntmps9
      go_wp2_with fail
      refine (unhide K1).mono ?_
      rintro e w2 ⟨rfl, h2, t2⟩
      have K2 := ffixed_any w2 h2
      rw [unhide X2] at K2
      have KK := hide K2
      have B2 := hide (below_touch (unhide HB) t2 (unhide HB).size (fun k hk => by omega))
      clear K2 h2 t2 K1
      go_wp2_with fail
      refine (unhide KK).mono ?_
      rintro e w3 ⟨rfl, h3, t3⟩
      have B3 := hide (below_touch (unhide B2) t3 (unhide B2).size (fun k hk => by omega))
      have c1 := h3.c1
      have c2 := h3.c2
      clear h3 t3 B2 KK
      go_wp2
      go_returns
      exact ⟨_, _, _, rfl, rfl, (fun i hi => by cases hi), fun _ => rfl, (fun x hx => by cases hx), unhide B3⟩
  rw [if_neg h8] at hD
  have X1 := hide (rX_ok (t := t) (p := at_) (by omega))
  have X2 := hide (rX_ok (t := t) (p := at_ + 4) (by omega))
  have hu0 := unfix_lt hy (p := at_) (by omega)
  have hu4 := unfix_lt hy (p := at_ + 4) (by omega)
  have K1 := unhide K0
  rw [unhide X1] at K1
  have K1 := hide K1
  clear K0 hy
  obtain ⟨P, hP⟩ : ∃ P : Nat, at_ + 8 = P := ⟨_, rfl⟩
  rw [show at_ + 4 + 4 = P by omega] at X2
  rw [hP] at hD
  generalize unfix t at_ = n at *
  generalize unfix t (at_ + 4) = q at *
  have hPl : P ≤ t.length := by omega
  by_cases h4 : 4096 < n
  · rw [if_pos h4] at hD
    subst hD
    have h4' : (4096 : Int) < (n : Int) := by omega
    go_enter Tryz.func9, Tryz.ntmps9
    go_wp2_with fail
    refine (unhide K1).mono ?_
    rintro e w2 ⟨rfl, h2, t2⟩
    have K2 := ffixed_any w2 h2
    rw [unhide X2] at K2
    have KK := hide K2
    have B2 := hide (below_touch (unhide HB) t2 (unhide HB).size (fun k hk => by omega))
    clear K2 h2 t2 K1
    go_wp2_with fail
    refine (unhide KK).mono ?_
    rintro e w3 ⟨rfl, h3, t3⟩
    have B3 := hide (below_touch (unhide B2) t3 (unhide B2).size (fun k hk => by omega))
    have c1 := h3.c1
    have c2 := h3.c2
    clear h3 t3 B2 KK
    go_wp2
    go_returns
    exact ⟨_, _, _, rfl, rfl, (fun i hi => by cases hi), fun _ => rfl, (fun x hx => by cases hx), unhide B3⟩
  rw [if_neg h4] at hD
  have h4' : ¬ (4096 : Int) < (n : Int) := by omega
  by_cases hN : t.length - at_ < 8 + n
  · rw [if_pos hN] at hD
    subst hD
    have hN' : (t.length : Int) < (P : Int) + (n : Int) := by omega
    go_enter Tryz.func9, Tryz.ntmps9
    go_wp2_with fail
    refine (unhide K1).mono ?_
    rintro e w2 ⟨rfl, h2, t2⟩
    have K2 := ffixed_any w2 h2
    rw [unhide X2] at K2
    have KK := hide K2
    have B2 := hide (below_touch (unhide HB) t2 (unhide HB).size (fun k hk => by omega))
    clear K2 h2 t2 K1
    go_wp2_with fail
    refine (unhide KK).mono ?_
    rintro e w3 ⟨rfl, h3, t3⟩
    have B3 := hide (below_touch (unhide B2) t3 (unhide B2).size (fun k hk => by omega))
    have c1 := h3.c1
    have c2 := h3.c2
    clear h3 t3 B2 KK
    go_wp2
    go_returns
    exact ⟨_, _, _, rfl, rfl, (fun i hi => by cases hi), fun _ => rfl, (fun x hx => by cases hx), unhide B3⟩
  rw [if_neg hN] at hD
  have hN' : ¬ (t.length : Int) < (P : Int) + (n : Int) := by omega
  have hsl := slice_lh a t.length cap P n (by omega)
  have hpl : ((t.drop P).take n).length = n := by rw [List.length_take, List.length_drop]; omega
  obtain ⟨p, hpe⟩ : ∃ p, p = (t.drop P).take n := ⟨_, rfl⟩
  rw [← hpe] at hD hpl
  have LP : Hid (∀ w', LAt w' a t → LAt w' (cut a P cap) p) := fun w' h => by rw [hpe]; exact (h.drop hc P).take n
  have CN : Hid (cut a P cap = none → cap - P = 0) := cut_none hn
  have CB : Hid (∀ x, cut a P cap = some x → ∃ y, a = some y ∧ x.block = y.block) := fun x hx => cut_block hx
  clear hpe
  generalize cut a P cap = ca at *
  generalize cap - P = cc at *
  have MORE : Hid (∀ w', LAt w' a t → Calls Tryz.prog 31 #[.int .u32 0, .slice ca n cc] w' fun e w'' => e = .returned (.int .u32 (sm p : Nat)) ∧ w'' = w') := by
    intro w' h2
    have := refmore_any 0 ca p.length cc (fun i => p.getD i 0) w' (by omega) (unhide LP w' h2) (by omega)
    rw [hpl] at this
    have e : mor (fun i => p.getD i 0) 0 n = sm p := by unfold sm; rw [hpl]
    rw [e] at this
    exact this
  have HPL := hide hpl
  clear hpl
  go_enter Tryz.func9, Tryz.ntmps9
  go_wp2_with fail
  refine (unhide K1).mono ?_
  rintro e w2 ⟨rfl, h2, t2⟩
  have K2 := ffixed_any w2 h2
  rw [unhide X2] at K2
  have KK := hide K2
  have B2 := hide (below_touch (unhide HB) t2 (unhide HB).size (fun k hk => by omega))
  clear K2 h2 t2 K1
  go_wp2_with fail
  refine (unhide KK).mono ?_
  rintro e w3 ⟨rfl, h3, t3⟩
  have B3 := hide (below_touch (unhide B2) t3 (unhide B2).size (fun k hk => by omega))
  have c1 := h3.c1
  have c2 := h3.c2
  clear h3 t3 B2 KK
  have LW3 := hide ((unhide HP).later (unhide B3))
  have BN : Hid (∀ m, Below w.heap.size w (w3.drewN m)) := fun m => below_drewN (unhide B3) m
  clear B3
  generalize sm p = y at *
  by_cases hq : y = q
  · rw [if_pos hq] at hD
    subst hD
    subst hq
    have ET : Hid (docTo at_ (p, 8 + n, 0) = P + n) := by show docTo at_ (p, 8 + n, 0) = P + n; unfold docTo; rw [if_pos rfl]; show at_ + (8 + n) = P + n; omega
    go_wp2_with fail
    go_quiet (fail)
    go_wp2_with fail
    refine (unhide MORE (w3.drewN nq) (unhide LW3)).mono ?_
    rintro e w4 ⟨rfl, rfl⟩
    go_wp2_with fail
    go_quiet (fail)
    go_wp2
    go_returns
    refine ⟨_, _, _, ?_, (unhide HPL).symm, unhide LP _ (unhide LW3), unhide CN, unhide CB, unhide BN _⟩
    rw [unhide ET]
    rfl
  · rw [if_neg hq] at hD
    subst hD
    have hq' : ¬ (y : Int) = (q : Int) := by omega
    go_wp2_with fail
    go_quiet (fail)
    go_wp2_with fail
    refine (unhide MORE (w3.drewN nq) (unhide LW3)).mono ?_
    rintro e w4 ⟨rfl, rfl⟩
    go_wp2
    go_returns
    exact ⟨_, _, _, rfl, rfl, (fun i hi => by cases hi), fun _ => rfl, (fun x hx => by cases hx), unhide BN _⟩
end

theorem two_ab : unfix (fenc [97, 98]) 0 = 2 := by simpa [fenc] using unfix_fix (n := 2) (by omega) (fix (sm [97, 98]) ++ [97, 98])
theorem dec_ab : dec (fenc [97, 98]) = ([97, 98], 10, 0) := by
  have := dec_fenc (p := [97, 98]) (by simp) []
  rw [List.append_nil] at this
  exact this

end Go.Proofs.YtkcoeofbobkaoabGreatDoor
