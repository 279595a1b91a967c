/-
  penstockref04.DocDecode, and 'awake' of layer 4. Conditions: the bytes are at most 2^47.
-/
import Derived.Test.YtfdpnfeaagijhaaRd4
import Derived.Test.YtfdpnfeaagijhaaRf2
import Derived.Test.YtfdpnfeaagijhaaWCrcOwn
import Derived.Laws.IdiomStrings
import Derived.Lib.SlBytesConst

/-
  frame.Framer's Encode and Decode, and penstockref04's, by plain functions on lists. Conditions: the bytes are at most 2^47.
-/
namespace Go.Proofs.Ytfdpnfeaagijhaa
variable {Xo : Outer}
open Go.RowKit
set_option linter.unusedVariables false

/-- The sum of a list of bytes. -/
def sm (p : List Nat) : Nat := mor (fun i => p.getD i 0) 0 p.length
theorem sm_lt (p : List Nat) : sm p < 4294967296 := mor_lt _ _ _
/-- A payload's frame. -/
def fenc (p : List Nat) : List Nat := fix p.length ++ (fix (sm p) ++ p)
theorem fenc_len (p : List Nat) : (fenc p).length = 8 + p.length := by simp [fenc, fix]; omega
/-- The frame at the front: the payload, how many bytes the frame has, the error. -/
def dec (t : List Nat) : List Nat × Nat × Nat :=
  if t.length < 8 then ([], 0, 6) else if 4096 < unfix t 0 then ([], 0, 2) else if t.length < 8 + unfix t 0 then ([], 0, 6) else if sm ((t.drop 8).take (unfix t 0)) = unfix t 4 then ((t.drop 8).take (unfix t 0), 8 + unfix t 0, 0) else ([], 0, 8)

/-- New blocks don't count. -/
theorem touch_new {S R : Nat → Prop} {w w1 w2 : World} (t1 : Touch S w w1) (t2 : Touch R w1 w2) (h : ∀ k, R k → S k ∨ w.heap.size ≤ k) : Touch S w w2 :=
  ⟨t2.os.trans t1.os, t2.tape.trans t1.tape, t2.output.trans t1.output, Nat.le_trans t1.size t2.size, fun k hk hs => by
    rw [t2.block k (Nat.lt_of_lt_of_le hk t1.size) (fun hr => by rcases h k hr with e | e; exact hs e; omega), t1.block k hk hs]⟩

theorem at_of_v {w : World} {b : Nat} {v : Value} {l : List Nat} {long : Bool} (h : WrV w (.pointer (some ⟨b, 0, none⟩)) v l long) : WrAt w b v l long := by
  rcases h with ⟨h, _⟩ | ⟨b', h, h'⟩
  · cases h
  · cases h; exact h'


/-- What a call on a framer leaves: the framer is ready, and of the old blocks its own alone has turned. -/
structure Fdone (Xo : Outer) (w w' : World) (fb : Nat) : Prop where
  ready : Ready Xo w' fb
  touch : Touch (· = fb) w w'

section
variable {w : World} {fb : Nat} {a : Option Addr} {cap : Nat} {p : List Nat}

set_option maxRecDepth 100000 in
set_option maxHeartbeats 2000000 in
theorem fencode_any (hr : Ready Xo w fb) (hp : LAt w a p) (hn : a = none → cap = 0) (hs : 0 < p.length → ∀ x, a = some x → x.block ≠ fb) (h4 : p.length ≤ 4096) :
    Calls Try.prog 16 #[.pointer (some ⟨fb, 2, none⟩), .slice a p.length cap] w fun e w' => ∃ v, e = .returned (.tuple #[v, .int .i64 0]) ∧ Row w' v (fenc p) ∧ New w v ∧ Fdone Xo w w' fb := by
  have HR := hide hr
  have HP := hide hp
  have HS := hide hs
  have hfb := hr.lt
  have HB : Hid (0 < p.length → ∀ x, a = some x → x.block < w.heap.size) := fun h0 x hx => by
    obtain ⟨b', off', e1, e2, _⟩ := hp.cell h0
    rw [hx] at e1; cases e1; exact e2
  clear hr hp hs
  have h4' : ¬ (4096 : Int) < (p.length : Int) := by omega
  go_enter Try.func16, Try.ntmps16
  go_wp2_with fail
  refine (newwriter_any w).mono ?_
  rintro e w1 ⟨rfl, h1, b1⟩
  have K1 := hide (wfix_any (.pointer (some ⟨w.heap.size, 0, none⟩)) (.slice none 0 0) [] false p.length w1 (.inr ⟨_, rfl, h1⟩) (by omega) (by simp))
  have B1 := hide b1
  clear h1 b1
  go_wp2_with fail
  refine (unhide K1).mono ?_
  rintro e w2 ⟨rfl, v2, h2, s2⟩
  have hm1 : ∀ k, Mine (.pointer (some ⟨w.heap.size, 0, none⟩)) (.slice none 0 0) k → w.heap.size ≤ k := by
    rintro k (e | e)
    · cases e; exact Nat.le_refl _
    · simp [Value.ownBlock] at e
  have hm2 : ∀ k, Mine (.pointer (some ⟨w.heap.size, 0, none⟩)) v2 k → w.heap.size ≤ k := by
    rintro k (e | e)
    · cases e; exact Nat.le_refl _
    · rcases s2.moved k e with e | e
      · simp [Value.ownBlock] at e
      · have := (unhide B1).size; omega
  have B2 := hide (below_touch (unhide B1) s2.touch (unhide B1).size hm1)
  have HM2 := hide hm2
  have SU := hide (sum_any fb a p.length cap (fun i => p.getD i 0) w2 ((unhide HR).keep (Touch.of_below (S := fun _ => False) (unhide B2)) (fun h => h)) ((unhide HP).later (unhide B2)) (unhide HS) (by omega))
  have HW2 := hide h2
  clear h2 s2 hm1 hm2 K1
  go_wp2_with fail
  refine (unhide SU).mono ?_
  rintro e w3 ⟨rfl, h3, t3⟩
  have T3 := hide (touch_new (Touch.of_below (S := (· = fb)) (unhide B2)) t3 (fun k hk => .inl hk))
  have W3 := hide ((unhide HW2).keep t3 (fun k hk e => by have := unhide HM2 k hk; omega))
  have R3 : Hid (Ready Xo w3 fb) := .inr h3
  have ES : Hid (mor (fun i => p.getD i 0) 0 p.length = sm p) := rfl
  rw [unhide ES]
  have K3 := hide (wfix_any (.pointer (some ⟨w.heap.size, 0, none⟩)) v2 _ false (sm p) w3 (unhide W3) (sm_lt p) (by simp [lays, fix]))
  clear h3 t3 SU HW2 B1
  generalize hsm : sm p = q at *
  go_wp2_with fail
  refine (unhide K3).mono ?_
  rintro e w4 ⟨rfl, v4, h4w, s4⟩
  have T4 := hide (touch_new (unhide T3) s4.touch (fun k hk => .inr (unhide HM2 k hk)))
  have R4 := hide ((unhide R3).keep s4.touch (fun hm => by have := unhide HM2 fb hm; omega))
  have OU := hide (out_any w.heap.size v4 _ w4 (at_of_v h4w) (by simp [lays, fix]))
  clear h4w s4 K3
  go_wp2_with fail
  refine (unhide OU).mono ?_
  rintro e w5 ⟨vo, rfl, r5, n5, b5⟩
  have T5 := hide (touch_new (unhide T4) (Touch.of_below (S := fun _ => False) b5) (fun _ h => h.elim))
  have R5 := hide ((unhide R4).keep (Touch.of_below (S := fun _ => False) b5) (fun h => h))
  have hn5 := n5.mono (unhide T4).size
  have N5 := hide hn5
  have e5 : lays false (lays false [] (fix p.length)) (fix q) = fix p.length ++ fix q := by simp [lays]
  rw [e5] at r5
  obtain ⟨X, hX⟩ : ∃ X, X = fix p.length ++ fix q := ⟨_, rfl⟩
  have hXl : X.length = 8 := by rw [hX]; rfl
  have EX : Hid (X ++ p = fenc p) := by show X ++ p = fenc p; rw [hX]; unfold fenc; rw [hsm, List.append_assoc]
  rw [← hX] at r5
  have RR5 := hide r5
  obtain ⟨a5, m5, c5, rfl⟩ := r5.shape
  have P5 := hide ((unhide HP).keep (unhide T5) (unhide HS))
  clear r5 n5 hn5 b5 OU e5 hX
  go_wp2_with (at_builtin; refine wpList_row _ rfl (.tmp 35) (.tmp 36) rfl _ X rfl (unhide RR5) a cap p rfl (unhide P5) hn (by omega) ?_)
  intro v6 w6 r6 t6 m6
  rw [unhide EX] at r6
  have F : Hid (Row w6 v6 (fenc p) ∧ New w v6 ∧ Fdone Xo w w6 fb) := by
    refine ⟨r6, (unhide N5).moved m6 (unhide T5).size, (unhide R5).keep t6 (fun h => by have := unhide N5 fb h; omega), touch_new (unhide T5) t6 (fun k hk => .inr (unhide N5 k hk))⟩
  obtain ⟨a6, m6', c6, rfl⟩ := r6.shape
  clear r6 t6 m6
  go_wp2
  go_returns
  exact ⟨_, rfl, unhide F⟩

theorem fencode_long (ao : Option Addr) (n c : Nat) (h4 : 4096 < n) :
    Calls Try.prog 16 #[.pointer (some ⟨fb, 2, none⟩), .slice ao n c] w fun e w' => e = .returned (.tuple #[.slice none 0 0, .int .i64 2]) ∧ w' = w := by
  have h4' : (4096 : Int) < (n : Int) := by omega
  go_enter Try.func16, Try.ntmps16
  go_wp2
  go_returns
  exact ⟨rfl, rfl⟩
theorem fencode_nil (v : Value) :
    Calls Try.prog 16 #[.pointer none, v] w fun e w' => e = .returned (.tuple #[.slice none 0 0, .int .i64 5]) ∧ w' = w := by
  go_enter Try.func16, Try.ntmps16
  go_wp2
  go_returns
  exact ⟨rfl, rfl⟩

end
end Go.Proofs.Ytfdpnfeaagijhaa


/-
  frame.Framer's Decode, and penstockref04's; 'awake' of layer 4. Conditions: the bytes are at most 2^47.
-/
namespace Go.Proofs.Ytfdpnfeaagijhaa
variable {Xo : Outer}
open Go.RowKit
set_option linter.unusedVariables false

theorem unfix_lt {t : List Nat} (h : ∀ x ∈ t, x < 256) {p : Nat} (hp : p + 4 ≤ t.length) : unfix t p < 4294967296 := by
  have h0 : t.getD p 0 < 256 := h _ (getD_mem (by omega))
  have h1 : t.getD (p + 1) 0 < 256 := h _ (getD_mem (by omega))
  have h2 : t.getD (p + 2) 0 < 256 := h _ (getD_mem (by omega))
  have h3 : t.getD (p + 3) 0 < 256 := h _ (getD_mem (by omega))
  unfold unfix; omega
theorem getD_take {t : List Nat} {n i : Nat} (h : i < n) : (t.take n).getD i 0 = t.getD i 0 := by simp [List.getD, h]
theorem unfix_take {t : List Nat} {p n : Nat} (h : p + 3 < n) : unfix (t.take n) p = unfix t p := by
  unfold unfix
  rw [getD_take (by omega), getD_take (by omega), getD_take (by omega), getD_take (by omega)]
theorem unfix_drop (t : List Nat) (k p : Nat) : unfix (t.drop k) p = unfix t (k + p) := by
  unfold unfix
  simp [List.getD, Nat.add_assoc]
theorem rX_ok {t : List Nat} {p : Nat} (h : p + 4 ≤ t.length) : rX t ⟨p, 0⟩ = (unfix t p, ⟨p + 4, 0⟩) := by unfold rX; rw [if_pos rfl, if_pos h]
theorem rX_few {t : List Nat} {p : Nat} (h : ¬ p + 4 ≤ t.length) : rX t ⟨p, 0⟩ = (0, ⟨p, 6⟩) := by unfold rX; rw [if_pos rfl, if_neg h]

theorem slice_8 (a : Option Addr) (len cap n : Nat) (hn : 8 + n ≤ cap) (w : World) : (Instr.slice 32 (.slice a len cap) (some (.int .i64 8)) (some (.int .i64 (8 + (n : Int)))) none).run Try.prog w = .ok (.slice (cut a 8 cap) n (cap - 8)) w := slice_lh a len cap 8 n hn w
theorem slice_h8 (a : Option Addr) (len cap : Nat) (hn : 8 ≤ cap) (w : World) : (Instr.slice 32 (.slice a len cap) none (some (.int .i64 8)) none).run Try.prog w = .ok (.slice a 8 cap) w := slice_h a len cap 8 hn w

section
variable {w : World} {fb : Nat} {a : Option Addr} {cap : Nat} {t : List Nat}

set_option maxRecDepth 100000 in
set_option maxHeartbeats 4000000 in
theorem fdecode_any (hr : Ready Xo w fb) (hp : LAt w a t) (hn : a = none → cap = 0) (hc : t.length ≤ cap) (hs : 0 < t.length → ∀ x, a = some x → x.block ≠ fb) (hl : t.length ≤ 140737488355328) :
    Calls Try.prog 40 #[.pointer (some ⟨fb, 2, none⟩), .slice a t.length cap] w fun e w' => ∃ v, e = .returned (.tuple #[v, .int .i64 ((dec t).2.1 : Nat), .int .i64 ((dec t).2.2 : Nat)]) ∧ Row w' v (dec t).1 ∧ New w v ∧ Fdone Xo w w' fb := by
  have HR := hide hr
  have HP := hide hp
  have HS := hide hs
  have hfb := hr.lt
  have hy := hp.bytes
  have hD : dec t = if t.length < 8 then ([], 0, 6) else if 4096 < unfix t 0 then ([], 0, 2) else if t.length < 8 + unfix t 0 then ([], 0, 6) else if sm ((t.drop 8).take (unfix t 0)) = unfix t 4 then ((t.drop 8).take (unfix t 0), 8 + unfix t 0, 0) else ([], 0, 8) := rfl
  clear hr hp hs
  generalize dec t = D at *
  by_cases h8 : t.length < 8
  · rw [if_pos h8] at hD
    subst hD
    have h8' : (t.length : Int) < 8 := by omega
    go_enter Try.func40, Try.ntmps40
    go_wp2
    go_returns
    exact ⟨_, rfl, Row.nil _, New.nil _, unhide HR, Touch.refl _ _⟩
  rw [if_neg h8] at hD
  have h8' : ¬ (t.length : Int) < 8 := by omega
  have hs8 := slice_h8 a t.length cap (by omega)
  have hl8 : (t.take 8).length = 8 := by rw [List.length_take]; omega
  have NR := newreader_any w a cap (t.take 8) ((unhide HP).take 8) hn (by omega)
  rw [hl8] at NR
  have NRH := hide NR
  have X1 : Hid (rX (t.take 8) ⟨0, 0⟩ = (unfix t 0, ⟨4, 0⟩)) := by
    have := rX_ok (t := t.take 8) (p := 0) (by omega)
    rw [unfix_take (by omega)] at this; exact this
  have X2 : Hid (rX (t.take 8) ⟨4, 0⟩ = (unfix t 4, ⟨8, 0⟩)) := by
    have := rX_ok (t := t.take 8) (p := 4) (by omega)
    rw [unfix_take (by omega)] at this; exact this
  have hn0 := unfix_lt hy (p := 0) (by omega)
  have hn4 := unfix_lt hy (p := 4) (by omega)
  clear NR hl8 hy
  generalize unfix t 0 = n at *
  generalize unfix t 4 = q at *
  generalize t.take 8 = t8 at *
  by_cases h4 : 4096 < n
  · rw [if_pos h4] at hD
    subst hD
    have h4' : (4096 : Int) < (n : Int) := by omega
    go_enter Try.func40, Try.ntmps40
    go_wp2_with fail
    refine (unhide NRH).mono ?_
    rintro e w1 ⟨b1, a1, c1, rfl, h1, bl1, hb1, _⟩
    have K := rfixed_any w1 h1
    rw [unhide X1] at K
    have KK := hide K
    have B1 := hide bl1
    clear K h1 bl1 NRH
    go_wp2_with fail
    refine (unhide KK).mono ?_
    rintro e w2 ⟨rfl, h2, t2⟩
    have K := rfixed_any w2 h2
    rw [unhide X2] at K
    have KK := hide K
    have B2 := hide (below_touch (unhide B1) t2 (unhide B1).size (fun k hk => by omega))
    clear K h2 t2 B1
    go_wp2_with fail
    refine (unhide KK).mono ?_
    rintro e w3 ⟨rfl, h3, t3⟩
    have B3 := hide (below_touch (unhide B2) t3 (unhide B2).size (fun k hk => by omega))
    clear h3 t3 B2 KK
    go_wp2
    go_returns
    exact ⟨_, rfl, Row.nil _, New.nil _, (unhide HR).keep (Touch.of_below (S := fun _ => False) (unhide B3)) (fun h => h), Touch.of_below (unhide B3)⟩
  rw [if_neg h4] at hD
  have h4' : ¬ (4096 : Int) < (n : Int) := by omega
  by_cases hN : t.length < 8 + n
  · rw [if_pos hN] at hD
    subst hD
    have hN' : (t.length : Int) < 8 + (n : Int) := by omega
    go_enter Try.func40, Try.ntmps40
    go_wp2_with fail
    refine (unhide NRH).mono ?_
    rintro e w1 ⟨b1, a1, c1, rfl, h1, bl1, hb1, _⟩
    have K := rfixed_any w1 h1
    rw [unhide X1] at K
    have KK := hide K
    have B1 := hide bl1
    clear K h1 bl1 NRH
    go_wp2_with fail
    refine (unhide KK).mono ?_
    rintro e w2 ⟨rfl, h2, t2⟩
    have K := rfixed_any w2 h2
    rw [unhide X2] at K
    have KK := hide K
    have B2 := hide (below_touch (unhide B1) t2 (unhide B1).size (fun k hk => by omega))
    clear K h2 t2 B1
    go_wp2_with fail
    refine (unhide KK).mono ?_
    rintro e w3 ⟨rfl, h3, t3⟩
    have B3 := hide (below_touch (unhide B2) t3 (unhide B2).size (fun k hk => by omega))
    clear h3 t3 B2 KK
    go_wp2
    go_returns
    exact ⟨_, rfl, Row.nil _, New.nil _, (unhide HR).keep (Touch.of_below (S := fun _ => False) (unhide B3)) (fun h => h), Touch.of_below (unhide B3)⟩
  rw [if_neg hN] at hD
  have hN' : ¬ (t.length : Int) < 8 + (n : Int) := by omega
  have hsl := slice_8 a t.length cap n (by omega)
  have hpl : ((t.drop 8).take n).length = n := by rw [List.length_take, List.length_drop]; omega
  obtain ⟨p, hpe⟩ : ∃ p, p = (t.drop 8).take n := ⟨_, rfl⟩
  rw [← hpe] at hD hpl
  have LP : Hid (∀ w', LAt w' a t → LAt w' (cut a 8 cap) p) := fun w' h => by rw [hpe]; exact (h.drop hc 8).take n
  have CN : Hid (cut a 8 cap = none → cap - 8 = 0) := cut_none hn
  have CS : Hid (0 < p.length → ∀ x, cut a 8 cap = some x → x.block ≠ fb) := fun h0 x hx => by
    obtain ⟨y, hy, e⟩ := cut_block hx
    rw [e]; exact unhide HS (by omega) y hy
  clear hpe
  generalize cut a 8 cap = ca at *
  generalize cap - 8 = cc at *
  have SUM : Hid (∀ w', Ready Xo w' fb → LAt w' a t → Calls Try.prog 29 #[.pointer (some ⟨fb, 2, none⟩), .slice ca n cc] w' fun e w'' => e = .returned (.int .u32 (sm p : Nat)) ∧ TabAt Xo w'' fb 1 0 (stps 8) ∧ Touch (· = fb) w' w'') := by
    intro w' h1 h2
    have := sum_any fb ca p.length cc (fun i => p.getD i 0) w' h1 (unhide LP w' h2) (unhide CS) (by omega)
    rw [hpl] at this
    have e : mor (fun i => p.getD i 0) 0 n = sm p := by unfold sm; rw [hpl]
    rw [e] at this
    exact this
  have CLO : Hid (∀ w', LAt w' a t → Calls Try.prog 39 #[.slice ca n cc] w' fun e w'' => ∃ v, e = .returned v ∧ Row w'' v p ∧ New w' v ∧ Below w'.heap.size w' w'') := by
    intro w' h2
    have := clone_any ca p cc w' (unhide LP w' h2) (unhide CN) (by omega)
    rw [hpl] at this
    exact this
  clear hpl LP CN CS
  go_enter Try.func40, Try.ntmps40
  go_wp2_with fail
  refine (unhide NRH).mono ?_
  rintro e w1 ⟨b1, a1, c1, rfl, h1, bl1, hb1, _⟩
  have K := rfixed_any w1 h1
  rw [unhide X1] at K
  have KK := hide K
  have B1 := hide bl1
  clear K h1 bl1 NRH
  go_wp2_with fail
  refine (unhide KK).mono ?_
  rintro e w2 ⟨rfl, h2, t2⟩
  have K := rfixed_any w2 h2
  rw [unhide X2] at K
  have KK := hide K
  have B2 := hide (below_touch (unhide B1) t2 (unhide B1).size (fun k hk => by omega))
  clear K h2 t2 B1
  go_wp2_with fail
  refine (unhide KK).mono ?_
  rintro e w3 ⟨rfl, h3, t3⟩
  have B3 := hide (below_touch (unhide B2) t3 (unhide B2).size (fun k hk => by omega))
  have R3 := hide ((unhide HR).keep (Touch.of_below (S := fun _ => False) (unhide B3)) (fun h => h))
  have SU := hide (unhide SUM w3 (unhide R3) ((unhide HP).later (unhide B3)))
  clear h3 t3 B2 KK SUM
  go_wp2_with fail
  refine (unhide SU).mono ?_
  rintro e w4 ⟨rfl, h4t, t4⟩
  have T4 := hide (touch_new (Touch.of_below (S := (· = fb)) (unhide B3)) t4 (fun k hk => .inl hk))
  have R4 : Hid (Ready Xo w4 fb) := .inr h4t
  have CL := hide (unhide CLO w4 ((unhide HP).keep (unhide T4) (unhide HS)))
  clear h4t t4 SU CLO B3 R3
  generalize sm p = y at *
  by_cases hq : y = q
  · rw [if_pos hq] at hD
    subst hD
    subst hq
    go_wp2_with fail
    refine (unhide CL).mono ?_
    rintro e w5 ⟨v5, rfl, r5, n5, b5⟩
    have F : Hid (Row w5 v5 p ∧ New w v5 ∧ Fdone Xo w w5 fb) := ⟨r5, n5.mono (unhide T4).size, (unhide R4).keep (Touch.of_below (S := fun _ => False) b5) (fun h => h), touch_new (unhide T4) (Touch.of_below (S := fun _ => False) b5) (fun _ h => h.elim)⟩
    clear r5 n5 b5 CL
    go_wp2
    go_returns
    exact ⟨_, rfl, unhide F⟩
  · rw [if_neg hq] at hD
    subst hD
    have hq' : ¬ (y : Int) = (q : Int) := by omega
    go_wp2
    go_returns
    exact ⟨_, rfl, Row.nil _, New.nil _, unhide R4, unhide T4⟩

theorem fdecode_nil (v : Value) :
    Calls Try.prog 40 #[.pointer none, v] w fun e w' => e = .returned (.tuple #[.slice none 0 0, .int .i64 0, .int .i64 5]) ∧ w' = w := by
  go_enter Try.func40, Try.ntmps40
  go_wp2
  go_returns
  exact ⟨rfl, rfl⟩
end
end Go.Proofs.Ytfdpnfeaagijhaa


namespace Go.Proofs.Ytfdpnfeaagijhaa
variable {Xo : Outer}
open Go.RowKit
set_option linter.unusedVariables false

theorem unfix_fix {n : Nat} (h : n < 4294967296) (u : List Nat) : unfix (fix n ++ u) 0 = n := by
  simp only [unfix, fix, List.cons_append, List.getD_cons_zero, List.getD_cons_succ, Nat.zero_add]
  omega
theorem unfix_fix4 {n : Nat} (m : Nat) (h : n < 4294967296) (u : List Nat) : unfix (fix m ++ (fix n ++ u)) 4 = n := by
  simp only [unfix, fix, List.cons_append, List.nil_append, List.getD_cons_zero, List.getD_cons_succ]
  omega
/-- A frame is read as what it is of, whatever stands behind it. -/
theorem dec_fenc {p : List Nat} (h : p.length ≤ 4096) (u : List Nat) : dec (fenc p ++ u) = (p, 8 + p.length, 0) := by
  have e : fenc p ++ u = fix p.length ++ (fix (sm p) ++ (p ++ u)) := by simp [fenc]
  have e0 : unfix (fenc p ++ u) 0 = p.length := by rw [e]; exact unfix_fix (by omega) _
  have e4 : unfix (fenc p ++ u) 4 = sm p := by rw [e]; exact unfix_fix4 _ (sm_lt p) _
  have ed : (fenc p ++ u).drop 8 = p ++ u := by rw [e]; rfl
  have el : (fenc p ++ u).length = 8 + p.length + u.length := by rw [List.length_append, fenc_len]
  have ep : (p ++ u).take p.length = p := List.take_left
  unfold dec
  rw [e0, e4, ed, ep, if_neg (by omega), if_neg (by omega), if_neg (by omega), if_pos rfl]

/-- Where the document's frame ends. -/
def docTo (at_ : Nat) (d : List Nat × Nat × Nat) : Nat := if d.2.2 = 0 then at_ + d.2.1 else 0

section
variable {w : World} {a : Option Addr} {cap : Nat} {t : List Nat}

end

theorem two_ab : unfix (fenc [97, 98]) 0 = 2 := by simpa [fenc] using unfix_fix (n := 2) (by omega) (fix (sm [97, 98]) ++ [97, 98])
theorem dec_ab : dec (fenc [97, 98]) = ([97, 98], 10, 0) := by
  have := dec_fenc (p := [97, 98]) (by simp) []
  rw [List.append_nil] at this
  exact this

end Go.Proofs.Ytfdpnfeaagijhaa
