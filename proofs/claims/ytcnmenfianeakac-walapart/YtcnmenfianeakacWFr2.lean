/-
  frame.Framer's Decode, and penstockref04's; 'awake' of layer 4. Conditions: the bytes are at most 2^47.
-/
import Derived.Test.YtcnmenfianeakacWFr
import Derived.Laws.IdiomStrings
namespace Go.Proofs.Ytcnmenfianeakac
variable {Xo : Outer}
open Go.RowKit
set_option linter.unusedVariables false

theorem unfix_lt {t : List Nat} (h : ∀ x ∈ t, x < 256) {p : Nat} (hp : p + 4 ≤ t.length) : unfix t p < 4294967296 := by
  have h0 : t.getD p 0 < 256 := h _ (getD_mem (by omega))
  have h1 : t.getD (p + 1) 0 < 256 := h _ (getD_mem (by omega))
  have h2 : t.getD (p + 2) 0 < 256 := h _ (getD_mem (by omega))
  have h3 : t.getD (p + 3) 0 < 256 := h _ (getD_mem (by omega))
  unfold unfix; omega
theorem getD_take {t : List Nat} {n i : Nat} (h : i < n) : (t.take n).getD i 0 = t.getD i 0 := by simp [List.getD, h]
theorem unfix_take {t : List Nat} {p n : Nat} (h : p + 3 < n) : unfix (t.take n) p = unfix t p := by
  unfold unfix
  rw [getD_take (by omega), getD_take (by omega), getD_take (by omega), getD_take (by omega)]
theorem unfix_drop (t : List Nat) (k p : Nat) : unfix (t.drop k) p = unfix t (k + p) := by
  unfold unfix
  simp [List.getD, Nat.add_assoc]
theorem rX_ok {t : List Nat} {p : Nat} (h : p + 4 ≤ t.length) : rX t ⟨p, 0⟩ = (unfix t p, ⟨p + 4, 0⟩) := by unfold rX; rw [if_pos rfl, if_pos h]
theorem rX_few {t : List Nat} {p : Nat} (h : ¬ p + 4 ≤ t.length) : rX t ⟨p, 0⟩ = (0, ⟨p, 6⟩) := by unfold rX; rw [if_pos rfl, if_neg h]

theorem slice_8 (a : Option Addr) (len cap n : Nat) (hn : 8 + n ≤ cap) (w : World) : (Instr.slice 35 (.slice a len cap) (some (.int .i64 8)) (some (.int .i64 (8 + (n : Int)))) none).run Try.prog w = .ok (.slice (cut a 8 cap) n (cap - 8)) w := slice_lh a len cap 8 n hn w
theorem slice_h8 (a : Option Addr) (len cap : Nat) (hn : 8 ≤ cap) (w : World) : (Instr.slice 35 (.slice a len cap) none (some (.int .i64 8)) none).run Try.prog w = .ok (.slice a 8 cap) w := slice_h a len cap 8 hn w

section
variable {w : World} {fb : Nat} {a : Option Addr} {cap : Nat} {t : List Nat}

set_option maxRecDepth 100000 in
set_option maxHeartbeats 4000000 in
theorem fdecode_any (hr : Ready Xo w fb) (hp : LAt w a t) (hn : a = none → cap = 0) (hc : t.length ≤ cap) (hs : 0 < t.length → ∀ x, a = some x → x.block ≠ fb) (hl : t.length ≤ 140737488355328) :
    Calls Try.prog 44 #[.pointer (some ⟨fb, 2, none⟩), .slice a t.length cap] w fun e w' => ∃ v, e = .returned (.tuple #[v, .int .i64 ((dec t).2.1 : Nat), .int .i64 ((dec t).2.2 : Nat)]) ∧ Row w' v (dec t).1 ∧ New w v ∧ Fdone Xo w w' fb := by
  have HR := hide hr
  have HP := hide hp
  have HS := hide hs
  have hfb := hr.lt
  have hy := hp.bytes
  have hD : dec t = if t.length < 8 then ([], 0, 6) else if 4096 < unfix t 0 then ([], 0, 2) else if t.length < 8 + unfix t 0 then ([], 0, 6) else if sm ((t.drop 8).take (unfix t 0)) = unfix t 4 then ((t.drop 8).take (unfix t 0), 8 + unfix t 0, 0) else ([], 0, 8) := rfl
  clear hr hp hs
  generalize dec t = D at *
  by_cases h8 : t.length < 8
  · rw [if_pos h8] at hD
    subst hD
    have h8' : (t.length : Int) < 8 := by omega
    go_enter Try.func44, Try.ntmps44
    go_wp2
    go_returns
    exact ⟨_, rfl, Row.nil _, New.nil _, unhide HR, Touch.refl _ _⟩
  rw [if_neg h8] at hD
  have h8' : ¬ (t.length : Int) < 8 := by omega
  have hs8 := slice_h8 a t.length cap (by omega)
  have hl8 : (t.take 8).length = 8 := by rw [List.length_take]; omega
  have NR := newreader_any w a cap (t.take 8) ((unhide HP).take 8) hn (by omega)
  rw [hl8] at NR
  have NRH := hide NR
  have X1 : Hid (rX (t.take 8) ⟨0, 0⟩ = (unfix t 0, ⟨4, 0⟩)) := by
    have := rX_ok (t := t.take 8) (p := 0) (by omega)
    rw [unfix_take (by omega)] at this; exact this
  have X2 : Hid (rX (t.take 8) ⟨4, 0⟩ = (unfix t 4, ⟨8, 0⟩)) := by
    have := rX_ok (t := t.take 8) (p := 4) (by omega)
    rw [unfix_take (by omega)] at this; exact this
  have hn0 := unfix_lt hy (p := 0) (by omega)
  have hn4 := unfix_lt hy (p := 4) (by omega)
  clear NR hl8 hy
  generalize unfix t 0 = n at *
  generalize unfix t 4 = q at *
  generalize t.take 8 = t8 at *
  by_cases h4 : 4096 < n
  · rw [if_pos h4] at hD
    subst hD
    have h4' : (4096 : Int) < (n : Int) := by omega
    go_enter Try.func44, Try.ntmps44
    go_wp2_with fail
    refine (unhide NRH).mono ?_
    rintro e w1 ⟨b1, a1, c1, rfl, h1, bl1, hb1, _⟩
    have K := rfixed_any w1 h1
    rw [unhide X1] at K
    have KK := hide K
    have B1 := hide bl1
    clear K h1 bl1 NRH
    go_wp2_with fail
    refine (unhide KK).mono ?_
    rintro e w2 ⟨rfl, h2, t2⟩
    have K := rfixed_any w2 h2
    rw [unhide X2] at K
    have KK := hide K
    have B2 := hide (below_touch (unhide B1) t2 (unhide B1).size (fun k hk => by omega))
    clear K h2 t2 B1
    go_wp2_with fail
    refine (unhide KK).mono ?_
    rintro e w3 ⟨rfl, h3, t3⟩
    have B3 := hide (below_touch (unhide B2) t3 (unhide B2).size (fun k hk => by omega))
    clear h3 t3 B2 KK
    go_wp2
    go_returns
    exact ⟨_, rfl, Row.nil _, New.nil _, (unhide HR).keep (Touch.of_below (S := fun _ => False) (unhide B3)) (fun h => h), Touch.of_below (unhide B3)⟩
  rw [if_neg h4] at hD
  have h4' : ¬ (4096 : Int) < (n : Int) := by omega
  by_cases hN : t.length < 8 + n
  · rw [if_pos hN] at hD
    subst hD
    have hN' : (t.length : Int) < 8 + (n : Int) := by omega
    go_enter Try.func44, Try.ntmps44
    go_wp2_with fail
    refine (unhide NRH).mono ?_
    rintro e w1 ⟨b1, a1, c1, rfl, h1, bl1, hb1, _⟩
    have K := rfixed_any w1 h1
    rw [unhide X1] at K
    have KK := hide K
    have B1 := hide bl1
    clear K h1 bl1 NRH
    go_wp2_with fail
    refine (unhide KK).mono ?_
    rintro e w2 ⟨rfl, h2, t2⟩
    have K := rfixed_any w2 h2
    rw [unhide X2] at K
    have KK := hide K
    have B2 := hide (below_touch (unhide B1) t2 (unhide B1).size (fun k hk => by omega))
    clear K h2 t2 B1
    go_wp2_with fail
    refine (unhide KK).mono ?_
    rintro e w3 ⟨rfl, h3, t3⟩
    have B3 := hide (below_touch (unhide B2) t3 (unhide B2).size (fun k hk => by omega))
    clear h3 t3 B2 KK
    go_wp2
    go_returns
    exact ⟨_, rfl, Row.nil _, New.nil _, (unhide HR).keep (Touch.of_below (S := fun _ => False) (unhide B3)) (fun h => h), Touch.of_below (unhide B3)⟩
  rw [if_neg hN] at hD
  have hN' : ¬ (t.length : Int) < 8 + (n : Int) := by omega
  have hsl := slice_8 a t.length cap n (by omega)
  have hpl : ((t.drop 8).take n).length = n := by rw [List.length_take, List.length_drop]; omega
  obtain ⟨p, hpe⟩ : ∃ p, p = (t.drop 8).take n := ⟨_, rfl⟩
  rw [← hpe] at hD hpl
  have LP : Hid (∀ w', LAt w' a t → LAt w' (cut a 8 cap) p) := fun w' h => by rw [hpe]; exact (h.drop hc 8).take n
  have CN : Hid (cut a 8 cap = none → cap - 8 = 0) := cut_none hn
  have CS : Hid (0 < p.length → ∀ x, cut a 8 cap = some x → x.block ≠ fb) := fun h0 x hx => by
    obtain ⟨y, hy, e⟩ := cut_block hx
    rw [e]; exact unhide HS (by omega) y hy
  clear hpe
  generalize cut a 8 cap = ca at *
  generalize cap - 8 = cc at *
  have SUM : Hid (∀ w', Ready Xo w' fb → LAt w' a t → Calls Try.prog 37 #[.pointer (some ⟨fb, 2, none⟩), .slice ca n cc] w' fun e w'' => e = .returned (.int .u32 (sm p : Nat)) ∧ TabAt Xo w'' fb 1 0 (stps 8) ∧ Touch (· = fb) w' w'') := by
    intro w' h1 h2
    have := sum_any fb ca p.length cc (fun i => p.getD i 0) w' h1 (unhide LP w' h2) (unhide CS) (by omega)
    rw [hpl] at this
    have e : mor (fun i => p.getD i 0) 0 n = sm p := by unfold sm; rw [hpl]
    rw [e] at this
    exact this
  have CLO : Hid (∀ w', LAt w' a t → Calls Try.prog 43 #[.slice ca n cc] w' fun e w'' => ∃ v, e = .returned v ∧ Row w'' v p ∧ New w' v ∧ Below w'.heap.size w' w'') := by
    intro w' h2
    have := clone_any ca p cc w' (unhide LP w' h2) (unhide CN) (by omega)
    rw [hpl] at this
    exact this
  clear hpl LP CN CS
  go_enter Try.func44, Try.ntmps44
  go_wp2_with fail
  refine (unhide NRH).mono ?_
  rintro e w1 ⟨b1, a1, c1, rfl, h1, bl1, hb1, _⟩
  have K := rfixed_any w1 h1
  rw [unhide X1] at K
  have KK := hide K
  have B1 := hide bl1
  clear K h1 bl1 NRH
  go_wp2_with fail
  refine (unhide KK).mono ?_
  rintro e w2 ⟨rfl, h2, t2⟩
  have K := rfixed_any w2 h2
  rw [unhide X2] at K
  have KK := hide K
  have B2 := hide (below_touch (unhide B1) t2 (unhide B1).size (fun k hk => by omega))
  clear K h2 t2 B1
  go_wp2_with fail
  refine (unhide KK).mono ?_
  rintro e w3 ⟨rfl, h3, t3⟩
  have B3 := hide (below_touch (unhide B2) t3 (unhide B2).size (fun k hk => by omega))
  have R3 := hide ((unhide HR).keep (Touch.of_below (S := fun _ => False) (unhide B3)) (fun h => h))
  have SU := hide (unhide SUM w3 (unhide R3) ((unhide HP).later (unhide B3)))
  clear h3 t3 B2 KK SUM
  go_wp2_with fail
  refine (unhide SU).mono ?_
  rintro e w4 ⟨rfl, h4t, t4⟩
  have T4 := hide (touch_new (Touch.of_below (S := (· = fb)) (unhide B3)) t4 (fun k hk => .inl hk))
  have R4 : Hid (Ready Xo w4 fb) := .inr h4t
  have CL := hide (unhide CLO w4 ((unhide HP).keep (unhide T4) (unhide HS)))
  clear h4t t4 SU CLO B3 R3
  generalize sm p = y at *
  by_cases hq : y = q
  · rw [if_pos hq] at hD
    subst hD
    subst hq
    go_wp2_with fail
    refine (unhide CL).mono ?_
    rintro e w5 ⟨v5, rfl, r5, n5, b5⟩
    have F : Hid (Row w5 v5 p ∧ New w v5 ∧ Fdone Xo w w5 fb) := ⟨r5, n5.mono (unhide T4).size, (unhide R4).keep (Touch.of_below (S := fun _ => False) b5) (fun h => h), touch_new (unhide T4) (Touch.of_below (S := fun _ => False) b5) (fun _ h => h.elim)⟩
    clear r5 n5 b5 CL
    go_wp2
    go_returns
    exact ⟨_, rfl, unhide F⟩
  · rw [if_neg hq] at hD
    subst hD
    have hq' : ¬ (y : Int) = (q : Int) := by omega
    go_wp2
    go_returns
    exact ⟨_, rfl, Row.nil _, New.nil _, unhide R4, unhide T4⟩

theorem fdecode_nil (v : Value) :
    Calls Try.prog 44 #[.pointer none, v] w fun e w' => e = .returned (.tuple #[.slice none 0 0, .int .i64 0, .int .i64 5]) ∧ w' = w := by
  go_enter Try.func44, Try.ntmps44
  go_wp2
  go_returns
  exact ⟨rfl, rfl⟩
end
end Go.Proofs.Ytcnmenfianeakac
