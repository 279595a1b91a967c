/-
  penstockref04.DocDecode, and 'awake' of layer 4. Conditions: the bytes are at most 2^47.
-/
import Derived.Test.YtcnmenfianeakabWFr2
import Derived.Lib.SlBytesConst
namespace Go.Proofs.Ytcnmenfianeakab
variable {Xo : Outer}
open Go.RowKit
set_option linter.unusedVariables false

theorem unfix_fix {n : Nat} (h : n < 4294967296) (u : List Nat) : unfix (fix n ++ u) 0 = n := by
  simp only [unfix, fix, List.cons_append, List.getD_cons_zero, List.getD_cons_succ, Nat.zero_add]
  omega
theorem unfix_fix4 {n : Nat} (m : Nat) (h : n < 4294967296) (u : List Nat) : unfix (fix m ++ (fix n ++ u)) 4 = n := by
  simp only [unfix, fix, List.cons_append, List.nil_append, List.getD_cons_zero, List.getD_cons_succ]
  omega
/-- A frame is read as what it is of, whatever stands behind it. -/
theorem dec_fenc {p : List Nat} (h : p.length ≤ 4096) (u : List Nat) : dec (fenc p ++ u) = (p, 8 + p.length, 0) := by
  have e : fenc p ++ u = fix p.length ++ (fix (sm p) ++ (p ++ u)) := by simp [fenc]
  have e0 : unfix (fenc p ++ u) 0 = p.length := by rw [e]; exact unfix_fix (by omega) _
  have e4 : unfix (fenc p ++ u) 4 = sm p := by rw [e]; exact unfix_fix4 _ (sm_lt p) _
  have ed : (fenc p ++ u).drop 8 = p ++ u := by rw [e]; rfl
  have el : (fenc p ++ u).length = 8 + p.length + u.length := by rw [List.length_append, fenc_len]
  have ep : (p ++ u).take p.length = p := List.take_left
  unfold dec
  rw [e0, e4, ed, ep, if_neg (by omega), if_neg (by omega), if_neg (by omega), if_pos rfl]

/-- Where the document's frame ends. -/
def docTo (at_ : Nat) (d : List Nat × Nat × Nat) : Nat := if d.2.2 = 0 then at_ + d.2.1 else 0

section
variable {w : World} {a : Option Addr} {cap : Nat} {t : List Nat}

set_option maxRecDepth 100000 in
set_option maxHeartbeats 4000000 in
theorem docdec_any (at_ : Nat) (hp : LAt w a t) (hn : a = none → cap = 0) (hc : t.length ≤ cap) (hat : at_ ≤ t.length) (hl : t.length ≤ 140737488355328) :
    Calls Try.prog 51 #[.slice a t.length cap, .int .i64 (at_ : Nat)] w fun e w' => ∃ a' n' c', e = .returned (.tuple #[.slice a' n' c', .int .i64 (docTo at_ (dec (t.drop at_)) : Nat), .int .i64 ((dec (t.drop at_)).2.2 : Nat)]) ∧ n' = (dec (t.drop at_)).1.length ∧ LAt w' a' (dec (t.drop at_)).1 ∧ (a' = none → c' = 0) ∧ (∀ x, a' = some x → ∃ y, a = some y ∧ x.block = y.block) ∧ Below w.heap.size w w' := by
  have HP := hide hp
  have hy := hp.bytes
  have hD : dec (t.drop at_) = if (t.drop at_).length < 8 then ([], 0, 6) else if 4096 < unfix (t.drop at_) 0 then ([], 0, 2) else if (t.drop at_).length < 8 + unfix (t.drop at_) 0 then ([], 0, 6) else if sm (((t.drop at_).drop 8).take (unfix (t.drop at_) 0)) = unfix (t.drop at_) 4 then (((t.drop at_).drop 8).take (unfix (t.drop at_) 0), 8 + unfix (t.drop at_) 0, 0) else ([], 0, 8) := rfl
  rw [List.length_drop, unfix_drop, unfix_drop, List.drop_drop, Nat.add_zero] at hD
  clear hp
  generalize dec (t.drop at_) = D at *
  have hBx : Below w.heap.size w (w.alloc (.cells #[.slice a t.length cap, .int .i64 (at_ : Nat), .int .i64 0] 123)) := (Below.refl _ _).alloc (Nat.le_refl _) _
  have R0 : RdAt 123 (w.alloc (.cells #[.slice a t.length cap, .int .i64 (at_ : Nat), .int .i64 0] 123)) w.heap.size a cap t ⟨at_, 0⟩ := by
    refine ⟨heap_new _ _, (unhide HP).later hBx, fun h0 x hx => ?_, hc, hn, hat, by simp, hl⟩
    obtain ⟨b', off', e1, e2, _⟩ := (unhide HP).cell h0
    rw [hx] at e1; cases e1; exact Nat.ne_of_lt e2
  have HB := hide hBx
  have K0 := hide (ffixed_any _ R0)
  clear R0 hBx
  by_cases h8 : t.length - at_ < 8
  · rw [if_pos h8] at hD
    subst hD
    by_cases h4 : at_ + 4 ≤ t.length
    · have X1 := hide (rX_ok (t := t) h4)
      have X2 := hide (rX_few (t := t) (p := at_ + 4) (by omega))
      have K1 := unhide K0
      rw [unhide X1] at K1
      have K1 := hide K1
      clear K0
      go_enter Try.func51, Try.ntmps51
      go_wp2_with fail
      refine (unhide K1).mono ?_
      rintro e w2 ⟨rfl, h2, t2⟩
      have K2 := ffixed_any w2 h2
      rw [unhide X2] at K2
      have KK := hide K2
      have B2 := hide (below_touch (unhide HB) t2 (unhide HB).size (fun k hk => by omega))
      clear K2 h2 t2 K1
      go_wp2_with fail
      refine (unhide KK).mono ?_
      rintro e w3 ⟨rfl, h3, t3⟩
      have B3 := hide (below_touch (unhide B2) t3 (unhide B2).size (fun k hk => by omega))
      have c1 := h3.c1
      have c2 := h3.c2
      clear h3 t3 B2 KK
      go_wp2
      go_returns
      exact ⟨_, _, _, rfl, rfl, (fun i hi => by cases hi), fun _ => rfl, (fun x hx => by cases hx), unhide B3⟩
    · have X1 := hide (rX_few (t := t) h4)
      have X2 := hide (rX_stop (t := t) (s := ⟨at_, 6⟩) (by simp))
      have K1 := unhide K0
      rw [unhide X1] at K1
      have K1 := hide K1
      clear K0
      go_enter Try.func51, Try.ntmps51
      go_wp2_with fail
      refine (unhide K1).mono ?_
      rintro e w2 ⟨rfl, h2, t2⟩
      have K2 := ffixed_any w2 h2
      rw [unhide X2] at K2
      have KK := hide K2
      have B2 := hide (below_touch (unhide HB) t2 (unhide HB).size (fun k hk => by omega))
      clear K2 h2 t2 K1
      go_wp2_with fail
      refine (unhide KK).mono ?_
      rintro e w3 ⟨rfl, h3, t3⟩
      have B3 := hide (below_touch (unhide B2) t3 (unhide B2).size (fun k hk => by omega))
      have c1 := h3.c1
      have c2 := h3.c2
      clear h3 t3 B2 KK
      go_wp2
      go_returns
      exact ⟨_, _, _, rfl, rfl, (fun i hi => by cases hi), fun _ => rfl, (fun x hx => by cases hx), unhide B3⟩
  rw [if_neg h8] at hD
  have X1 := hide (rX_ok (t := t) (p := at_) (by omega))
  have X2 := hide (rX_ok (t := t) (p := at_ + 4) (by omega))
  have hu0 := unfix_lt hy (p := at_) (by omega)
  have hu4 := unfix_lt hy (p := at_ + 4) (by omega)
  have K1 := unhide K0
  rw [unhide X1] at K1
  have K1 := hide K1
  clear K0 hy
  obtain ⟨P, hP⟩ : ∃ P : Nat, at_ + 8 = P := ⟨_, rfl⟩
  rw [show at_ + 4 + 4 = P by omega] at X2
  rw [hP] at hD
  generalize unfix t at_ = n at *
  generalize unfix t (at_ + 4) = q at *
  have hPl : P ≤ t.length := by omega
  by_cases h4 : 4096 < n
  · rw [if_pos h4] at hD
    subst hD
    have h4' : (4096 : Int) < (n : Int) := by omega
    go_enter Try.func51, Try.ntmps51
    go_wp2_with fail
    refine (unhide K1).mono ?_
    rintro e w2 ⟨rfl, h2, t2⟩
    have K2 := ffixed_any w2 h2
    rw [unhide X2] at K2
    have KK := hide K2
    have B2 := hide (below_touch (unhide HB) t2 (unhide HB).size (fun k hk => by omega))
    clear K2 h2 t2 K1
    go_wp2_with fail
    refine (unhide KK).mono ?_
    rintro e w3 ⟨rfl, h3, t3⟩
    have B3 := hide (below_touch (unhide B2) t3 (unhide B2).size (fun k hk => by omega))
    have c1 := h3.c1
    have c2 := h3.c2
    clear h3 t3 B2 KK
    go_wp2
    go_returns
    exact ⟨_, _, _, rfl, rfl, (fun i hi => by cases hi), fun _ => rfl, (fun x hx => by cases hx), unhide B3⟩
  rw [if_neg h4] at hD
  have h4' : ¬ (4096 : Int) < (n : Int) := by omega
  by_cases hN : t.length - at_ < 8 + n
  · rw [if_pos hN] at hD
    subst hD
    have hN' : (t.length : Int) < (P : Int) + (n : Int) := by omega
    go_enter Try.func51, Try.ntmps51
    go_wp2_with fail
    refine (unhide K1).mono ?_
    rintro e w2 ⟨rfl, h2, t2⟩
    have K2 := ffixed_any w2 h2
    rw [unhide X2] at K2
    have KK := hide K2
    have B2 := hide (below_touch (unhide HB) t2 (unhide HB).size (fun k hk => by omega))
    clear K2 h2 t2 K1
    go_wp2_with fail
    refine (unhide KK).mono ?_
    rintro e w3 ⟨rfl, h3, t3⟩
    have B3 := hide (below_touch (unhide B2) t3 (unhide B2).size (fun k hk => by omega))
    have c1 := h3.c1
    have c2 := h3.c2
    clear h3 t3 B2 KK
    go_wp2
    go_returns
    exact ⟨_, _, _, rfl, rfl, (fun i hi => by cases hi), fun _ => rfl, (fun x hx => by cases hx), unhide B3⟩
  rw [if_neg hN] at hD
  have hN' : ¬ (t.length : Int) < (P : Int) + (n : Int) := by omega
  have hsl := slice_lh a t.length cap P n (by omega)
  have hpl : ((t.drop P).take n).length = n := by rw [List.length_take, List.length_drop]; omega
  obtain ⟨p, hpe⟩ : ∃ p, p = (t.drop P).take n := ⟨_, rfl⟩
  rw [← hpe] at hD hpl
  have LP : Hid (∀ w', LAt w' a t → LAt w' (cut a P cap) p) := fun w' h => by rw [hpe]; exact (h.drop hc P).take n
  have CN : Hid (cut a P cap = none → cap - P = 0) := cut_none hn
  have CB : Hid (∀ x, cut a P cap = some x → ∃ y, a = some y ∧ x.block = y.block) := fun x hx => cut_block hx
  clear hpe
  generalize cut a P cap = ca at *
  generalize cap - P = cc at *
  have MORE : Hid (∀ w', LAt w' a t → Calls Try.prog 53 #[.int .u32 0, .slice ca n cc] w' fun e w'' => e = .returned (.int .u32 (sm p : Nat)) ∧ w'' = w') := by
    intro w' h2
    have := refmore_any 0 ca p.length cc (fun i => p.getD i 0) w' (by omega) (unhide LP w' h2) (by omega)
    rw [hpl] at this
    have e : mor (fun i => p.getD i 0) 0 n = sm p := by unfold sm; rw [hpl]
    rw [e] at this
    exact this
  have HPL := hide hpl
  clear hpl
  go_enter Try.func51, Try.ntmps51
  go_wp2_with fail
  refine (unhide K1).mono ?_
  rintro e w2 ⟨rfl, h2, t2⟩
  have K2 := ffixed_any w2 h2
  rw [unhide X2] at K2
  have KK := hide K2
  have B2 := hide (below_touch (unhide HB) t2 (unhide HB).size (fun k hk => by omega))
  clear K2 h2 t2 K1
  go_wp2_with fail
  refine (unhide KK).mono ?_
  rintro e w3 ⟨rfl, h3, t3⟩
  have B3 := hide (below_touch (unhide B2) t3 (unhide B2).size (fun k hk => by omega))
  have c1 := h3.c1
  have c2 := h3.c2
  clear h3 t3 B2 KK
  have LW3 := hide ((unhide HP).later (unhide B3))
  have BN : Hid (∀ m, Below w.heap.size w (w3.drewN m)) := fun m => below_drewN (unhide B3) m
  clear B3
  generalize sm p = y at *
  by_cases hq : y = q
  · rw [if_pos hq] at hD
    subst hD
    subst hq
    have ET : Hid (docTo at_ (p, 8 + n, 0) = P + n) := by show docTo at_ (p, 8 + n, 0) = P + n; unfold docTo; rw [if_pos rfl]; show at_ + (8 + n) = P + n; omega
    go_wp2_with fail
    go_quiet (fail)
    go_wp2_with fail
    refine (unhide MORE (w3.drewN nq) (unhide LW3)).mono ?_
    rintro e w4 ⟨rfl, rfl⟩
    go_wp2_with fail
    go_quiet (fail)
    go_wp2
    go_returns
    refine ⟨_, _, _, ?_, (unhide HPL).symm, unhide LP _ (unhide LW3), unhide CN, unhide CB, unhide BN _⟩
    rw [unhide ET]
    rfl
  · rw [if_neg hq] at hD
    subst hD
    have hq' : ¬ (y : Int) = (q : Int) := by omega
    go_wp2_with fail
    go_quiet (fail)
    go_wp2_with fail
    refine (unhide MORE (w3.drewN nq) (unhide LW3)).mono ?_
    rintro e w4 ⟨rfl, rfl⟩
    go_wp2
    go_returns
    exact ⟨_, _, _, rfl, rfl, (fun i hi => by cases hi), fun _ => rfl, (fun x hx => by cases hx), unhide BN _⟩
end

theorem two_ab : unfix (fenc [97, 98]) 0 = 2 := by simpa [fenc] using unfix_fix (n := 2) (by omega) (fix (sm [97, 98]) ++ [97, 98])
theorem dec_ab : dec (fenc [97, 98]) = ([97, 98], 10, 0) := by
  have := dec_fenc (p := [97, 98]) (by simp) []
  rw [List.append_nil] at this
  exact this

end Go.Proofs.Ytcnmenfianeakab
