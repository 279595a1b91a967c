/-
  Apply: what is no command, or names what there isn't; CJoin; CBlock. Conditions: the image as it lies, epochs and the count below 2^62.
-/
import Derived.Test.YtfakjcaolpmkeaaIg5
namespace Go.Proofs.Ytfakjcaolpmkeaa
open Go.RowKit Go.Maps
set_option linter.unusedVariables false

/-- A command, and where its list lies. -/
structure Cm where
  kd : Int
  nd : Int
  pt : Int
  ep : Int
  ve : Int
  a : Option Addr
  k : Nat
  l : List Int
def cmA (c : Cm) : Array Value := #[.int .i64 c.kd, .int .i64 c.nd, .int .i64 c.pt, .int .i64 c.ep, .int .i64 c.ve, .slice c.a c.l.length c.k]
structure CIn (w : World) (c : Cm) : Prop where
  li : IAt w c.a c.l
  len : c.l.length ≤ maxLen
theorem CIn.later {w w' : World} {c : Cm} (h : CIn w c) (hb : Below w.heap.size w w') : CIn w' c := ⟨h.li.later hb, h.len⟩
theorem CIn.keep {w w' : World} {c : Cm} {S : Nat → Prop} (h : CIn w c) (t : Touch S w w') (hs : 0 < c.l.length → ∀ x, c.a = some x → ¬ S x.block) : CIn w' c := ⟨h.li.keep t hs, h.len⟩
def isC (c : Cm) : Bool := decide (1 ≤ c.kd) && decide (c.kd ≤ 5) && decide (c.l.length ≤ 5)
def fitsB (n p : Nat) (c : Cm) : Bool :=
  isC c && (if c.kd = 4 then isN p c.pt && isL n c.l else if c.kd = 3 then isN n c.nd && isN p c.pt && isL n c.l else isN n c.nd)
theorem box6 (w : World) (c0 c1 c2 c3 c4 : Int) (v : Value) (t : TypeId) : (w.alloc (.cells #[.int .i64 c0, .int .i64 c1, .int .i64 c2, .int .i64 c3, .int .i64 c4, v] t)).heap[w.heap.size]? = some (.cells #[.int .i64 c0, .int .i64 c1, .int .i64 c2, .int .i64 c3, .int .i64 c4, v] t) := heap_new _ _
theorem isCmd_any (w : World) (c : Cm) (hl : c.l.length ≤ maxLen) : Calls Try.prog 32 #[.agg (cmA c)] w fun e w' => e = .returned (.bool (isC c)) ∧ Below w.heap.size w w' := by
  obtain ⟨kd, nd, pt, ep, ve, a, k, l⟩ := c
  unfold isC cmA
  simp only at hl ⊢
  have hb : l.length ≤ 9223372036854775807 := by unfold maxLen at hl; omega
  clear hl
  generalize l.length = n at *
  have B := (Below.refl w.heap.size w).alloc (Nat.le_refl _) (.cells #[.int .i64 kd, .int .i64 nd, .int .i64 pt, .int .i64 ep, .int .i64 ve, .slice a n k] 49)
  by_cases h1 : 1 ≤ kd
  · by_cases h2 : kd ≤ 5
    · by_cases h3 : (n : Int) ≤ 5
      all_goals
        go_enter Try.func32, Try.ntmps32
        go_wp2
        go_returns
        exact ⟨by simp [h1, h2]; omega, B⟩
    · go_enter Try.func32, Try.ntmps32
      go_wp2
      go_returns
      exact ⟨by simp; intros; omega, B⟩
  · go_enter Try.func32, Try.ntmps32
    go_wp2
    go_returns
    exact ⟨by simp; intros; omega, B⟩
section
variable {w w' : World} {mb : Nat} {m : Im}
set_option maxHeartbeats 2000000 in
theorem fits_any (h : ImAt w mb m) {c : Cm} (hc : CIn w c) : Calls Try.prog 18 #[.pointer (some ⟨mb, 0, none⟩), .agg (cmA c)] w fun e w' => e = .returned (.bool (fitsB m.ns.length m.ps.length c)) ∧ Below w.heap.size w w' := by
  obtain ⟨kd, nd, pt, ep, ve, a, k, l⟩ := c
  have B := hide ((Below.refl w.heap.size w).alloc (Nat.le_refl _) (.cells #[.int .i64 kd, .int .i64 nd, .int .i64 pt, .int .i64 ep, .int .i64 ve, .slice a l.length k] 49))
  have HB := hide (box6 w kd nd pt ep ve (.slice a l.length k) 49)
  have H1 := hide (h.later (unhide B))
  have HC := hide (hc.later (unhide B))
  have KK := hide (isCmd_any (w.alloc (.cells #[.int .i64 kd, .int .i64 nd, .int .i64 pt, .int .i64 ep, .int .i64 ve, .slice a l.length k] 49)) ⟨kd, nd, pt, ep, ve, a, k, l⟩ hc.len)
  have hbig : l.length ≤ 9223372036854775807 := by have := hc.len; unfold maxLen at this; simp only at this; omega
  clear h hc
  unfold cmA at KK ⊢
  simp only at KK HC ⊢
  have FD : fitsB m.ns.length m.ps.length ⟨kd, nd, pt, ep, ve, a, k, l⟩ = (isC ⟨kd, nd, pt, ep, ve, a, k, l⟩ && (if kd = 4 then isN m.ps.length pt && isL m.ns.length l else if kd = 3 then isN m.ns.length nd && isN m.ps.length pt && isL m.ns.length l else isN m.ns.length nd)) := rfl
  have KW : Hid (∀ W, Below (w.alloc (.cells #[.int .i64 kd, .int .i64 nd, .int .i64 pt, .int .i64 ep, .int .i64 ve, .slice a l.length k] 49)).heap.size (w.alloc (.cells #[.int .i64 kd, .int .i64 nd, .int .i64 pt, .int .i64 ep, .int .i64 ve, .slice a l.length k] 49)) W → Below w.heap.size w W ∧ W.cell? ⟨w.heap.size, 0, none⟩ = some (.int .i64 kd) ∧ W.cell? ⟨w.heap.size, 1, none⟩ = some (.int .i64 nd) ∧ W.cell? ⟨w.heap.size, 2, none⟩ = some (.int .i64 pt) ∧ W.cell? ⟨w.heap.size, 5, none⟩ = some (.slice a l.length k) ∧ Hid (Calls Try.prog 27 #[.pointer (some ⟨mb, 0, none⟩), .int .i64 nd] W fun e w' => e = .returned (.bool (isN m.ns.length nd)) ∧ w' = W) ∧ Hid (Calls Try.prog 24 #[.pointer (some ⟨mb, 0, none⟩), .int .i64 pt] W fun e w' => e = .returned (.bool (isN m.ps.length pt)) ∧ w' = W) ∧ Hid (Calls Try.prog 33 #[.pointer (some ⟨mb, 0, none⟩), .slice a l.length k] W fun e w' => e = .returned (.bool (isL m.ns.length l)) ∧ Touch (fun _ => False) W w')) := hide (fun W hb => by
    have hh := below_keep hb (unhide HB)
    have h1 := (unhide H1).later hb
    have h2 := (unhide HC).later hb
    exact ⟨(unhide B).trans (hb.mono (unhide B).size), cell_of hh 0, cell_of hh 1, cell_of hh 2, cell_of hh 5, hide (isNode_eq h1 nd), hide (isPart_eq h1 pt), hide (isList_any h1 h2.li h2.len)⟩)
  rw [FD]
  clear B HB H1 HC FD
  generalize isC ⟨kd, nd, pt, ep, ve, a, k, l⟩ = ic at *
  generalize isL m.ns.length l = il at *
  generalize isN m.ns.length nd = inn at *
  generalize isN m.ps.length pt = ip at *
  obtain ⟨R, HR⟩ : ∃ R : Bool, Hid (R = (ic && (if kd = 4 then ip && il else if kd = 3 then inn && ip && il else inn))) := ⟨_, hide rfl⟩
  rw [← unhide HR]
  cases ic with
  | false =>
    go_enter Try.func18, Try.ntmps18
    go_wp2_with (first | (go_at_call 32; refine (unhide KK).mono ?_; rintro e w1 ⟨rfl, b1⟩; obtain ⟨BW, c0, c1, c2, c5, KN, KP, KL⟩ := unhide KW w1 b1; have BW1 := hide BW; clear b1 BW) | (go_at_call 24; refine (unhide KP).mono ?_; rintro e w2 ⟨rfl, rfl⟩) | (go_at_call 27; refine (unhide KN).mono ?_; rintro e w2 ⟨rfl, rfl⟩) | (go_at_call 33; refine (unhide KL).mono ?_; rintro e w3 ⟨rfl, t3⟩; have T3 := hide t3; clear t3))
    go_returns
    exact ⟨by rw [unhide HR]; simp, unhide BW1⟩
  | true =>
    by_cases h4 : kd = 4
    · subst h4
      cases ip with
      | false =>
        go_enter Try.func18, Try.ntmps18
        go_wp2_with (first | (go_at_call 32; refine (unhide KK).mono ?_; rintro e w1 ⟨rfl, b1⟩; obtain ⟨BW, c0, c1, c2, c5, KN, KP, KL⟩ := unhide KW w1 b1; have BW1 := hide BW; clear b1 BW) | (go_at_call 24; refine (unhide KP).mono ?_; rintro e w2 ⟨rfl, rfl⟩) | (go_at_call 27; refine (unhide KN).mono ?_; rintro e w2 ⟨rfl, rfl⟩) | (go_at_call 33; refine (unhide KL).mono ?_; rintro e w3 ⟨rfl, t3⟩; have T3 := hide t3; clear t3))
        go_returns
        exact ⟨by rw [unhide HR]; simp, unhide BW1⟩
      | true =>
        go_enter Try.func18, Try.ntmps18
        go_wp2_with (first | (go_at_call 32; refine (unhide KK).mono ?_; rintro e w1 ⟨rfl, b1⟩; obtain ⟨BW, c0, c1, c2, c5, KN, KP, KL⟩ := unhide KW w1 b1; have BW1 := hide BW; clear b1 BW) | (go_at_call 24; refine (unhide KP).mono ?_; rintro e w2 ⟨rfl, rfl⟩) | (go_at_call 27; refine (unhide KN).mono ?_; rintro e w2 ⟨rfl, rfl⟩) | (go_at_call 33; refine (unhide KL).mono ?_; rintro e w3 ⟨rfl, t3⟩; have T3 := hide t3; clear t3))
        go_returns
        exact ⟨by rw [unhide HR]; simp, below_touch (unhide BW1) (unhide T3) (unhide BW1).size (fun _ h => h.elim)⟩
    · have h4b : (kd == 4) = false := by simp [h4]
      by_cases h3 : kd = 3
      · subst h3
        clear h4b h4
        cases inn with
        | false =>
          go_enter Try.func18, Try.ntmps18
          go_wp2_with (first | (go_at_call 32; refine (unhide KK).mono ?_; rintro e w1 ⟨rfl, b1⟩; obtain ⟨BW, c0, c1, c2, c5, KN, KP, KL⟩ := unhide KW w1 b1; have BW1 := hide BW; clear b1 BW) | (go_at_call 24; refine (unhide KP).mono ?_; rintro e w2 ⟨rfl, rfl⟩) | (go_at_call 27; refine (unhide KN).mono ?_; rintro e w2 ⟨rfl, rfl⟩) | (go_at_call 33; refine (unhide KL).mono ?_; rintro e w3 ⟨rfl, t3⟩; have T3 := hide t3; clear t3))
          go_returns
          exact ⟨by rw [unhide HR]; simp, unhide BW1⟩
        | true =>
          cases ip with
          | false =>
            go_enter Try.func18, Try.ntmps18
            go_wp2_with (first | (go_at_call 32; refine (unhide KK).mono ?_; rintro e w1 ⟨rfl, b1⟩; obtain ⟨BW, c0, c1, c2, c5, KN, KP, KL⟩ := unhide KW w1 b1; have BW1 := hide BW; clear b1 BW) | (go_at_call 24; refine (unhide KP).mono ?_; rintro e w2 ⟨rfl, rfl⟩) | (go_at_call 27; refine (unhide KN).mono ?_; rintro e w2 ⟨rfl, rfl⟩) | (go_at_call 33; refine (unhide KL).mono ?_; rintro e w3 ⟨rfl, t3⟩; have T3 := hide t3; clear t3))
            go_returns
            exact ⟨by rw [unhide HR]; simp, unhide BW1⟩
          | true =>
            go_enter Try.func18, Try.ntmps18
            go_wp2_with (first | (go_at_call 32; refine (unhide KK).mono ?_; rintro e w1 ⟨rfl, b1⟩; obtain ⟨BW, c0, c1, c2, c5, KN, KP, KL⟩ := unhide KW w1 b1; have BW1 := hide BW; clear b1 BW) | (go_at_call 24; refine (unhide KP).mono ?_; rintro e w2 ⟨rfl, rfl⟩) | (go_at_call 27; refine (unhide KN).mono ?_; rintro e w2 ⟨rfl, rfl⟩) | (go_at_call 33; refine (unhide KL).mono ?_; rintro e w3 ⟨rfl, t3⟩; have T3 := hide t3; clear t3))
            go_returns
            exact ⟨by rw [unhide HR]; simp, below_touch (unhide BW1) (unhide T3) (unhide BW1).size (fun _ h => h.elim)⟩
      · have h3b : (kd == 3) = false := by simp [h3]
        go_enter Try.func18, Try.ntmps18
        go_wp2_with (first | (go_at_call 32; refine (unhide KK).mono ?_; rintro e w1 ⟨rfl, b1⟩; obtain ⟨BW, c0, c1, c2, c5, KN, KP, KL⟩ := unhide KW w1 b1; have BW1 := hide BW; clear b1 BW) | (go_at_call 24; refine (unhide KP).mono ?_; rintro e w2 ⟨rfl, rfl⟩) | (go_at_call 27; refine (unhide KN).mono ?_; rintro e w2 ⟨rfl, rfl⟩) | (go_at_call 33; refine (unhide KL).mono ?_; rintro e w3 ⟨rfl, t3⟩; have T3 := hide t3; clear t3))
        go_returns
        exact ⟨by rw [unhide HR]; simp [h3, h4], unhide BW1⟩
end
end Go.Proofs.Ytfakjcaolpmkeaa
