/-
  FrameDecodes walked: it answers true. Conditions: the bytes are at most 2^47.
-/
import Derived.Test.YtnhociggoagpoabFrameEncodesWalk
namespace Go.Proofs.Ytnhociggoagpoab
open Go.RowKit
set_option linter.unusedVariables false

theorem dec_len (t : List Nat) : (dec t).1.length ≤ t.length := by
  unfold dec
  split
  · simp
  · split
    · simp
    · split
      · simp
      · split
        · simp only [List.length_take, List.length_drop]; omega
        · simp
theorem docTo_zero (t : List Nat) : docTo 0 (dec t) = (dec t).2.1 := by
  unfold docTo
  split
  · omega
  · rename_i h
    unfold dec at h ⊢
    split
    · rfl
    · rename_i h1
      rw [if_neg h1] at h
      split
      · rfl
      · rename_i h2
        rw [if_neg h2] at h
        split
        · rfl
        · rename_i h3
          rw [if_neg h3] at h
          split
          · rename_i h4; rw [if_pos h4] at h; exact absurd rfl h
          · rfl

set_option maxRecDepth 100000 in
set_option maxHeartbeats 4000000 in
theorem frameDecodes_walk (a : Option Addr) (cap : Nat) (t : List Nat) (w : World) (hp : LAt w a t) (hn : a = none → cap = 0) (hcp : t.length ≤ cap) (hl : t.length ≤ 140737488355328) :
    Calls Try.prog 5 #[.slice a t.length cap] w fun e w' => e = .returned (.bool true) ∧ Below w.heap.size w w' := by
  have HP := hide hp
  clear hp
  have hDl := dec_len t
  go_enter Try.func5, Try.ntmps5
  go_wp2_with fail
  refine (fnew_any w).mono ?_
  rintro e w1 ⟨rfl, h1, b1⟩
  have R1 := hide h1
  have B1 := hide b1
  have hfb := h1.lt
  have DE := docdec_any 0 ((unhide HP).later b1) hn hcp (Nat.zero_le _) hl
  rw [List.drop_zero, docTo_zero] at DE
  have DEH := hide DE
  clear h1 b1 DE
  go_wp2_with fail
  refine (unhide DEH).mono ?_
  rintro e w2 ⟨a2, n2, c2, rfl, hn2, l2, hnn2, hbl2, b2⟩
  have R2 := hide ((unhide R1).keep (Touch.of_below (S := fun _ => False) b2) (fun h => h))
  have B2 := hide ((unhide B1).trans (b2.mono (unhide B1).size))
  have OLD : Hid (∀ w', Below w.heap.size w w' → LAt w' a2 (dec t).1) := by
    intro w' hb
    intro i hi
    obtain ⟨cb, off, e1, e2, e3, e4⟩ := l2.cell hi
    obtain ⟨y, hy, e⟩ := hbl2 _ e1
    have hlt : y.block < w.heap.size := by
      obtain ⟨b', off', f1, f2, _⟩ := (unhide HP).cell (i := 0) (by omega)
      rw [hy] at f1; cases f1; exact f2
    have hcb : cb < w.heap.size := by
      have e' : cb = y.block := e
      omega
    refine ⟨cb, off, e1, Nat.lt_of_lt_of_le hcb hb.size, ?_, e4⟩
    rw [hb.cell (p := ⟨cb, off + i, none⟩) hcb, ← (unhide B2).cell (p := ⟨cb, off + i, none⟩) hcb]
    exact e3
  have hs12 := b2.size
  clear b2 DEH R1 l2 hbl2
  go_wp2_with fail
  refine (awake4_any w2).mono ?_
  rintro e w3 ⟨rfl, b3⟩
  have R3 := hide ((unhide R2).keep (Touch.of_below (S := fun _ => False) b3) (fun h => h))
  have B3 := hide ((unhide B2).trans (b3.mono (unhide B2).size))
  have hs23 := b3.size
  clear b3 R2 B2
  have P3 := hide ((unhide HP).later (unhide B3))
  have R0 := hide (Row.lit w3 [] (fun x hx => by cases hx) #[] rfl (by simp [maxLen]))
  go_wp2_with (at_builtin; refine wpList_row _ rfl (.tmp 21) (.tmp 22) rfl _ [] rfl (unhide R0) a cap t rfl ((unhide P3).keep ((Touch.refl (fun _ => False) w3).alloc _) (fun _ _ _ h => h)) hn (by simpa using hl) ?_)
  intro vc w4 r4 t4 m4
  have F4 := fresh_copy4 r4 t4 m4
  clear r4 t4 m4 R0 P3
  have hs34 := F4.2.2.size
  have R4 := hide ((unhide R3).keep (Touch.of_below (S := fun _ => False) F4.2.2) (fun h => h))
  have B4 := hide ((unhide B3).trans (F4.2.2.mono (unhide B3).size))
  have C4 := hide F4.1
  have NC : Hid (∀ k, vc.ownBlock = some k → w.heap.size < k ∧ k < w4.heap.size) := fun k hk => ⟨by have := F4.2.1 k hk; omega, F4.1.lt k hk⟩
  obtain ⟨ac, cc, rfl, lc, hcc, _, hnc, hoc, _⟩ := F4.1.parts
  have DC := hide (fdecode_any (unhide R4) lc hnc hcc (fun h0 x hx => by have := unhide NC x.block (hoc x hx); omega) hl)
  clear F4 R3 B3 lc hcc hnc hoc
  go_wp2_with fail
  refine (unhide DC).mono ?_
  rintro e w5 ⟨vb, rfl, r5, n5, d5⟩
  have C5 := hide ((unhide C4).keep d5.touch (fun i hi e => by have := unhide NC i hi; omega))
  have B5 := hide (below_touch (unhide B4) d5.touch (unhide B4).size (fun i hi => by omega))
  have NB : Hid (∀ i, vb.ownBlock = some i → w4.heap.size ≤ i) := n5
  have RB := hide r5
  obtain ⟨ab, cb, rfl, lb, _, _, _, _, _⟩ := r5.parts
  subst hn2
  have SM := hide (same_any w5 ab a2 cb c2 (dec t).1 lb (unhide OLD w5 (unhide B5)) (by omega))
  clear r5 n5 d5 lb DC R4 B4 C4
  generalize dec t = D at *
  obtain ⟨W, sz, er⟩ := D
  simp only at hDl SM RB NB OLD
  go_wp2_with fail
  refine (unhide SM).mono ?_
  rintro e w6 ⟨rfl, n6, rfl⟩
  have C6 := hide ((unhide C5).drewN n6)
  have RB6 := hide ((unhide RB).drewN n6)
  have B6 := hide (below_drewN (unhide B5) n6)
  clear C5 RB B5 SM
  generalize w5.drewN n6 = w7 at *
  go_wp2_with fail
  go_loopw [47] (fun i wr => ∃ (j : Nat) (l' : List Nat), j ≤ W.length ∧ i = .int .i64 j ∧ Row wr (.slice ab W.length cb) l' ∧ Touch (fun i => (Value.slice ab W.length cb).ownBlock = some i) w7 wr) (fun i _ => W.length - (intOf i).toNat)
  case atStart => exact ⟨0, W, Nat.zero_le _, rfl, unhide RB6, Touch.refl _ _⟩
  case round =>
    obtain ⟨j, l', hj, rfl, rl, tl⟩ := hrel
    by_cases hjc : j < W.length
    · obtain ⟨gg, rfl, ⟨y, hcell⟩, hfz, rl2, tl2⟩ := rl.put (k := j) hjc (x := 5) (by omega)
      have RL2 := hide rl2
      have TL2 := hide (tl.trans tl2)
      clear rl tl rl2 tl2
      have hjc' : (j : Int) < (W.length : Int) := by omega
      go_wp2
      go_roundw
      case rel => exact ⟨j + 1, _, by omega, by go_num, unhide RL2, unhide TL2⟩
      case measure => simp [intOf]; omega
    · obtain rfl : j = W.length := by omega
      have C8 := (unhide C6).keep tl (fun i hi e => by have := unhide NB _ e; have := unhide NC i hi; omega)
      have B8 := hide (below_touch (unhide B6) tl (unhide B6).size (fun i hi => by have := unhide NB _ hi; omega))
      obtain ⟨_, _, e, lc8, _⟩ := C8.parts
      cases e
      have SM := hide (same_any wr ac a cc cap t lc8 ((unhide HP).later (unhide B8)) (by omega))
      clear rl tl C8 lc8
      go_wp2_with fail
      refine (unhide SM).mono ?_
      rintro e w9 ⟨rfl, n9, rfl⟩
      go_wp2
      go_returns
      exact ⟨rfl, below_drewN (unhide B8) n9⟩
end Go.Proofs.Ytnhociggoagpoab
