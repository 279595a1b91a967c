/-
  FrameEncodes walked: it answers true. Conditions: the bytes are at most 2^47.
-/
import Derived.Test.YtnhociggoagpoabFr3
namespace Go.Proofs.Ytnhociggoagpoab
open Go.RowKit
set_option linter.unusedVariables false

def encW (p : List Nat) : List Nat := if p.length ≤ 4096 then fenc p else []
def encG (p : List Nat) : Nat := if p.length ≤ 4096 then 0 else 2
theorem encW_len (p : List Nat) : (encW p).length ≤ 4104 := by
  unfold encW; split
  · rw [fenc_len]; omega
  · simp

section
variable {w : World} {fb : Nat} {a : Option Addr} {cap : Nat} {p : List Nat}
theorem fencode2 (hr : Ready w fb) (hp : LAt w a p) (hn : a = none → cap = 0) (hs : 0 < p.length → ∀ x, a = some x → x.block ≠ fb) :
    Calls Try.prog 23 #[.pointer (some ⟨fb, 0, none⟩), .slice a p.length cap] w fun e w' => ∃ v, e = .returned (.tuple #[v, .int .i64 (encG p : Nat)]) ∧ Row w' v (encW p) ∧ New w v ∧ Fdone w w' fb := by
  by_cases h : p.length ≤ 4096
  · unfold encW encG
    rw [if_pos h, if_pos h]
    exact fencode_any hr hp hn hs h
  · unfold encW encG
    rw [if_neg h, if_neg h]
    refine (fencode_long a p.length cap (by omega)).mono ?_
    rintro e w' ⟨rfl, rfl⟩
    exact ⟨_, rfl, Row.nil _, New.nil _, hr, Touch.refl _ _⟩
theorem docenc2 (hp : LAt w a p) (hn : a = none → cap = 0) :
    Calls Try.prog 21 #[.slice a p.length cap] w fun e w' => ∃ v, e = .returned (.tuple #[v, .int .i64 (encG p : Nat)]) ∧ Fresh w w' v (encW p) := by
  by_cases h : p.length ≤ 4096
  · unfold encW encG
    rw [if_pos h, if_pos h]
    exact docenc_any hp hn h
  · unfold encW encG
    rw [if_neg h, if_neg h]
    refine (docenc_long p.length (by omega)).mono ?_
    rintro e w' ⟨rfl, rfl⟩
    exact ⟨_, rfl, Row.nil _, New.nil _, Below.refl _ _⟩
end

theorem fresh_copy4 {w w' : World} {v : Value} {l : List Nat} (r : Row w' v l) (t : Touch (fun k => (Value.slice (some ⟨w.heap.size, 0, none⟩) 0 0).ownBlock = some k) (w.alloc (.cells #[] 5)) w') (m : Moved (w.alloc (.cells #[] 5)) (.slice (some ⟨w.heap.size, 0, none⟩) 0 0) v) : Fresh w w' v l := by
  refine ⟨r, fun k hk => ?_, ?_⟩
  · rcases m k hk with e | e
    · simp [Value.ownBlock] at e; omega
    · simp at e; omega
  · exact below_touch ((Below.refl _ w).alloc (Nat.le_refl _) _) t (by simp) (fun k hk => by simp [Value.ownBlock] at hk; omega)
theorem Row.drewN {w : World} {v : Value} {l : List Nat} (h : Row w v l) (n : Nat) : Row (w.drewN n) v l := ⟨h.own, h.bytes⟩
theorem Ready.drewN {w : World} {b : Nat} (m : Ready w b) (n : Nat) : Ready (w.drewN n) b := by
  rcases m with ⟨T, m⟩ | m
  · obtain ⟨cs, h1, h2⟩ := m.ex; exact .inl ⟨T, ⟨cs, h1, h2⟩⟩
  · obtain ⟨cs, h1, h2⟩ := m.ex; exact .inr ⟨cs, h1, h2⟩
/-- Of a row of the call's own a place is stored into: it stays a row, and nothing else turns. -/
theorem Row.put {w : World} {a : Option Addr} {n cap : Nat} {l : List Nat} (h : Row w (.slice a n cap) l) {k : Nat} (hk : k < n) {x : Nat} (hx : x < 256) :
    ∃ g, a = some ⟨g, 0, none⟩ ∧ (∃ y : Nat, w.cell? ⟨g, k, none⟩ = some (.int .u8 (y : Nat))) ∧ w.frozen? ⟨g, k, none⟩ = false ∧ Row (w.setCell ⟨g, k, none⟩ (.int .u8 (x : Nat))) (.slice a n cap) (l.set k x) ∧ Touch (fun i => (Value.slice a n cap).ownBlock = some i) w (w.setCell ⟨g, k, none⟩ (.int .u8 (x : Nat))) := by
  obtain ⟨a', cap', e, h1, _, _, _, _, h2⟩ := h.parts
  cases e
  obtain ⟨g, hg, hf⟩ := h2 k hk
  cases hg
  obtain ⟨b, off, e1, _, e3, _⟩ := h1.cell hk
  cases e1
  rw [Nat.zero_add] at e3
  exact ⟨g, rfl, ⟨_, e3⟩, hf, h.set k hx, (Touch.refl (fun i => (Value.slice (some ⟨g, 0, none⟩) l.length cap).ownBlock = some i) w).setCell (p := ⟨g, k, none⟩) rfl _⟩

set_option maxRecDepth 100000 in
set_option maxHeartbeats 4000000 in
theorem frameEncodes_walk (a : Option Addr) (cap : Nat) (p : List Nat) (w : World) (hp : LAt w a p) (hn : a = none → cap = 0) (hl : p.length ≤ 140737488355328) :
    Calls Try.prog 4 #[.slice a p.length cap] w fun e w' => e = .returned (.bool true) ∧ Below w.heap.size w w' := by
  have HP := hide hp
  clear hp
  have hWl := encW_len p
  go_enter Try.func4, Try.ntmps4
  go_wp2_with fail
  refine (fnew_any w).mono ?_
  rintro e w1 ⟨rfl, h1, b1⟩
  have R1 := hide h1
  have B1 := hide b1
  have hfb := h1.lt
  have DE := hide (docenc2 ((unhide HP).later b1) hn)
  clear h1 b1
  go_wp2_with fail
  refine (unhide DE).mono ?_
  rintro e w2 ⟨vw, rfl, f2⟩
  have R2 := hide ((unhide R1).keep (Touch.of_below (S := fun _ => False) f2.2.2) (fun h => h))
  have B2 := hide ((unhide B1).trans (f2.2.2.mono (unhide B1).size))
  have W2 := hide f2.1
  have NW : Hid (∀ k, vw.ownBlock = some k → w.heap.size < k ∧ k < w2.heap.size) := fun k hk => ⟨by have := f2.2.1 k hk; omega, f2.1.lt k hk⟩
  have hs12 := f2.2.2.size
  clear f2 DE R1
  go_wp2_with fail
  refine (awake4_any w2).mono ?_
  rintro e w3 ⟨rfl, b3⟩
  have R3 := hide ((unhide R2).keep (Touch.of_below (S := fun _ => False) b3) (fun h => h))
  have B3 := hide ((unhide B2).trans (b3.mono (unhide B2).size))
  have W3 := hide ((unhide W2).later b3)
  have hs23 := b3.size
  clear b3 R2 B2 W2
  have P3 := hide ((unhide HP).later (unhide B3))
  have R0 := hide (Row.lit w3 [] (fun x hx => by cases hx) #[] rfl (by simp [maxLen]))
  go_wp2_with (at_builtin; refine wpList_row _ rfl (.tmp 19) (.tmp 20) rfl _ [] rfl (unhide R0) a cap p rfl ((unhide P3).keep ((Touch.refl (fun _ => False) w3).alloc _) (fun _ _ _ h => h)) hn (by simpa using hl) ?_)
  intro vc w4 r4 t4 m4
  have F4 := fresh_copy4 r4 t4 m4
  clear r4 t4 m4 R0 P3
  have hs34 := F4.2.2.size
  have R4 := hide ((unhide R3).keep (Touch.of_below (S := fun _ => False) F4.2.2) (fun h => h))
  have B4 := hide ((unhide B3).trans (F4.2.2.mono (unhide B3).size))
  have W4 := hide ((unhide W3).later F4.2.2)
  have C4 := hide F4.1
  have NC : Hid (∀ k, vc.ownBlock = some k → w.heap.size < k ∧ k < w4.heap.size) := fun k hk => ⟨by have := F4.2.1 k hk; omega, F4.1.lt k hk⟩
  obtain ⟨ac, mc, cc, rfl⟩ := F4.1.shape
  obtain ⟨aw, mw, cw, rfl⟩ := (unhide W4).shape
  clear F4 R3 B3 W3
  generalize hg : encG p = g at *
  generalize hw : encW p = W at *
  have HG := hide hg
  have HW := hide hw
  clear hg hw
  go_wp2_with fail
  go_loopw [7] (fun i wr => ∃ k : Nat, k ≤ 2 ∧ i = .int .i64 k ∧ Ready wr w.heap.size ∧ Row wr (.slice aw mw cw) W ∧ Row wr (.slice ac mc cc) p ∧ Below w.heap.size w wr ∧ w4.heap.size ≤ wr.heap.size) (fun i _ => 2 - (intOf i).toNat)
  case atStart => exact ⟨0, by omega, rfl, unhide R4, unhide W4, unhide C4, unhide B4, Nat.le_refl _⟩
  case round =>
    obtain ⟨k, hk, rfl, rr, rw', rc, rb, rs⟩ := hrel
    have QR := hide rr
    have QW := hide rw'
    have QC := hide rc
    have QB := hide rb
    clear rr rw' rc rb R4 W4 C4 B4
    by_cases hc : k < 2
    · have hc' : (k : Int) < 2 := by omega
      obtain ⟨_, _, e, lc, _, _, hnc, hoc, _⟩ := (unhide QC).parts
      cases e
      have EN := hide (fencode2 (unhide QR) lc hnc (fun h0 x hx => by have := unhide NC x.block (hoc x hx); omega))
      have KE : Hid (encG p = g) := unhide HG
      have KW : Hid (encW p = W) := unhide HW
      rw [unhide KE, unhide KW] at EN
      clear lc hnc hoc KE KW
      go_wp2_with fail
      refine (unhide EN).mono ?_
      rintro e w5 ⟨vb, rfl, r5, n5, d5⟩
      have hs5 := d5.touch.size
      have R5 := hide d5.ready
      have W5 := hide ((unhide QW).keep d5.touch (fun i hi e => by have := unhide NW i hi; omega))
      have C5 := hide ((unhide QC).keep d5.touch (fun i hi e => by have := unhide NC i hi; omega))
      have B5 := hide (below_touch (unhide QB) d5.touch (unhide QB).size (fun i hi => by omega))
      have NB : Hid (∀ i, vb.ownBlock = some i → w4.heap.size ≤ i) := fun i hi => by have := n5 i hi; omega
      have RB := hide r5
      obtain ⟨ab, cb, rfl, lb, _, _, _, _, _⟩ := r5.parts
      obtain ⟨_, _, e, lw, _⟩ := (unhide W5).parts
      cases e
      have SM := hide (same_any w5 ab aw cb cw W lb lw (by omega))
      clear r5 n5 d5 lb lw EN QR QW QC QB
      go_wp2_with fail
      refine (unhide SM).mono ?_
      rintro e w6 ⟨rfl, n6, rfl⟩
      have R6 := hide ((unhide R5).drewN n6)
      have W6 := hide ((unhide W5).drewN n6)
      have C6 := hide ((unhide C5).drewN n6)
      have RB6 := hide ((unhide RB).drewN n6)
      have B6 := hide (below_drewN (unhide B5) n6)
      have hs6 : w4.heap.size ≤ (w5.drewN n6).heap.size := by show w4.heap.size ≤ w5.heap.size; omega
      clear R5 W5 C5 RB B5 SM
      generalize w5.drewN n6 = w6 at *
      obtain ⟨_, _, e, lc6, _⟩ := (unhide C6).parts
      cases e
      have SM := hide (same_any w6 ac a cc cap p lc6 ((unhide HP).later (unhide B6)) (by omega))
      clear lc6
      go_wp2_with fail
      refine (unhide SM).mono ?_
      rintro e w7 ⟨rfl, n7, rfl⟩
      have R7 := hide ((unhide R6).drewN n7)
      have W7 := hide ((unhide W6).drewN n7)
      have C7 := hide ((unhide C6).drewN n7)
      have RB7 := hide ((unhide RB6).drewN n7)
      have B7 := hide (below_drewN (unhide B6) n7)
      have hs7 : w4.heap.size ≤ (w6.drewN n7).heap.size := hs6
      clear R6 W6 C6 RB6 B6 SM hs6
      generalize w6.drewN n7 = w7 at *
      go_wp2_with fail
      go_loopw [49] (fun i wr => ∃ (j : Nat) (l' : List Nat), j ≤ W.length ∧ i = .int .i64 j ∧ Row wr (.slice ab W.length cb) l' ∧ Touch (fun i => (Value.slice ab W.length cb).ownBlock = some i) w7 wr) (fun i _ => W.length - (intOf i).toNat)
      case atStart => exact ⟨0, W, Nat.zero_le _, rfl, unhide RB7, Touch.refl _ _⟩
      case round =>
        obtain ⟨j, l', hj, rfl, rl, tl⟩ := hrel
        by_cases hjc : j < W.length
        · obtain ⟨gg, rfl, ⟨y, hcell⟩, hfz, rl2, tl2⟩ := rl.put (k := j) hjc (x := 5) (by omega)
          have RL2 := hide rl2
          have TL2 := hide (tl.trans tl2)
          clear rl tl rl2 tl2
          have hjc' : (j : Int) < (W.length : Int) := by omega
          go_wp2
          go_roundw
          case rel => exact ⟨j + 1, _, by omega, by go_num, unhide RL2, unhide TL2⟩
          case measure => simp [intOf]; omega
        · obtain rfl : j = W.length := by omega
          have TL := hide tl
          clear rl tl
          have hs8 := (unhide TL).size
          have F : Hid (Ready wr w.heap.size ∧ Row wr (.slice aw W.length cw) W ∧ Row wr (.slice ac p.length cc) p ∧ Below w.heap.size w wr ∧ w4.heap.size ≤ wr.heap.size) := by
            refine ⟨(unhide R7).keep (unhide TL) (fun e => by have := unhide NB _ e; omega), (unhide W7).keep (unhide TL) (fun i hi e => by have := unhide NB _ e; have := unhide NW i hi; omega), (unhide C7).keep (unhide TL) (fun i hi e => by have := unhide NB _ e; have := unhide NC i hi; omega), below_touch (unhide B7) (unhide TL) (unhide B7).size (fun i hi => by have := unhide NB _ hi; omega), by omega⟩
          clear TL R7 W7 C7 B7
          go_wp2
          go_roundw
          case rel => exact ⟨k + 1, by omega, by go_num, unhide F⟩
          case measure => simp [intOf]; omega
    · obtain rfl : k = 2 := by omega
      go_wp2
      go_returns
      exact ⟨rfl, unhide QB⟩
end Go.Proofs.Ytnhociggoagpoab
