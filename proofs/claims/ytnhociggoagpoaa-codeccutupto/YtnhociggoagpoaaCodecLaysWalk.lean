/-
  CodecLays walked: it answers true. Conditions: at most 1048576 Ops, each with at most as many bytes and numbers.
-/
import Derived.Test.YtnhociggoagpoaaOps
import Derived.Test.YtnhociggoagpoaaCodecOwnWalk
namespace Go.Proofs.Ytnhociggoagpoaa
open Go.RowKit
set_option linter.unusedVariables false

/-- The writer's state behind k calls. -/
def lgUp (o : Nat → OpV) : Nat → Bool
  | 0 => false
  | k + 1 => wLong (lgUp o k) (o k)
def wlUp (o : Nat → OpV) : Nat → List Nat
  | 0 => []
  | k + 1 => wLaid (lgUp o k) (wlUp o k) (o k)
theorem wlUp_len (o : Nat → OpV) (k : Nat) : (wlUp o k).length ≤ (laidUp o k).length := by
  induction k with
  | zero => simp [wlUp, laidUp]
  | succ k ih =>
    rw [wlUp, laidUp, List.length_append]
    unfold wLaid
    split
    · simp
    · have := lays_len (lgUp o k) (wlUp o k) (encOp (o k)); omega
theorem wlUp_ok (o : Nat → OpV) (k : Nat) (h : lgUp o k = false) : wlUp o k = laidUp o k := by
  induction k with
  | zero => rfl
  | succ k ih =>
    rw [lgUp] at h
    have h1 : lgUp o k = false := by
      unfold wLong at h
      cases hc : lgUp o k
      · rfl
      · rw [hc] at h; simp at h
    have h2 : ¬ ((o k).kind = 4 ∧ 4096 < (o k).bs.length) := by
      rintro ⟨e1, e2⟩
      unfold wLong at h
      simp [e1, e2] at h
    rw [wlUp, laidUp, wLaid_no h2, ih h1, h1]
    rfl

/-- What the walks of a list of Ops are told. -/
structure OpsIn (w : World) (a : Option Addr) (len : Nat) (q : Nat → OpIs) : Prop where
  at_ : OpsAt w a len q
  few : len ≤ 1048576
  each : ∀ i, i < len → OpIn w (q i).o (q i).aB (q i).cB (q i).aL (q i).cL ∧ (q i).o.bs.length ≤ 1048576 ∧ (q i).o.ls.length ≤ 1048576
theorem OpsIn.room {w : World} {a : Option Addr} {len : Nat} {q : Nat → OpIs} (h : OpsIn w a len q) {k : Nat} (hk : k ≤ len) : (laidUp (fun i => (q i).o) k).length ≤ 10995116277760 + 10485760 := by
  have := laidUp_len (fun i => (q i).o) k (fun i hi => encOp_len _ (h.each i (by omega)).1.fits (h.each i (by omega)).2.1 (h.each i (by omega)).2.2)
  have h2 := h.few
  have h3 : k * 10485770 ≤ 1048576 * 10485770 := Nat.mul_le_mul_right _ (by omega)
  omega
theorem OpsIn.cells {w w' : World} {a : Option Addr} {len : Nat} {q : Nat → OpIs} (h : OpsIn w a len q) (hb : Below w.heap.size w w') {k : Nat} (hk : k < len) : ∃ b off, a = some ⟨b, off, none⟩ ∧ w'.cell? ⟨b, off + k * 6, none⟩ = some (.int .i64 (q k).o.kind) ∧ w'.cell? ⟨b, off + k * 6 + 1, none⟩ = some (.int .u64 ((q k).o.n : Nat)) ∧ w'.cell? ⟨b, off + k * 6 + 2, none⟩ = some (.int .i64 (q k).o.i) ∧ w'.cell? ⟨b, off + k * 6 + 3, none⟩ = some (.bool (q k).o.is) ∧ w'.cell? ⟨b, off + k * 6 + 4, none⟩ = some (.slice (q k).aB (q k).o.bs.length (q k).cB) ∧ w'.cell? ⟨b, off + k * 6 + 5, none⟩ = some (.slice (q k).aL (q k).o.ls.length (q k).cL) := by
  obtain ⟨b, off, e, hlt, hc⟩ := h.at_ k hk
  have key : ∀ j, j < 6 → w'.cell? ⟨b, off + k * 6 + j, none⟩ = (q k).cells[j]? := fun j hj => (hb.cell (p := ⟨b, off + k * 6 + j, none⟩) hlt).trans (hc j hj)
  exact ⟨b, off, e, key 0 (by omega), key 1 (by omega), key 2 (by omega), key 3 (by omega), key 4 (by omega), key 5 (by omega)⟩

theorem duo_start {w0 w : World} {b : Nat} (h : Wc w0 w b (.slice none 0 0) []) : Duo w0 w (.pointer (some ⟨b, 0, none⟩)) (.slice none 0 0) [] false (.slice none 0 0) [] :=
  ⟨h.v, Row.nil _, h.below, h.mine, New.nil _, fun k hk => by simp [Value.ownBlock] at hk⟩
theorem Duo.touch {w0 w w' : World} {pv v va : Value} {l la : List Nat} {long : Bool} {S : Nat → Prop} (h : Duo w0 w pv v l long va la) (t : Touch S w w') (hs : ∀ k, S k → w0.heap.size ≤ k) (hm : ∀ k, Mine pv v k ∨ va.ownBlock = some k → ¬ S k) : Duo w0 w' pv v l long va la :=
  ⟨h.wr.keep t (fun k hk => hm k (.inl hk)), h.row.keep t (fun k hk => hm k (.inr hk)), below_touch h.below t h.below.size hs, h.mine, h.nw, h.apart⟩
theorem Duo.drewN {w0 w : World} {pv v va : Value} {l la : List Nat} {long : Bool} (h : Duo w0 w pv v l long va la) (n : Nat) : Duo w0 (w.drewN n) pv v l long va la :=
  h.touch (touch_drewN (S := fun _ => False) w n) (fun _ h => h.elim) (fun _ _ h => h)
theorem duo_lt {w0 w : World} {pv v va : Value} {l la : List Nat} {long : Bool} (h : Duo w0 w pv v l long va la) : ∀ k, Mine pv v k ∨ va.ownBlock = some k → k < w.heap.size := by
  rintro k (e | e)
  · exact h.wr.mine k e
  · exact h.row.lt k e

set_option maxRecDepth 100000 in
set_option maxHeartbeats 4000000 in
theorem codecLays_walk (a : Option Addr) (len cap : Nat) (q : Nat → OpIs) (w : World) (h : OpsIn w a len q) :
    Calls Try.prog 3 #[.slice a len cap] w fun e w' => e = .returned (.bool true) ∧ Below w.heap.size w w' := by
  have H := hide h
  have hlen := h.few
  clear h
  go_enter Try.func3, Try.ntmps3
  go_wp2_with fail
  refine (new_c w).mono ?_
  rintro e w1 ⟨rfl, x⟩
  have C := hide x
  clear x
  go_wp2_with fail
  refine (awake_c (unhide C)).mono ?_
  rintro e w2 ⟨rfl, x⟩
  have D2 := hide (duo_start x)
  clear x C
  go_wp2_with fail
  go_loopw [4, 5, 21] (fun all lg i wr => ∃ (k : Nat) (v va : Value), va = all ∧ k ≤ len ∧ i = .int .i64 k ∧ lg = .bool (lgUp (fun i => (q i).o) k) ∧ Duo w wr (.pointer (some ⟨w.heap.size, 0, none⟩)) v (wlUp (fun i => (q i).o) k) (lgUp (fun i => (q i).o) k) va (laidUp (fun i => (q i).o) k)) (fun _ _ i _ => len - (intOf i).toNat)
  case atStart => exact ⟨0, _, _, rfl, Nat.zero_le _, rfl, rfl, unhide D2⟩
  case round =>
    obtain ⟨k, v, va, rfl, hk, rfl, rfl, hd⟩ := hrel
    have HD := hide hd
    clear hd D2
    by_cases hc : k < len
    · obtain ⟨b, off, rfl, c0, c1, c2, c3, c4, c5⟩ := (unhide H).cells (unhide HD).below hc
      have hroom := (unhide H).room hk
      have hwl := wlUp_len (fun i => (q i).o) k
      obtain ⟨hin, hbs, hls⟩ := (unhide H).each k hc
      have EL : Hid (laidUp (fun i => (q i).o) (k + 1) = laidUp (fun i => (q i).o) k ++ encOp (q k).o) := rfl
      have EW : Hid (wlUp (fun i => (q i).o) (k + 1) = wLaid (lgUp (fun i => (q i).o) k) (wlUp (fun i => (q i).o) k) (q k).o) := rfl
      have EG : Hid (lgUp (fun i => (q i).o) (k + 1) = wLong (lgUp (fun i => (q i).o) k) (q k).o) := rfl
      generalize laidUp (fun i => (q i).o) k = la at *
      generalize wlUp (fun i => (q i).o) k = wl at *
      generalize lgUp (fun i => (q i).o) k = lg at *
      generalize q k = o at *
      have hb1 : Below wr.heap.size wr (wr.alloc (.cells #[.int .i64 o.o.kind, .int .u64 (o.o.n : Nat), .int .i64 o.o.i, .bool o.o.is, .slice o.aB o.o.bs.length o.cB, .slice o.aL o.o.ls.length o.cL] 30)) := (Below.refl _ _).alloc (Nat.le_refl _) _
      have D1 := (unhide HD).later hb1
      have hbx := heap_new wr (.cells #[.int .i64 o.o.kind, .int .u64 (o.o.n : Nat), .int .i64 o.o.i, .bool o.o.is, .slice o.aB o.o.bs.length o.cB, .slice o.aL o.o.ls.length o.cL] 30)
      have HBX := hide hbx
      have HLT := hide (duo_lt (unhide HD))
      have LY := lay3_any (o := o.o) (aB := o.aB) (cB := o.cB) (aL := o.aL) (cL := o.cL) D1 hin (by omega) (by omega)
      unfold opv at LY
      have LYH := hide LY
      obtain ⟨x1, x2, x3, rfl⟩ := (unhide HD).row.shape
      have hk' : (k : Int) < (len : Int) := by omega
      clear D1 hb1 hbx LY hin hroom hwl
      go_wp2_with fail
      refine (unhide LYH).mono ?_
      rintro e w5 ⟨v5, va5, rfl, d5, t5⟩
      have hbx5 := t5.keep (unhide HBX) (fun hm => by have := unhide HLT _ hm; omega)
      have g0 : w5.cell? ⟨wr.heap.size, 0, none⟩ = some (.int .i64 o.o.kind) := by rw [cell_of hbx5]; rfl
      have g4 : w5.cell? ⟨wr.heap.size, 4, none⟩ = some (.slice o.aB o.o.bs.length o.cB) := by rw [cell_of hbx5]; rfl
      have D5 := hide d5
      obtain ⟨y1, y2, y3, rfl⟩ := d5.row.shape
      clear d5 t5 hbx5 HBX LYH c0 c1 c2 c3 c4 c5 HD
      have F : Hid (∃ (v va : Value), va = Value.slice y1 y2 y3 ∧ Duo w w5 (.pointer (some ⟨w.heap.size, 0, none⟩)) v (wlUp (fun i => (q i).o) (k + 1)) (lgUp (fun i => (q i).o) (k + 1)) va (laidUp (fun i => (q i).o) (k + 1))) := by
        refine ⟨v5, _, rfl, ?_⟩
        rw [unhide EL, unhide EW, unhide EG]
        exact unhide D5
      have fin : ∀ z : Bool, z = lgUp (fun i => (q i).o) (k + 1) → ∃ (k' : Nat) (v va : Value), va = Value.slice y1 y2 y3 ∧ k' ≤ len ∧ Value.int IntKind.i64 ((k : Int) + 1) = .int .i64 k' ∧ Value.bool z = .bool (lgUp (fun i => (q i).o) k') ∧ Duo w w5 (.pointer (some ⟨w.heap.size, 0, none⟩)) v (wlUp (fun i => (q i).o) k') (lgUp (fun i => (q i).o) k') va (laidUp (fun i => (q i).o) k') := by
        intro z hz
        obtain ⟨v, va, e, d⟩ := unhide F
        exact ⟨k + 1, v, va, e, by omega, by simp, by rw [hz], d⟩
      have FIN := hide fin
      have EG' : Hid (lgUp (fun i => (q i).o) (k + 1) = (lg || (decide (o.o.kind = 4) && decide (4096 < o.o.bs.length)))) := unhide EG
      clear fin F EL EW EG D5
      cases lg with
      | true =>
        go_wp2
        go_roundw
        case rel => exact unhide FIN _ (by rw [unhide EG']; simp)
        case measure => simp [intOf]; omega
      | false =>
        by_cases h4 : o.o.kind = 4
        · by_cases h5 : 4096 < o.o.bs.length
          · have h5' : (4096 : Int) < (o.o.bs.length : Int) := by omega
            go_wp2
            go_roundw
            case rel => exact unhide FIN _ (by rw [unhide EG']; simp [h4, h5] <;> omega)
            case measure => simp [intOf]; omega
          · have h5' : ¬ (4096 : Int) < (o.o.bs.length : Int) := by omega
            go_wp2
            go_roundw
            case rel => exact unhide FIN _ (by rw [unhide EG']; simp [h4, h5] <;> omega)
            case measure => simp [intOf]; omega
        · go_wp2
          go_roundw
          case rel => exact unhide FIN _ (by rw [unhide EG']; simp [h4])
          case measure => simp [intOf]; omega
    · obtain rfl : k = len := by omega
      have hroom := (unhide H).room (Nat.le_refl k)
      have hok := wlUp_ok (fun i => (q i).o) k
      generalize laidUp (fun i => (q i).o) k = T at *
      generalize wlUp (fun i => (q i).o) k = wl at *
      generalize lgUp (fun i => (q i).o) k = lg at *
      obtain ⟨x1, x2, x3, rfl⟩ := (unhide HD).row.shape
      cases lg with
      | true =>
        have OL := hide (out_long w.heap.size v wl wr (unhide HD).wr.at)
        go_wp2_with fail
        go_loopw [8] (fun i ws => ∃ j : Nat, j ≤ 2 ∧ i = .int .i64 j ∧ ws = wr) (fun i _ => 2 - (intOf i).toNat)
        case atStart => exact ⟨0, by omega, rfl, rfl⟩
        case round =>
          obtain ⟨j, hj, rfl, rfl⟩ := hrel
          by_cases hj2 : j < 2
          · have hj2' : (j : Int) < 2 := by omega
            go_wp2_with fail
            refine (unhide OL).mono ?_
            rintro e w6 ⟨rfl, rfl⟩
            go_wp2
            go_roundw
            case rel => exact ⟨j + 1, by omega, by go_num, trivial⟩
            case measure => simp [intOf]; omega
          · obtain rfl : j = 2 := by omega
            go_wp2
            go_returns
            exact ⟨rfl, (unhide HD).below⟩
      | false =>
        obtain rfl := hok rfl
        go_wp2_with fail
        go_loopw [8] (fun i ws => ∃ j : Nat, j ≤ 2 ∧ i = .int .i64 j ∧ Duo w ws (.pointer (some ⟨w.heap.size, 0, none⟩)) v wl false (.slice x1 x2 x3) wl) (fun i _ => 2 - (intOf i).toNat)
        case atStart => exact ⟨0, by omega, rfl, unhide HD⟩
        case round =>
          obtain ⟨j, hj, rfl, hd⟩ := hrel
          have HD2 := hide hd
          clear hd
          by_cases hj2 : j < 2
          · have hj2' : (j : Int) < 2 := by omega
            have OK := hide (out_any w.heap.size v wl _ (unhide HD2).wr.at (by omega))
            have hlt2 := duo_lt (unhide HD2)
            go_wp2_with fail
            refine (unhide OK).mono ?_
            rintro e w6 ⟨vo, rfl, r6, n6, b6⟩
            have D6 := hide ((unhide HD2).later b6)
            have RO := hide r6
            have NO : Hid (∀ i, vo.ownBlock = some i → w.heap.size ≤ i ∧ ∀ k, Mine (.pointer (some ⟨w.heap.size, 0, none⟩)) v k ∨ (Value.slice x1 x2 x3).ownBlock = some k → k ≠ i) := fun i hi => ⟨by have := n6 i hi; have := (unhide HD2).below.size; omega, fun k hk e => by have := hlt2 k hk; have := n6 i hi; omega⟩
            obtain ⟨xo, zo, rfl, lo, _⟩ := r6.parts
            obtain ⟨_, _, e, lall, _⟩ := (unhide D6).row.parts
            cases e
            have SM := hide (same_any w6 xo x1 zo x3 wl lo lall (by omega))
            clear r6 n6 b6 OK lo lall HD2 hlt2
            go_wp2_with fail
            refine (unhide SM).mono ?_
            rintro e w7 ⟨rfl, n7, rfl⟩
            have D7 := hide ((unhide D6).drewN n7)
            have RO7 := hide ((unhide RO).drewN3 n7)
            clear D6 RO SM
            generalize w6.drewN n7 = w7 at *
            go_wp2_with fail
            go_loopw [11] (fun i wt => ∃ (m : Nat) (l' : List Nat), m ≤ wl.length ∧ i = .int .i64 m ∧ Row wt (.slice xo wl.length zo) l' ∧ Touch (fun i => (Value.slice xo wl.length zo).ownBlock = some i) w7 wt) (fun i _ => wl.length - (intOf i).toNat)
            case atStart => exact ⟨0, wl, Nat.zero_le _, rfl, unhide RO7, Touch.refl _ _⟩
            case round =>
              obtain ⟨m, l', hm, rfl, rl, tl⟩ := hrel
              by_cases hmc : m < wl.length
              · obtain ⟨gg, rfl, ⟨y, hy, hcell⟩, hfz, hput⟩ := rl.put3 (k := m) hmc
                have RL := hide (hput 7 (by omega)).1
                have TL := hide (tl.trans (hput 7 (by omega)).2)
                clear rl tl hput
                have hmc' : (m : Int) < (wl.length : Int) := by omega
                go_wp2
                go_roundw
                case rel =>
                  obtain ⟨l2, hl2⟩ := unhide RL
                  exact ⟨m + 1, l2, by omega, by go_num, hl2, unhide TL⟩
                case measure => simp [intOf]; omega
              · obtain rfl : m = wl.length := by omega
                have D8 := hide ((unhide D7).touch tl (fun i hi => (unhide NO i hi).1) (fun i hi e => (unhide NO i e).2 i hi rfl))
                clear rl tl D7 RO7
                go_wp2
                go_roundw
                case rel => exact ⟨j + 1, by omega, by go_num, unhide D8⟩
                case measure => simp [intOf]; omega
          · obtain rfl : j = 2 := by omega
            go_wp2
            go_returns
            exact ⟨rfl, (unhide HD2).below⟩
end Go.Proofs.Ytnhociggoagpoaa
