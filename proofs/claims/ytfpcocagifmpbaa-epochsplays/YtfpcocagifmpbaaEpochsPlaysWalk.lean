/-
  EpochsPlays, walked. Conditions: the script is one; it has at most 2^47 bytes.
-/
import Derived.Test.YtfpcocagifmpbaaPo10
import Derived.Deep.RegionHeld3
import Derived.Deep.RegionWith
namespace Go.Proofs.Ytfpcocagifmpbaa
open Go.RowKit
set_option linter.unusedVariables false

/-- Both caches, between two Ops. -/
structure TwL (w W : World) (cb rb : Nat) (l : List Pr) : Prop where
  ca : ∃ v, CaAt w.heap.size W cb v l
  rc : ∃ v1 v2, RcAt w.heap.size W rb v1 v2 l
  ris : Ris l
  bl : Below w.heap.size w W
theorem TwL.op {w W : World} {cb rb : Nat} {l : List Pr} (h : TwL w W cb rb l) (o : Op10) : Two w (W.alloc (.cells #[.int .i64 o.k, .int .i64 o.e, .int .i64 o.a] 31)) cb rb W.heap.size o l l := by
  have hA : Below W.heap.size W (W.alloc (.cells #[.int .i64 o.k, .int .i64 o.e, .int .i64 o.a] 31)) := (Below.refl _ _).alloc (Nat.le_refl _) _
  obtain ⟨⟨v, h1⟩, ⟨v1, v2, h2⟩, _, h4⟩ := h
  exact ⟨⟨v, h1.later hA⟩, ⟨v1, v2, h2.later hA⟩, heap_new _ _, h4.trans (hA.mono h4.size)⟩
theorem Two.cells {w W : World} {cb rb ob : Nat} {o : Op10} {l m : List Pr} (h : Two w W cb rb ob o l m) : W.cell? ⟨ob, 0, none⟩ = some (.int .i64 o.k) ∧ W.cell? ⟨ob, 1, none⟩ = some (.int .i64 o.e) ∧ W.cell? ⟨ob, 2, none⟩ = some (.int .i64 o.a) := by
  refine ⟨?_, ?_, ?_⟩ <;> (rw [cell_of h.op]; rfl)
set_option maxRecDepth 100000 in
set_option maxHeartbeats 4000000 in
theorem epochsPlays_walk (a : Option Addr) (cap : Nat) (os : List Op10) (p q : Int) (w : World) (hos : OpsAt w a os) (hn : os.length ≤ 5864062014634) :
    Calls Try.prog 3 #[.slice a os.length cap, .int .i64 p, .int .i64 q] w fun e w' => e = .returned (.bool true) ∧ Below w.heap.size w w' := by
  have HOS := hide hos
  clear hos
  go_enter Try.func3, Try.ntmps3
  go_wp2_with fail
  refine (new10_any w).mono ?_
  rintro e w0 ⟨rfl, rfl⟩
  have T0 : Hid (TwL w ((w.alloc (.cells #[.slice none 0 0] 50)).alloc (.cells #[.slice none 0 0, .slice none 0 0] 28)) w.heap.size (w.heap.size + 1) []) := by
    have hA : Below (w.alloc (.cells #[.slice none 0 0] 50)).heap.size (w.alloc (.cells #[.slice none 0 0] 50)) ((w.alloc (.cells #[.slice none 0 0] 50)).alloc (.cells #[.slice none 0 0, .slice none 0 0] 28)) := (Below.refl _ _).alloc (Nat.le_refl _) _
    have hN := heap_new (w.alloc (.cells #[.slice none 0 0] 50)) (.cells #[.slice none 0 0, .slice none 0 0] 28)
    rw [World.size_alloc] at hN
    refine ⟨⟨_, (CaAt.fresh w (Nat.le_refl _)).later hA⟩, ⟨.slice none 0 0, .slice none 0 0, hN, Own.nil _ _, Own.nil _ _, fun k hk => by simp [Value.ownBlock] at hk, by omega, fun k hk => by simp [Value.ownBlock] at hk, fun k hk => by simp [Value.ownBlock] at hk⟩, List.Pairwise.nil, ((Below.refl _ _).alloc (Nat.le_refl _) _).alloc (by simp) _⟩
  have hw : Hid (((w.alloc (.cells #[.slice none 0 0] 50)).alloc (.cells #[.slice none 0 0, .slice none 0 0] 28)).heap.size = w.heap.size + 2) := by show _ = _; simp
  go_wp2_with fail
  generalize (w.alloc (.cells #[.slice none 0 0] 50)).alloc (.cells #[.slice none 0 0, .slice none 0 0] 28) = W0 at *
  refine (awake10_any W0).mono ?_
  rintro e w1 ⟨rfl, b1⟩
  have T1 : Hid (TwL w w1 w.heap.size (w.heap.size + 1) []) := by
    obtain ⟨⟨v, h1⟩, ⟨v1, v2, h2⟩, h3, h4⟩ := unhide T0
    exact ⟨⟨v, h1.later b1⟩, ⟨v1, v2, h2.later b1⟩, h3, h4.trans (b1.mono h4.size)⟩
  clear b1 T0 hw
  go_wp2_with fail
  go_loopw [28] (fun pl wr => ∃ (k : Nat) (l : List Pr), k ≤ os.length ∧ pl = .int .i64 (k : Int) ∧ l.length ≤ k ∧ TwL w wr w.heap.size (w.heap.size + 1) l) (fun pl _ => os.length - (intOf pl).toNat)
  case atStart => exact ⟨0, [], Nat.zero_le _, rfl, Nat.le_refl _, unhide T1⟩
  case round =>
    obtain ⟨k, l, hk, rfl, hlk, hT⟩ := hrel
    by_cases hkl : k < os.length
    · have hkl' : (k : Int) < (os.length : Int) := by omega
      have hz : (0 : Int) ≤ (k : Int) := by omega
      have hw1 : IntKind.i64.wrap ((k : Int) + 1) = (k : Int) + 1 := wrap_low (by omega) (by omega)
      obtain ⟨⟨b, off, rfl, hb, hcell⟩, _⟩ := unhide HOS k hkl
      have y0 := (hT.bl.cell (p := ⟨b, off + k * 3 + 0, none⟩) hb).trans (hcell 0 (by omega))
      have y1 := (hT.bl.cell (p := ⟨b, off + k * 3 + 1, none⟩) hb).trans (hcell 1 (by omega))
      have y2 := (hT.bl.cell (p := ⟨b, off + k * 3 + 2, none⟩) hb).trans (hcell 2 (by omega))
      have hR := hT.ris
      have TW := hide (hT.op os[k])
      have HR := hide hR
      clear hcell hT hR T1 HOS
      generalize os[k] = o at *
      obtain ⟨ok, oe, oa⟩ := o
      simp only [Op10.cells, List.getElem?_cons_zero, List.getElem?_cons_succ, Nat.add_zero] at y0 y1 y2
      have hl8 : l.length ≤ 8000000000000 := by omega
      have KA : Hid (∀ W m, Two w W w.heap.size (w.heap.size + 1) wr.heap.size ⟨ok, oe, oa⟩ l m → Calls Try.prog 11 #[.pointer (some ⟨w.heap.size, 0, none⟩), .int .i64 oe, .int .i64 oa] W fun e W' => TwPost w w.heap.size (w.heap.size + 1) wr.heap.size ⟨ok, oe, oa⟩ (asgE oe oa l).2 m (.int .i64 (asgE oe oa l).1) e W') := fun W m h => h.asgC (unhide HR) hl8 oe oa
      have KB : Hid (∀ W m, Two w W w.heap.size (w.heap.size + 1) wr.heap.size ⟨ok, oe, oa⟩ m l → Calls Try.prog 12 #[.pointer (some ⟨w.heap.size + 1, 0, none⟩), .int .i64 oe, .int .i64 oa] W fun e W' => TwPost w w.heap.size (w.heap.size + 1) wr.heap.size ⟨ok, oe, oa⟩ m (asgE oe oa l).2 (.int .i64 (asgE oe oa l).1) e W') := fun W m h => h.asgR hl8 oe oa
      obtain ⟨x0, x1, x2⟩ := (unhide TW).cells
      simp only at x0 x1 x2
      by_cases hk0 : ok = 0
      · subst hk0
        have NX : Hid (Ris (asgE oe oa l).2 ∧ (asgE oe oa l).2.length ≤ k + 1) := ⟨(unhide HR).asg oe oa, Nat.le_trans (len_asg (unhide HR) oe oa) (by omega)⟩
        clear HR
        generalize asgE oe oa l = R at *
        obtain ⟨r1, r2⟩ := R
        simp only at KA KB NX
        go_wp2_with fail
        generalize wr.alloc (Obj.cells #[Value.int IntKind.i64 0, Value.int IntKind.i64 oe, Value.int IntKind.i64 oa] 31) = W1 at *
        have S1 : Hid (W1.cell? ⟨wr.heap.size, 1, none⟩ = some (.int .i64 oe) ∧ W1.cell? ⟨wr.heap.size, 2, none⟩ = some (.int .i64 oa)) := ⟨x1, x2⟩
        clear x0 x1 x2 y0 y1 y2
        go_region_held3 (fun w' => w'.cell? ⟨wr.heap.size, 1, none⟩ = some (.int .i64 oe) ∧ w'.cell? ⟨wr.heap.size, 2, none⟩ = some (.int .i64 oa)) (first | exact unhide S3 | exact unhide S2 | exact unhide S1) (first
          | (go_at_call 12; refine (unhide KB _ _ (by first | exact unhide T2 | exact (unhide T2).later (by go_grown))).mono ?_; rintro e w3 ⟨rfl, t3⟩; have S3 := hide (t3.cells.2); have T3 := hide t3; clear t3)
          | (go_at_call 11; refine (unhide KA _ _ ((unhide TW).later (by go_grown))).mono ?_; rintro e w2 ⟨rfl, t2⟩; have S2 := hide (t2.cells.2); have T2 := hide t2; clear t2))
        all_goals
          clear KA KB S1 S2 S3 T2
          have EC := hide ((unhide T3).endC p q)
          have ER : Hid (∀ W, Two w W w.heap.size (w.heap.size + 1) wr.heap.size ⟨0, oe, oa⟩ r2 r2 → Calls Try.prog 16 #[.pointer (some ⟨w.heap.size + 1, 0, none⟩), .int .i64 p, .int .i64 q] W fun e W' => TwPost w w.heap.size (w.heap.size + 1) wr.heap.size ⟨0, oe, oa⟩ r2 r2 (tup (endE r2 p q)) e W') := fun W h => h.endR p q
          have SA : Hid (∀ W, Two w W w.heap.size (w.heap.size + 1) wr.heap.size ⟨0, oe, oa⟩ r2 r2 → Calls Try.prog 17 #[.pointer (some ⟨w.heap.size, 0, none⟩), .pointer (some ⟨w.heap.size + 1, 0, none⟩)] W fun e W' => TwPost w w.heap.size (w.heap.size + 1) wr.heap.size ⟨0, oe, oa⟩ r2 r2 (.bool true) e W') := fun W h => h.same (by have := (unhide NX).2; omega)
          generalize endE r2 p q = EE at *
          obtain ⟨E1, E2, E3⟩ := EE
          go_wp2_with fail
          refine (unhide EC).mono ?_
          rintro e w4 ⟨rfl, t4⟩
          have ER4 := hide (unhide ER w4 t4)
          clear t4 ER EC
          go_wp2_with fail
          refine (unhide ER4).mono ?_
          rintro e w5 ⟨rfl, t5⟩
          have SA5 := hide (unhide SA w5 t5)
          clear t5 SA ER4
          go_wp2_with fail
          refine (unhide SA5).mono ?_
          rintro e w6 ⟨rfl, t6⟩
          have FT : Hid (TwL w w6 w.heap.size (w.heap.size + 1) r2) := ⟨t6.ca, t6.rc, (unhide NX).1, t6.bl⟩
          clear t6 SA5 T3
          go_wp2
          go_roundw
          case rel => exact ⟨k + 1, r2, by omega, by go_num, (unhide NX).2, unhide FT⟩
          case measure => simp [intOf]; omega
      · have NX : Hid (Ris (cutE oa l) ∧ (cutE oa l).length ≤ k + 1) := ⟨(unhide HR).cut oa, Nat.le_trans (len_cut oa l) (by omega)⟩
        have KC := hide ((unhide TW).cutC (unhide HR) oa)
        have KD : Hid (∀ W m, Two w W w.heap.size (w.heap.size + 1) wr.heap.size ⟨ok, oe, oa⟩ m l → Calls Try.prog 14 #[.pointer (some ⟨w.heap.size + 1, 0, none⟩), .int .i64 oa] W fun e W' => TwPost w w.heap.size (w.heap.size + 1) wr.heap.size ⟨ok, oe, oa⟩ m (cutE oa l) (.tuple #[]) e W') := fun W m h => h.cutR hl8 oa
        clear HR KA KB
        generalize cutE oa l = r2 at *
        go_wp2_with fail
        generalize wr.alloc (Obj.cells #[Value.int IntKind.i64 ok, Value.int IntKind.i64 oe, Value.int IntKind.i64 oa] 31) = W1 at *
        refine (unhide KC).mono ?_
        rintro e w2 ⟨rfl, t2⟩
        obtain ⟨z0, z1, z2⟩ := t2.cells
        simp only at z0 z1 z2
        have KD2 := hide (unhide KD w2 _ t2)
        clear t2 KC KD
        go_wp2_with fail
        refine (unhide KD2).mono ?_
        rintro e w3 ⟨rfl, t3⟩
        have T3 := hide t3
        clear t3 KD2
        have EC := hide ((unhide T3).endC p q)
        have ER : Hid (∀ W, Two w W w.heap.size (w.heap.size + 1) wr.heap.size ⟨ok, oe, oa⟩ r2 r2 → Calls Try.prog 16 #[.pointer (some ⟨w.heap.size + 1, 0, none⟩), .int .i64 p, .int .i64 q] W fun e W' => TwPost w w.heap.size (w.heap.size + 1) wr.heap.size ⟨ok, oe, oa⟩ r2 r2 (tup (endE r2 p q)) e W') := fun W h => h.endR p q
        have SA : Hid (∀ W, Two w W w.heap.size (w.heap.size + 1) wr.heap.size ⟨ok, oe, oa⟩ r2 r2 → Calls Try.prog 17 #[.pointer (some ⟨w.heap.size, 0, none⟩), .pointer (some ⟨w.heap.size + 1, 0, none⟩)] W fun e W' => TwPost w w.heap.size (w.heap.size + 1) wr.heap.size ⟨ok, oe, oa⟩ r2 r2 (.bool true) e W') := fun W h => h.same (by have := (unhide NX).2; omega)
        generalize endE r2 p q = EE at *
        obtain ⟨E1, E2, E3⟩ := EE
        go_wp2_with fail
        refine (unhide EC).mono ?_
        rintro e w4 ⟨rfl, t4⟩
        have ER4 := hide (unhide ER w4 t4)
        clear t4 ER EC
        go_wp2_with fail
        refine (unhide ER4).mono ?_
        rintro e w5 ⟨rfl, t5⟩
        have SA5 := hide (unhide SA w5 t5)
        clear t5 SA ER4
        go_wp2_with fail
        refine (unhide SA5).mono ?_
        rintro e w6 ⟨rfl, t6⟩
        have FT : Hid (TwL w w6 w.heap.size (w.heap.size + 1) r2) := ⟨t6.ca, t6.rc, (unhide NX).1, t6.bl⟩
        clear t6 SA5 T3
        go_wp2
        go_roundw
        case rel => exact ⟨k + 1, r2, by omega, by go_num, (unhide NX).2, unhide FT⟩
        case measure => simp [intOf]; omega
    · have hkl' : ¬ (k : Int) < (os.length : Int) := by omega
      have BL := hide hT.bl
      clear hT T1 HOS
      go_wp2
      go_returns
      exact ⟨rfl, unhide BL⟩
end Go.Proofs.Ytfpcocagifmpbaa
