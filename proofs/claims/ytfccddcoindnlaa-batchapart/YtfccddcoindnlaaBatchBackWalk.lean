/-
  BatchBack answers true. Conditions: lengths as memory allows them.
-/
import Derived.Test.YtfccddcoindnlaaAw7
import Derived.Test.YtfccddcoindnlaaSm7
import Derived.Test.YtfccddcoindnlaaPay7
namespace Go.Proofs.Ytfccddcoindnlaa
open Go.RowKit
set_option linter.unusedVariables false

theorem fresh_lit {w w2 : World} {v : Value} {l : List Nat} (r : Row w2 v l) (t : Touch (fun k => (Value.slice (some ⟨w.heap.size, 0, none⟩) 0 0).ownBlock = some k) (w.alloc (.cells #[] 5)) w2) (m : Moved (w.alloc (.cells #[] 5)) (.slice (some ⟨w.heap.size, 0, none⟩) 0 0) v) : Fresh w w2 v l := by
  have hb : Below w.heap.size w (w.alloc (.cells #[] 5)) := (Below.refl _ _).alloc (Nat.le_refl _) _
  refine ⟨r, fun k hk => ?_, below_touch hb t hb.size (fun k hk => ?_)⟩
  · rcases m k hk with e | e
    · have : w.heap.size = k := by simpa [Value.ownBlock] using e
      omega
    · simp at e; omega
  · have : w.heap.size = k := by simpa [Value.ownBlock] using hk
    omega
theorem rawB_fits {t : List Nat} (hy : ∀ x ∈ t, x < 256) : (rawB t).Fits := by
  have hz : ∀ s, I64 (rI t s).1 := fun s => zag_fits (rU_fits hy)
  exact ⟨by show I64 (h1 t).1; rw [h1_eq]; exact hz _, by show I64 (h2 t).1; rw [h2_eq]; exact hz _, by show (h3 t).1 < _; rw [h3_eq]; exact rU_fits hy, by show I64 (h4 t).1; rw [h4_eq]; exact hz _, by show I64 (h5 t).1; rw [h5_eq]; exact hz _⟩

set_option maxRecDepth 100000 in
set_option maxHeartbeats 8000000 in
theorem batchBack_walk (b : Bt) (a : Option Addr) (cap : Nat) (t : List Nat) (ta : Option Addr) (tcap : Nat) (w : World) (hb : BIn w b a cap) (ht : LAt w ta t) (htn : ta = none → tcap = 0) (htl : t.length ≤ 140737488351232) :
    Calls Try.prog 5 #[bv b a cap, .slice ta t.length tcap] w fun e w' => e = .returned (.bool true) ∧ Below w.heap.size w w' := by
  have HT := hide ht
  have HB := hide hb
  have hty := ht.bytes
  have h24 : b.vs.length * 24 ≤ 140737488355328 := by have := hb.len; unfold reachBytes at this; omega
  have H64 : Hid (∀ p ∈ b.vs, p.length ≤ 140737488355328) := fun p hp => by have := hb.each p hp; unfold reachBytes at this; omega
  obtain ⟨base, epoch, pid, pep, seq, txn, ctl, com, vs⟩ := b
  simp only at h24
  have B0 : Hid (Below w.heap.size w (w.alloc (.cells #[.int .i64 base, .int .i64 epoch, .int .u64 (pid : Int), .int .i64 pep, .int .i64 seq, .bool txn, .bool ctl, .bool com, .slice a vs.length cap] 25))) := (Below.refl _ _).alloc (Nat.le_refl _) _
  have BX0 := hide (Box.new w ⟨base, epoch, pid, pep, seq, txn, ctl, com, vs⟩ a cap)
  have KA := hide (awake7_any (w.alloc (.cells #[.int .i64 base, .int .i64 epoch, .int .u64 (pid : Int), .int .i64 pep, .int .i64 seq, .bool txn, .bool ctl, .bool com, .slice a vs.length cap] 25)))
  clear ht hb
  go_enter Try.func5, Try.ntmps5
  go_wp2_with fail
  refine (unhide KA).mono ?_
  rintro e w1 ⟨rfl, b1⟩
  have B1 := hide ((unhide B0).trans (b1.mono (unhide B0).size))
  have BX1 := hide ((unhide BX0).later b1)
  have KC := hide (copy7_any ⟨base, epoch, pid, pep, seq, txn, ctl, com, vs⟩ a cap w1 ((unhide HB).at_.later (unhide B1)) h24 (unhide H64))
  obtain ⟨k0, k1, k2, k3, k4, k5, k6, k7, k8⟩ := (unhide BX1).cells
  simp only at k0 k1 k2 k3 k4 k5 k6 k7 k8
  clear b1 B0 BX0 KA
  go_wp2_with fail
  refine (unhide KC).mono ?_
  rintro e w2 ⟨a2, c2, rfl, cp2⟩
  obtain ⟨pd2, _, bl2⟩ := cp2
  obtain ⟨ay, cy, ey, r2, _⟩ := pd2.parts
  cases ey
  have KE := hide (encode_any ⟨base, epoch, pid, pep, seq, txn, ctl, com, vs⟩ a2 c2 w2 r2 (unhide HB).fits)
  have B2 := hide ((unhide B1).trans (bl2.mono (unhide B1).size))
  have BX2 := hide ((unhide BX1).later bl2)
  clear pd2 bl2 r2 KC B1 BX1 k0 k1 k2 k3 k4 k5 k6 k7 k8
  go_wp2_with fail
  refine (unhide KE).mono ?_
  rintro e w3 ⟨vo, rfl, fo⟩
  have B3 := hide ((unhide B2).trans (fo.2.2.mono (unhide B2).size))
  have BX3 := hide ((unhide BX2).later fo.2.2)
  clear B2 BX2 KE
  by_cases hz : chk ⟨base, epoch, pid, pep, seq, txn, ctl, com, vs⟩ = 0
  · obtain ⟨hd1, hd2⟩ := there (unhide HB).fits hz
    have hlen := encB_len (unhide HB).fits hz
    rw [outE_ok hz] at fo
    rw [hz]
    obtain ⟨ao, co, rfl, lo, _, _, no, _, _⟩ := fo.1.parts
    have KD := decode_any w3 lo no (by omega)
    unfold DePost at KD
    rw [hd1, hd2] at KD
    have KDH := hide KD
    have RO := hide fo.1
    clear fo lo KD no hd1 hd2 hlen hz
    generalize (encB ⟨base, epoch, pid, pep, seq, txn, ctl, com, vs⟩).length = L at *
    go_wp2_with fail
    refine (unhide KDH).mono ?_
    rintro e w4 ⟨a4, c4, rfl, cp4⟩
    obtain ⟨pd4, _, bl4⟩ := cp4
    obtain ⟨az, cz, ez, r4, _⟩ := pd4.parts
    cases ez
    have hW : Below w4.heap.size w4 (w4.alloc (.cells #[.int .i64 base, .int .i64 epoch, .int .u64 (pid : Int), .int .i64 pep, .int .i64 seq, .bool txn, .bool ctl, .bool com, .slice a4 vs.length c4] 25)) := (Below.refl _ _).alloc (Nat.le_refl _) _
    have B4 := hide ((unhide B3).trans (bl4.mono (unhide B3).size))
    have B5 := hide ((unhide B4).trans (hW.mono (unhide B4).size))
    have bx5 := ((unhide BX3).later bl4).later hW
    obtain ⟨k0, k1, k2, k3, k4, k5, k6, k7, k8⟩ := ((unhide BX3).later bl4).cells
    simp only at k0 k1 k2 k3 k4 k5 k6 k7 k8
    have hlt4 : w.heap.size < w4.heap.size := lt_of_heap ((unhide BX3).later bl4)
    have KS := hide (rsame_any ⟨base, epoch, pid, pep, seq, txn, ctl, com, vs⟩ ⟨base, epoch, pid, pep, seq, txn, ctl, com, vs⟩ a4 a c4 cap _ (r4.later hW) ((unhide HB).at_.later (unhide B5)) (fun v hv => by have := unhide H64 v hv; omega) (by show vs.length ≤ _; omega))
    clear pd4 bl4 r4 hW KDH B3 BX3 B4 bx5
    go_wp2_with fail
    refine (unhide KS).mono ?_
    rintro e wz ⟨q, rfl, hq, bz⟩
    obtain rfl : q = true := hq.2 (by first | trivial | rfl)
    have BZ := hide ((unhide B5).trans (bz.mono (unhide B5).size))
    clear hq bz KS B5 k0 k1 k2 k3 k4 k5 k6 k7 k8 hlt4
    have R0 := hide (Row.lit wz [] (fun x hx => by cases hx) #[] rfl (by simp [maxLen]))
    have LT := hide ((unhide HT).later (unhide BZ))
    go_wp2_with (at_builtin; refine wpList_row _ rfl (.tmp 47) (.tmp 48) rfl _ [] rfl (unhide R0) ta tcap t rfl ((unhide LT).keep ((Touch.refl (fun _ => False) wz).alloc _) (fun _ _ _ h => h)) htn (by simp; omega) ?_)
    intro va wa ra tca ma
    have FA := fresh_lit ra tca ma
    obtain ⟨aa, ca, rfl, la, _, _, na, _, _⟩ := FA.1.parts
    have BA := hide ((unhide BZ).trans (FA.2.2.mono (unhide BZ).size))
    have KD := hide (decode_any wa la na (by omega))
    clear ra tca ma FA la R0 LT BZ
    go_wp2_with fail
    refine (unhide KD).mono ?_
    rintro e wd ⟨ad, cd, rfl, cp⟩
    obtain ⟨pd, nwd, bld⟩ := cp
    have BD := hide ((unhide BA).trans (bld.mono (unhide BA).size))
    clear KD nwd bld BA
    by_cases hde : decE t = 0
    · obtain ⟨hck, heb⟩ := and_back hty hde
      have hdb : decB t = rawB t := decB_ok hde
      have hfit := rawB_fits hty
      rw [hdb] at pd
      rw [hde, hdb]
      obtain ⟨ax, cx, ex, rx, _⟩ := pd.parts
      cases ex
      generalize rawB t = B at *
      obtain ⟨y1, y2, y3, y4, y5, y6, y7, y8, ys⟩ := B
      have hW : Below wd.heap.size wd (wd.alloc (.cells #[.int .i64 y1, .int .i64 y2, .int .u64 (y3 : Int), .int .i64 y4, .int .i64 y5, .bool y6, .bool y7, .bool y8, .slice ad ys.length cd] 25)) := (Below.refl _ _).alloc (Nat.le_refl _) _
      have KE := hide (encode_any ⟨y1, y2, y3, y4, y5, y6, y7, y8, ys⟩ ad cd _ (rx.later hW) hfit)
      have BE := hide ((unhide BD).trans (hW.mono (unhide BD).size))
      have HO := hide (outE_ok hck)
      have HCK := hide hck
      have HEB := hide heb
      clear pd rx hW hdb hfit hck heb hde BD
      go_wp2_with fail
      refine (unhide KE).mono ?_
      rintro e we ⟨ve, rfl, fe⟩
      rw [unhide HCK]
      rw [unhide HO, unhide HEB] at fe
      obtain ⟨ae, ce, rfl, le, _, _, _, _, _⟩ := fe.1.parts
      have BF := hide ((unhide BE).trans (fe.2.2.mono (unhide BE).size))
      have KS := hide (same_gen we ae ta ce tcap t t le ((unhide HT).later (unhide BF)) (by omega))
      clear fe le KE HO HCK HEB BE
      go_wp2_with fail
      refine (unhide KS).mono ?_
      rintro e wf ⟨q, nf, rfl, hq, hwf⟩
      obtain rfl : q = true := hq.2 (by first | trivial | rfl)
      have BG : Hid (Below w.heap.size w wf) := by rw [hwf]; exact below_drewN3 (unhide BF) nf
      clear hq hwf KS
      go_wp2
      go_returns
      exact ⟨by simp, unhide BG⟩
    · have hdb := decB_no hde
      rw [hdb] at pd
      rw [hdb]
      generalize decE t = cc at *
      have hcc : ¬ (cc : Int) = 0 := by omega
      obtain ⟨ax, cx, ex, _⟩ := pd.parts
      simp only [zeroB, List.length_nil] at ex
      cases ex
      have BE : Hid (Below w.heap.size w (wd.alloc (.cells #[.int .i64 0, .int .i64 0, .int .u64 0, .int .i64 0, .int .i64 0, .bool false, .bool false, .bool false, .slice ad 0 cd] 25))) := (unhide BD).alloc (unhide BD).size _
      clear pd hdb hde BD
      simp only [zeroB]
      go_wp2
      go_returns
      exact ⟨by simp, unhide BE⟩
  · rw [outE_no hz] at fo
    obtain ⟨ao, co, rfl, _, _, _, _, _, _⟩ := fo.1.parts
    have KC2 := hide (copy7_any ⟨base, epoch, pid, pep, seq, txn, ctl, com, vs⟩ a cap w3 ((unhide HB).at_.later (unhide B3)) h24 (unhide H64))
    obtain ⟨k0, k1, k2, k3, k4, k5, k6, k7, k8⟩ := (unhide BX3).cells
    simp only at k0 k1 k2 k3 k4 k5 k6 k7 k8
    have KK := hide (fun (a : Option Addr) (cap : Nat) (w : World) (h : RAt w a vs) => check_any ⟨base, epoch, pid, pep, seq, txn, ctl, com, vs⟩ a cap w h)
    simp only [List.length_nil]
    clear fo
    generalize chk ⟨base, epoch, pid, pep, seq, txn, ctl, com, vs⟩ = cc at *
    have hcc : ¬ (cc : Int) = 0 := by omega
    go_wp2_with fail
    refine (unhide KC2).mono ?_
    rintro e w4 ⟨a4, c4, rfl, cp4⟩
    obtain ⟨pd4, _, bl4⟩ := cp4
    obtain ⟨az, cz, ez, r4, _⟩ := pd4.parts
    cases ez
    have B4 := hide ((unhide B3).trans (bl4.mono (unhide B3).size))
    have R4 := hide r4
    clear pd4 bl4 r4 KC2 B3 BX3 k0 k1 k2 k3 k4 k5 k6 k7 k8
    go_wp2_with fail
    refine (unhide KK a4 c4 w4 (unhide R4)).mono ?_
    rintro e wz ⟨rfl, bz⟩
    have BZ := hide ((unhide B4).trans (bz.mono (unhide B4).size))
    clear bz KK B4 R4
    have R0 := hide (Row.lit wz [] (fun x hx => by cases hx) #[] rfl (by simp [maxLen]))
    have LT := hide ((unhide HT).later (unhide BZ))
    go_wp2_with (at_builtin; refine wpList_row _ rfl (.tmp 47) (.tmp 48) rfl _ [] rfl (unhide R0) ta tcap t rfl ((unhide LT).keep ((Touch.refl (fun _ => False) wz).alloc _) (fun _ _ _ h => h)) htn (by simp; omega) ?_)
    intro va wa ra tca ma
    have FA := fresh_lit ra tca ma
    obtain ⟨aa, ca, rfl, la, _, _, na, _, _⟩ := FA.1.parts
    have BA := hide ((unhide BZ).trans (FA.2.2.mono (unhide BZ).size))
    have KD := hide (decode_any wa la na (by omega))
    clear ra tca ma FA la R0 LT BZ
    go_wp2_with fail
    refine (unhide KD).mono ?_
    rintro e wd ⟨ad, cd, rfl, cp⟩
    obtain ⟨pd, nwd, bld⟩ := cp
    have BD := hide ((unhide BA).trans (bld.mono (unhide BA).size))
    clear KD nwd bld BA
    by_cases hde : decE t = 0
    · obtain ⟨hck, heb⟩ := and_back hty hde
      have hdb : decB t = rawB t := decB_ok hde
      have hfit := rawB_fits hty
      rw [hdb] at pd
      rw [hde, hdb]
      obtain ⟨ax, cx, ex, rx, _⟩ := pd.parts
      cases ex
      generalize rawB t = B at *
      obtain ⟨y1, y2, y3, y4, y5, y6, y7, y8, ys⟩ := B
      have hW : Below wd.heap.size wd (wd.alloc (.cells #[.int .i64 y1, .int .i64 y2, .int .u64 (y3 : Int), .int .i64 y4, .int .i64 y5, .bool y6, .bool y7, .bool y8, .slice ad ys.length cd] 25)) := (Below.refl _ _).alloc (Nat.le_refl _) _
      have KE := hide (encode_any ⟨y1, y2, y3, y4, y5, y6, y7, y8, ys⟩ ad cd _ (rx.later hW) hfit)
      have BE := hide ((unhide BD).trans (hW.mono (unhide BD).size))
      have HO := hide (outE_ok hck)
      have HCK := hide hck
      have HEB := hide heb
      clear pd rx hW hdb hfit hck heb hde BD
      go_wp2_with fail
      refine (unhide KE).mono ?_
      rintro e we ⟨ve, rfl, fe⟩
      rw [unhide HCK]
      rw [unhide HO, unhide HEB] at fe
      obtain ⟨ae, ce, rfl, le, _, _, _, _, _⟩ := fe.1.parts
      have BF := hide ((unhide BE).trans (fe.2.2.mono (unhide BE).size))
      have KS := hide (same_gen we ae ta ce tcap t t le ((unhide HT).later (unhide BF)) (by omega))
      clear fe le KE HO HCK HEB BE
      go_wp2_with fail
      refine (unhide KS).mono ?_
      rintro e wf ⟨q, nf, rfl, hq, hwf⟩
      obtain rfl : q = true := hq.2 (by first | trivial | rfl)
      have BG : Hid (Below w.heap.size w wf) := by rw [hwf]; exact below_drewN3 (unhide BF) nf
      clear hq hwf KS
      go_wp2
      go_returns
      exact ⟨by simp, unhide BG⟩
    · have hdb := decB_no hde
      rw [hdb] at pd
      rw [hdb]
      generalize decE t = cc at *
      have hcc : ¬ (cc : Int) = 0 := by omega
      obtain ⟨ax, cx, ex, _⟩ := pd.parts
      simp only [zeroB, List.length_nil] at ex
      cases ex
      have BE : Hid (Below w.heap.size w (wd.alloc (.cells #[.int .i64 0, .int .i64 0, .int .u64 0, .int .i64 0, .int .i64 0, .bool false, .bool false, .bool false, .slice ad 0 cd] 25))) := (unhide BD).alloc (unhide BD).size _
      clear pd hdb hde BD
      simp only [zeroB]
      go_wp2
      go_returns
      exact ⟨by simp, unhide BE⟩
end Go.Proofs.Ytfccddcoindnlaa
