/-
  'awake' of layer 7 answers true. No conditions.
-/
import Derived.Test.YtfccddcoindnlaaEn7
import Derived.Test.YtfccddcoindnlaaDd7
import Derived.Lib.SlBytesConst
namespace Go.Proofs.Ytfccddcoindnlaa
open Go.RowKit
set_option linter.unusedVariables false

def b0 : Bt := ⟨0, 0, 0, 0, 0, false, false, false, [[97]]⟩
theorem b0_chk : chk b0 = 0 := by decide
theorem b0_fits : b0.Fits := ⟨by unfold I64 b0; simp, by unfold I64 b0; simp, by unfold b0; simp, by unfold I64 b0; simp, by unfold I64 b0; simp⟩
theorem b0_enc : encB b0 = [0, 0, 0, 0, 0, 0, 0, 0, 1, 1, 97] := by
  have z : zig 0 = 0 := by decide
  simp [encB, encVs, b0, z, enc_lt]
theorem b0_out : outE b0 = [0, 0, 0, 0, 0, 0, 0, 0, 1, 1, 97] := by rw [outE_ok b0_chk, b0_enc]
theorem b0_dec : decE [0, 0, 0, 0, 0, 0, 0, 0, 1, 1, 97] = 0 ∧ decB [0, 0, 0, 0, 0, 0, 0, 0, 1, 1, 97] = b0 := by
  rw [← b0_enc]; exact there b0_fits b0_chk
theorem lat_bytes {w : World} {cb off : Nat} {l : List Nat} (h : LAt w (some ⟨cb, off, none⟩) l) (us : List UInt8) (hu : us.map (·.toNat) = l) : ∀ j (hj : j < us.length), w.cell? ((⟨cb, off, none⟩ : Addr).add j) = some (.int .u8 (us[j].toNat : Nat)) := by
  intro j hj
  subst hu
  obtain ⟨b', o', e, _, h3, _⟩ := h.cell (i := j) (by simpa using hj)
  cases e
  have hadd : Addr.add ⟨cb, off, none⟩ j = ⟨cb, off + j, none⟩ := by
    unfold Addr.add
    split
    · rename_i h0; subst h0; rfl
    · rfl
  rw [hadd, h3]
  simp [List.getD, hj]

theorem a_ra (w : World) : RAt ((w.alloc (.cells #[.int .u8 97] 5 (1, 2))).alloc (.cells #[.slice (some ⟨w.heap.size, 0, none⟩) 1 1] 26)) (some ⟨w.heap.size + 1, 0, none⟩) [[97]] := by
  intro i hi
  obtain rfl : i = 0 := by simpa using hi
  refine ⟨w.heap.size + 1, 0, .slice (some ⟨w.heap.size, 0, none⟩) 1 1, rfl, by simp, ?_, some ⟨w.heap.size, 0, none⟩, 1, rfl, ?_, fun h => by cases h⟩
  · have := cell_of (heap_new (w.alloc (.cells #[.int .u8 97] 5 (1, 2))) (.cells #[.slice (some ⟨w.heap.size, 0, none⟩) 1 1] 26)) 0
    simp only [World.size_alloc] at this
    exact this
  · intro j hj
    obtain rfl : j = 0 := by simpa using hj
    refine ⟨w.heap.size, 0, rfl, by simp only [World.size_alloc]; omega, ?_, by simp⟩
    have h1 : (w.alloc (.cells #[.int .u8 97] 5 (1, 2))).heap[w.heap.size]? = some (.cells #[.int .u8 97] 5 (1, 2)) := heap_new _ _
    have h2 : ((w.alloc (.cells #[.int .u8 97] 5 (1, 2))).alloc (.cells #[.slice (some ⟨w.heap.size, 0, none⟩) 1 1] 26)).heap[w.heap.size]? = some (.cells #[.int .u8 97] 5 (1, 2)) := heap_old _ h1
    unfold World.cell?
    rw [h2]
    rfl

set_option maxRecDepth 100000 in
set_option maxHeartbeats 4000000 in
theorem awake7_any (w : World) :
    Calls Try.prog 10 #[] w fun e w' => e = .returned (.bool true) ∧ Below w.heap.size w w' := by
  have kc := fun (w : World) (C : Array Value) (n c : Nat) => Lib.run_convert_bytes_const (P := Try.prog) w 26 5 C n c Try.underlying26 Try.underlying5
  have KE := hide (encode_any b0 (some ⟨w.heap.size + 1, 0, none⟩) 1 ((w.alloc (.cells #[.int .u8 97] 5 (1, 2))).alloc (.cells #[.slice (some ⟨w.heap.size, 0, none⟩) 1 1] 26)) (a_ra w) b0_fits)
  have B0 : Hid (Below w.heap.size w ((w.alloc (.cells #[.int .u8 97] 5 (1, 2))).alloc (.cells #[.slice (some ⟨w.heap.size, 0, none⟩) 1 1] 26))) := ((Below.refl _ _).alloc (Nat.le_refl _) _).alloc (by simp) _
  go_enter Try.func10, Try.ntmps10
  go_wp2_with fail
  refine (unhide KE).mono ?_
  rintro e w3 ⟨vo, rfl, fo⟩
  rw [b0_out] at fo
  rw [b0_chk]
  obtain ⟨ao, co, rfl, lo, _, _, no, _, _⟩ := fo.1.parts
  have B3 := hide ((unhide B0).trans (fo.2.2.mono (unhide B0).size))
  have KD := hide (decode_any w3 lo no (by simp))
  obtain ⟨cb, off, rfl, _⟩ := lo.cell (i := 0) (by simp)
  have LO := hide lo
  clear fo lo no KE B0 kc
  go_wp2_with fail
  refine (unhide KD).mono ?_
  rintro e w4 ⟨a4, c4, rfl, cp⟩
  rw [b0_dec.1, b0_dec.2]
  rw [b0_dec.2] at cp
  obtain ⟨pd, nw4, bl4⟩ := cp
  obtain ⟨a4', c4', e4, r4, _⟩ := pd.parts
  cases e4
  obtain ⟨b4, o4, x4, q4, rfl, hb4, y4, l4, _⟩ := r4.cell (i := 0) (by simp [b0])
  simp only [b0, List.getD_cons_zero, List.length_singleton, Nat.add_zero] at y4 l4
  obtain ⟨cb4, off4, rfl, _⟩ := l4.cell (i := 0) (by simp)
  have hW : Below w4.heap.size w4 (w4.alloc (.cells #[.int .i64 0, .int .i64 0, .int .u64 0, .int .i64 0, .int .i64 0, .bool false, .bool false, .bool false, .slice (some ⟨b4, o4, none⟩) 1 c4] 25)) := (Below.refl _ _).alloc (Nat.le_refl _) _
  have lo4 := ((unhide LO).later bl4).later hW
  have ly4 := l4.later hW
  have yy4 : (w4.alloc (.cells #[.int .i64 0, .int .i64 0, .int .u64 0, .int .i64 0, .int .i64 0, .bool false, .bool false, .bool false, .slice (some ⟨b4, o4, none⟩) 1 c4] 25)).cell? ⟨b4, o4, none⟩ = some (.slice (some ⟨cb4, off4, none⟩) 1 q4) := (hW.cell (p := ⟨b4, o4, none⟩) hb4).trans y4
  have CV := run_convert_bytes_back (P := Try.prog) (w4.alloc (.cells #[.int .i64 0, .int .i64 0, .int .u64 0, .int .i64 0, .int .i64 0, .bool false, .bool false, .bool false, .slice (some ⟨b4, o4, none⟩) 1 c4] 25)) 26 9 5 ⟨cb, off, none⟩ co [0, 0, 0, 0, 0, 0, 0, 0, 1, 1, 97] Try.underlying26 Try.underlying5 Try.underlying9 (fun j hj => by simpa using lat_bytes lo4 [0, 0, 0, 0, 0, 0, 0, 0, 1, 1, 97] rfl j hj)
  have CV2 : Sem.run Try.prog (convert 26 9 (.slice (some ⟨cb, off, none⟩) 11 co)) (w4.alloc (.cells #[.int .i64 0, .int .i64 0, .int .u64 0, .int .i64 0, .int .i64 0, .bool false, .bool false, .bool false, .slice (some ⟨b4, o4, none⟩) 1 c4] 25)) = .ok (.string ⟨#[0, 0, 0, 0, 0, 0, 0, 0, 1, 1, 97]⟩) (w4.alloc (.cells #[.int .i64 0, .int .i64 0, .int .u64 0, .int .i64 0, .int .i64 0, .bool false, .bool false, .bool false, .slice (some ⟨b4, o4, none⟩) 1 c4] 25)) := CV
  have CW := run_convert_bytes_back (P := Try.prog) (w4.alloc (.cells #[.int .i64 0, .int .i64 0, .int .u64 0, .int .i64 0, .int .i64 0, .bool false, .bool false, .bool false, .slice (some ⟨b4, o4, none⟩) 1 c4] 25)) 26 9 5 ⟨cb4, off4, none⟩ q4 [97] Try.underlying26 Try.underlying5 Try.underlying9 (fun j hj => by simpa using lat_bytes ly4 [97] rfl j hj)
  have CW2 : Sem.run Try.prog (convert 26 9 (.slice (some ⟨cb4, off4, none⟩) 1 q4)) (w4.alloc (.cells #[.int .i64 0, .int .i64 0, .int .u64 0, .int .i64 0, .int .i64 0, .bool false, .bool false, .bool false, .slice (some ⟨b4, o4, none⟩) 1 c4] 25)) = .ok (.string ⟨#[97]⟩) (w4.alloc (.cells #[.int .i64 0, .int .i64 0, .int .u64 0, .int .i64 0, .int .i64 0, .bool false, .bool false, .bool false, .slice (some ⟨b4, o4, none⟩) 1 c4] 25)) := CW
  have BB := hide (((unhide B3).trans (bl4.mono (unhide B3).size)).trans (hW.mono ((unhide B3).trans (bl4.mono (unhide B3).size)).size))
  clear CV CW lo4 ly4 l4 r4 pd nw4 bl4 hW KD LO B3
  simp only [b0]
  go_wp2
  go_returns
  exact ⟨by simp, unhide BB⟩
end Go.Proofs.Ytfccddcoindnlaa
