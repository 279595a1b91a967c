/-
  wal's framed, of payloads that aren't too long. Conditions: at most 2^24 payloads, none within the wal's own block.
-/
import Derived.Test.YtfdpnfeaagijhaaWt0

namespace Go.Proofs.Ytfdpnfeaagijhaa
open Go.RowKit
set_option linter.unusedVariables false

variable {Xo : Outer}
/-- The rows that grow, beside a framer. -/
structure Grown (Xo : Outer) (w wr : World) (wb : Nat) (v : Value) (T : List Nat) : Prop where
  row : Row wr v T
  new : New w v
  done : Fdone Xo w wr wb
def FrPost (Xo : Outer) (w : World) (wb : Nat) (ls : List (List Nat)) (e : Ending) (w' : World) : Prop := ∃ v, e = .returned (.tuple #[v, .int .i64 0]) ∧ Grown Xo w w' wb v (frames ls)

set_option maxRecDepth 100000 in
set_option maxHeartbeats 4000000 in
theorem framed_ok (w : World) (wb : Nat) (a : Option Addr) (cap : Nat) (ls : List (List Nat)) (hr : Ready Xo w wb) (hp : Clear (· = wb) w a ls) (h4 : ∀ p ∈ ls, p.length ≤ 4096) (hl : ls.length ≤ 16777216) :
    Calls Try.prog 19 #[.pointer (some ⟨wb, 0, none⟩), .slice a ls.length cap] w fun e w' => FrPost Xo w wb ls e w' := by
  have HP := hide hp
  have H4 := hide h4
  have HR := hide hr
  have hwb := hr.lt
  clear hp h4 hr
  go_enter Try.func19, Try.ntmps19
  go_wp2_with fail
  go_loopw [6, 13] (fun pv pl wr => ∃ (v1 : Value) (k : Nat), v1 = pv ∧ k ≤ ls.length ∧ pl = .int .i64 k ∧ Grown Xo w wr wb v1 (frames (ls.take k))) (fun _ pl _ => ls.length - (intOf pl).toNat)
  case atStart => exact ⟨_, 0, rfl, Nat.zero_le _, rfl, Row.nil _, New.nil _, unhide HR, Touch.refl _ _⟩
  case round =>
    obtain ⟨v1, k, rfl, hk, rfl, hg⟩ := hrel
    have HG := hide hg
    clear hg HR
    by_cases hkc : k < ls.length
    · have hkc' : (k : Int) < (ls.length : Int) := by omega
      obtain ⟨b, off, x, c, rfl, hbw, hbne, hcell, lx, hnx, hxne⟩ := (unhide HP) k hkc
      have hcell' : wr.cell? ⟨b, off + k, none⟩ = some (.slice x (ls.getD k []).length c) := by rw [cell_touch (unhide HG).done.touch hbw hbne]; exact hcell
      have hp4 : (ls.getD k []).length ≤ 4096 := unhide H4 _ (getD_mem_l hkc)
      have ET := hide (frames_take_succ hkc)
      have EN := hide (fencode_any (cap := c) (unhide HG).done.ready (lx.keep (unhide HG).done.touch hxne) hnx hxne hp4)
      have hfl := fenc_len (ls.getD k [])
      have hfl' : (fenc (ls.getD k [])).length ≤ 4104 := by omega
      have hmx := frames_len_le (ls := ls.take k) (fun p hp => unhide H4 p (List.mem_of_mem_take hp))
      have hmx' : (frames (ls.take k)).length ≤ 4104 * 16777216 := by rw [List.length_take] at hmx; omega
      clear lx hxne hcell hmx hfl
      generalize ls.getD k [] = p at *
      generalize hT : frames (ls.take k) = T at *
      clear hT
      generalize hF : fenc p = F at *
      clear hF
      obtain ⟨av, mv, cv, rfl⟩ := (unhide HG).row.shape
      go_wp2_with fail
      refine (unhide EN).mono ?_
      rintro e w2 ⟨v2, rfl, r2, n2, f2⟩
      have R1 := hide ((unhide HG).row.keep f2.touch (fun j hj e => by have := (unhide HG).new j hj; omega))
      have F2 : Hid (Fdone Xo w w2 wb) := ⟨f2.ready, (unhide HG).done.touch.trans f2.touch⟩
      obtain ⟨a2, c2, rfl, l2, _, _, hn2, _⟩ := r2.parts
      have L2 := hide l2
      clear r2 n2 f2 l2 EN
      go_wp2_with (at_builtin; refine wpList_row _ rfl (.tmp 28) (.tmp 29) rfl _ T rfl (unhide R1) a2 c2 F rfl (unhide L2) hn2 (by omega) ?_)
      intro v3 w3 r3 t3 m3
      have NX : Hid (Grown Xo w w3 wb v3 (T ++ F)) := by
        refine ⟨r3, (unhide HG).new.moved m3 (unhide F2).touch.size, (unhide F2).ready.keep t3 (fun h => by have := (unhide HG).new _ h; omega), touch_new (unhide F2).touch t3 (fun j hj => .inr ((unhide HG).new j hj))⟩
      rw [← unhide ET] at NX
      obtain ⟨a3, m3', c3, rfl⟩ := r3.shape
      clear r3 t3 m3 R1 L2 F2 HG
      go_wp2
      go_roundw
      case rel => exact ⟨_, k + 1, rfl, by omega, by go_num, unhide NX⟩
      case measure => simp [intOf]; omega
    · have hkc' : ¬ (k : Int) < (ls.length : Int) := by omega
      obtain rfl : k = ls.length := by omega
      rw [List.take_length] at HG
      obtain ⟨av, mv, cv, rfl⟩ := (unhide HG).row.shape
      go_wp2
      go_returns
      exact ⟨_, rfl, unhide HG⟩
end Go.Proofs.Ytfdpnfeaagijhaa
