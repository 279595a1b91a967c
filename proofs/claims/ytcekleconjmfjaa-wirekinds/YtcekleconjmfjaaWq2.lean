/-
  wire's writer: ints, entry, abort, batch. Conditions: the message as it lies, what was laid so far at most 2^45 bytes.
-/
import Derived.Test.YtcekleconjmfjaaWq1
import Derived.Test.YtcekleconjmfjaaEn7
namespace Go.Proofs.Ytcekleconjmfjaa
open Go.RowKit
set_option linter.unusedVariables false

theorem encL_room (l : List Int) (h : ∀ x ∈ l, I64 x) (k : Nat) : (encL (l.take k)).length ≤ 10 * l.length := by
  have h1 := encL_len (l.take k) (fun x hx => h x (List.mem_of_mem_take hx))
  have h2 : (l.take k).length ≤ l.length := by rw [List.length_take]; omega
  omega
section
variable {w0 w : World} {N : Nat → Prop} {b : Nat} {s : Ws}
set_option maxHeartbeats 4000000 in
theorem wints_q {ao : Option Addr} {c : Nat} (ls : List Int) (h : Wq w0 N w b s) (hb : IAt w ao ls) (hs : 0 < ls.length → ∀ x, ao = some x → N x.block) (hf : ∀ x ∈ ls, I64 x) (hm : ls.length ≤ 100) (hl : s.1.length ≤ 35184372088832) :
    Calls Try.prog 41 #[.agg #[.pointer (some ⟨b, 0, none⟩)], .slice ao ls.length c] w fun e w' => WD w0 N w b (wX s (encL ls)) e w' := by
  have hb0 := (Below.refl w.heap.size w).alloc (Nat.le_refl _) (.cells #[.pointer (some ⟨b, 0, none⟩)] 77)
  have Q0 := hide (h.grow hb0)
  have HX := hide (heap_new w (.cells #[.pointer (some ⟨b, 0, none⟩)] 77))
  have HI := hide (hb.later hb0)
  have HS := hide hs
  have HN := hide h.old
  have HL := hide h.low
  have HF := hide hf
  have HR := hide (fun k => encL_room ls hf k)
  have HB0 := hide hb0
  generalize hn : ls.length = n at *
  have HNN := hide hn
  clear h hb hs hf hb0 hn
  go_enter Try.func41, Try.ntmps41
  go_wp2
  generalize w.alloc (.cells #[.pointer (some ⟨b, 0, none⟩)] 77) = W1 at *
  go_loopg [5, 8] n (fun gg _ s8 wr => ∃ kk : Nat, kk ≤ n ∧ n - kk ≤ gg ∧ s8 = .int .i64 kk ∧ Hid (Wq w0 (Gr N w W1) wr b (wX s (encL (ls.take kk)))) ∧ Hid (Touch (Off (Gr N w W1)) W1 wr))
  case atStart => exact ⟨0, Nat.zero_le _, by omega, rfl, by simpa [encL, wX_nil] using Q0, hide (Touch.refl _ _)⟩
  case round =>
    obtain ⟨kk, hkk, hg, rfl, Q, T⟩ := hrel
    by_cases hlt : kk < n
    · have hltz : (kk : Int) < (n : Int) := by omega
      have hk' : kk < ls.length := by rw [unhide HNN]; exact hlt
      obtain ⟨cb, off, ea, _, hcell⟩ := ((unhide HI).keep (unhide T) (fun h0 x hx hk => hk (.inl (unhide HS (by rw [← unhide HNN]; exact h0) x hx)))) kk hk'
      subst ea
      have hx := unhide HF (ls.getD kk 0) (by simp [List.getD, hk'])
      have hr := unhide HR kk
      have hq := wX_len s (encL (ls.take kk))
      have KI := hide (int_q (ls.getD kk 0) (unhide Q) hx.1 hx.2 (by omega))
      have ET := hide (encL_take ls kk hk')
      have z0 := cell_of (Gr.keep (unhide T) (unhide HX) (Nat.le_refl _)) 0
      simp at z0
      clear hk' hx hr hq
      generalize ls.getD kk 0 = y at *
      go_wp2_with (go_at_call 57; refine (unhide KI).mono ?_; rintro e w2 ⟨rfl, q2, t2⟩; have Q2 := hide q2; have T2 := hide ((unhide T).trans t2); clear q2 t2)
      go_roundg (n - (kk + 1))
      case measure => omega
      case rel => exact ⟨kk + 1, by omega, by omega, by go_num, by rw [unhide ET, ← wX_wX]; exact Q2, T2⟩
    · have hltz : ¬ (kk : Int) < (n : Int) := by omega
      have e : kk = n := by omega
      have Q3 := unhide Q
      rw [e, ← unhide HNN, List.take_length] at Q3
      have FF := hide (Wq.leave Q3 (unhide HB0) (unhide HN) (unhide HL) (unhide T))
      clear Q Q3 e
      go_wp2
      go_returns
      exact ⟨rfl, unhide FF⟩
/-- An entry: its number, its bytes. -/
def layE (s : Ws) (t : Int) (d : List Nat) : Ws := wB (wX s (enc (zig t))) d
set_option maxHeartbeats 4000000 in
theorem entry_q {ao : Option Addr} {c : Nat} (t : Int) (d : List Nat) (h : Wq w0 N w b s) (hb : LAt w0 ao d) (hc : ao = none → c = 0) (hf : I64 t) (hl : s.1.length ≤ 35184372088832) :
    Calls Try.prog 60 #[.agg #[.pointer (some ⟨b, 0, none⟩)], .agg #[.int .i64 t, .slice ao d.length c]] w fun e w' => WD w0 N w b (layE s t d) e w' := by
  have hb0 := ((Below.refl w.heap.size w).alloc (Nat.le_refl _) (.cells #[.pointer (some ⟨b, 0, none⟩)] 77)).alloc (by simp) (.cells #[.int .i64 t, .slice ao d.length c] 65)
  have Q0 := hide (h.grow hb0)
  have HX := hide (heap_old (.cells #[.int .i64 t, .slice ao d.length c] 65) (heap_new w (.cells #[.pointer (some ⟨b, 0, none⟩)] 77)))
  have HE := hide (heap_new (w.alloc (.cells #[.pointer (some ⟨b, 0, none⟩)] 77)) (.cells #[.int .i64 t, .slice ao d.length c] 65))
  have hsz : (w.alloc (.cells #[.pointer (some ⟨b, 0, none⟩)] 77)).heap.size = w.heap.size + 1 := by simp
  rw [hsz] at HE
  have HD := hide hb
  have HN := hide h.old
  have HL := hide h.low
  have HB0 := hide hb0
  have hx := wX_len s (enc (zig t))
  have h10 := enc_len10 (zig_lt hf.1 hf.2)
  clear h hb hb0 hsz
  unfold layE
  go_enter Try.func60, Try.ntmps60
  go_upto_region 1 with fail
  generalize (w.alloc (.cells #[.pointer (some ⟨b, 0, none⟩)] 77)).alloc (.cells #[.int .i64 t, .slice ao d.length c] 65) = W1 at *
  have z0 := cell_of (unhide HX) 0
  have y0 := cell_of (unhide HE) 0
  simp at z0 y0
  go_wp2_with fail
  refine (int_q t (unhide Q0) hf.1 hf.2 (by omega)).mono ?_
  rintro e w2 ⟨rfl, q2, t2⟩
  have Q2 := hide q2
  have T2 := hide t2
  have x0 := cell_of (Gr.keep t2 (unhide HX) (Nat.le_refl _)) 0
  have x1 := cell_of (Gr.keep t2 (unhide HE) (by omega)) 1
  simp at x0 x1
  have LD := hide ((unhide Q2).lat (unhide HD))
  clear q2 t2 z0 y0
  go_wp2_with fail
  refine (bytes_q ao c d (unhide Q2) (unhide LD).1 hc (unhide LD).2 (by omega)).mono ?_
  rintro e w3 ⟨rfl, q3, t3⟩
  have FF := hide (Wq.leave q3 (unhide HB0) (unhide HN) (unhide HL) ((unhide T2).trans t3))
  clear q3 t3
  go_wp2
  go_returns
  exact ⟨rfl, unhide FF⟩
end
end Go.Proofs.Ytcekleconjmfjaa
