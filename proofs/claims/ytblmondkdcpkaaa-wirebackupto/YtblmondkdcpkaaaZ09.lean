/-
  wire's writer: layAll at entries, batches and aborted transactions. Conditions: the message as it lies, what was laid so far at most 2^43 bytes.
-/
import Derived.Test.YtblmondkdcpkaaaZ08
import Derived.Shelf.Abstract

namespace Go.Proofs.Ytblmondkdcpkaaa
open Go.RowKit
set_option linter.unusedVariables false

/-- What is told of a slice of things of sz cells each. -/
def RowsAt {α : Type} (cells : α → List Value) (sz : Nat) (w : World) (a : Option Addr) (os : List α) : Prop :=
  ∀ i (hi : i < os.length), ∃ b off, a = some ⟨b, off, none⟩ ∧ b < w.heap.size ∧ ∀ j, j < sz → w.cell? ⟨b, off + i * sz + j, none⟩ = (cells os[i])[j]?
structure En where
  t : Int
  a : Option Addr
  c : Nat
  d : List Nat
structure Ba where
  b : Bt
  a : Option Addr
  c : Nat
structure Ab where
  p : Nat
  f : Int
  l : Int
def EnIn (w : World) (o : En) : Prop := LAt w o.a o.d ∧ (o.a = none → o.c = 0) ∧ I64 o.t
def BaIn (w : World) (o : Ba) : Prop := RAt w o.a o.b.vs ∧ o.b.Fits
def AbIn (w : World) (o : Ab) : Prop := o.p < 18446744073709551616 ∧ I64 o.f ∧ I64 o.l
/-- What a call leaves that may give up: E is 0, and it comes back; else it gives up with E. -/
def WP (w0 : World) (N : Nat → Prop) (w : World) (b : Nat) (E : Int) (s : Ws) (e : Ending) (w' : World) : Prop := Touch (Off N) w w' ∧ (E = 0 → e = .returned (.tuple #[]) ∧ Wq w0 N w' b s) ∧ (E ≠ 0 → e = gone E)
def errs : List Ba → Int
  | [] => 0
  | o :: r => if batE o.b ≠ 0 then batE o.b else errs r
theorem layE_len (s : Ws) {t : Int} (d : List Nat) (ht : I64 t) : (layE s t d).1.length ≤ s.1.length + 4116 := by
  unfold layE
  have h1 := wB_len (wX s (enc (zig t))) d
  have h2 := wX_len s (enc (zig t))
  have h3 := enc_len10 (zig_lt ht.1 ht.2)
  omega
theorem conv_len (n : Nat) (h : n ≤ 140737488355328) : IntKind.u64.wrap (n : Int) = (n : Int) := by
  simp [IntKind.wrap, IntKind.bits, IntKind.signed]
  omega
section
variable {w0 w : World} {N : Nat → Prop} {b : Nat} {s : Ws}
def cellsEn (o : En) : List Value := [.int .i64 o.t, .slice o.a o.d.length o.c]
def stepEn (s : Ws) (o : En) : Ws := layE s o.t o.d
theorem stepEn_len {w : World} (s : Ws) {o : En} (h : EnIn w o) : (stepEn s o).1.length ≤ s.1.length + 4116 := by
  unfold stepEn
  exact layE_len s o.d h.2.2
theorem RowsAt.atEn {w W : World} {a : Option Addr} {os : List En} (h : RowsAt cellsEn 2 w a os) (hb : Below w.heap.size w W) {k : Nat} (hk : k < os.length) {o : En} (ho : os[k] = o) : ∃ b off, a = some ⟨b, off, none⟩ ∧ W.cell? ⟨b, off + k * 2, none⟩ = some (.int .i64 o.t) ∧ W.cell? ⟨b, off + k * 2 + 1, none⟩ = some (.slice o.a o.d.length o.c) := by
  obtain ⟨b, off, e1, e2, e3⟩ := h k hk
  rw [ho] at e3
  refine ⟨b, off, e1, ?_, ?_⟩
  · exact (hb.cell (p := ⟨b, off + k * 2 + 0, none⟩) e2).trans (e3 0 (by omega))
  · exact (hb.cell (p := ⟨b, off + k * 2 + 1, none⟩) e2).trans (e3 1 (by omega))
set_option maxHeartbeats 8000000 in
theorem layEn_long {os : List En} {ao : Option Addr} {cap : Nat} (h : Wq w0 N w b s) (hr : RowsAt cellsEn 2 w0 ao os) (hin : ∀ o ∈ os, EnIn w0 o) (hm : os.length ≤ 140737488355328) (hc : cntE os.length ≠ 0) (hl : s.1.length ≤ 8796093022208) :
    Calls Try.prog 59 #[.agg #[.pointer (some ⟨b, 0, none⟩)], .slice ao os.length cap, .func (.func 60) #[.agg #[.pointer (some ⟨b, 0, none⟩)]] #[]] w fun e w' => e = gone 2 ∧ Touch (Off N) w w' := by
  have hb0 := (Below.refl w.heap.size w).alloc (Nat.le_refl _) (.cells #[.pointer (some ⟨b, 0, none⟩)] 77)
  have Q0 := hide (h.grow hb0)
  have HX := hide (heap_new w (.cells #[.pointer (some ⟨b, 0, none⟩)] 77))
  have HN := hide h.old
  have HL := hide h.low
  have HB0 := hide hb0
  have HU := hide (conv_len os.length hm)
  have HC := hide hc
  have KC := hide (needCount_no (w.alloc (.cells #[.pointer (some ⟨b, 0, none⟩)] 77)) hc)
  have TT : Hid (Touch (Off N) w (w.alloc (.cells #[.pointer (some ⟨b, 0, none⟩)] 77))) := hide (Touch.of_below hb0)
  clear h hr hin hb0 hc
  generalize os.length = n at *
  have hu := unhide HU
  go_enter Try.func59, Try.ntmps59
  go_wp2_with (go_at_call 66; refine (unhide KC).mono ?_; rintro e w1 ⟨rfl, rfl⟩)
  exact ⟨rfl, rfl, unhide TT⟩
set_option maxHeartbeats 8000000 in
theorem layEn_any {os : List En} {ao : Option Addr} {cap : Nat} (h : Wq w0 N w b s) (hr : RowsAt cellsEn 2 w0 ao os) (hin : ∀ o ∈ os, EnIn w0 o) (hm : os.length ≤ 140737488355328) (hc : cntE os.length = 0) {S' : Ws} (hS : os.foldl stepEn (wX s (enc os.length)) = S') (hl : s.1.length ≤ 8796093022208) :
    Calls Try.prog 59 #[.agg #[.pointer (some ⟨b, 0, none⟩)], .slice ao os.length cap, .func (.func 60) #[.agg #[.pointer (some ⟨b, 0, none⟩)]] #[]] w fun e w' => WD w0 N w b S' e w' := by
  have hb0 := (Below.refl w.heap.size w).alloc (Nat.le_refl _) (.cells #[.pointer (some ⟨b, 0, none⟩)] 77)
  have Q0 := hide (h.grow hb0)
  have HX := hide (heap_new w (.cells #[.pointer (some ⟨b, 0, none⟩)] 77))
  have HN := hide h.old
  have HL := hide h.low
  have HB0 := hide hb0
  have HU := hide (conv_len os.length hm)
  have HC := hide hc
  have KC := hide (needCount_ok (w.alloc (.cells #[.pointer (some ⟨b, 0, none⟩)] 77)) hc)
  have h5 : os.length ≤ 512 := by
    unfold cntE at hc
    split at hc
    · cases hc
    · omega
  have hx1 := wX_len s (enc os.length)
  have hx2 := enc_len10 (n := os.length) (by omega)
  have HR := hide hr
  have HIN := hide hin
  have HS := hide hS
  have eg : ∀ args w, (callFunc 60 args).run Try.prog w = .ok (.enter 60 args) w := enters_of Try.func60 rfl rfl
  clear h hr hin hb0 hc hS
  generalize hn : os.length = n at *
  have HNN := hide hn
  clear hn
  have hu := unhide HU
  have z0 : (w.alloc (.cells #[.pointer (some ⟨b, 0, none⟩)] 77)).cell? ⟨w.heap.size, 0, none⟩ = some (.pointer (some ⟨b, 0, none⟩)) := cell_of (unhide HX) 0
  go_enter Try.func59, Try.ntmps59
  go_upto_region 1 with fail
  generalize w.alloc (.cells #[.pointer (some ⟨b, 0, none⟩)] 77) = W1 at *
  go_wp2_with fail
  refine (unhide KC).mono ?_
  rintro e wq ⟨rfl, rfl⟩
  go_wp2_with fail
  refine (uint_q n (unhide Q0) (by omega) (by omega)).mono ?_
  rintro e w2 ⟨rfl, q2, t2⟩
  have Q2 := hide q2
  have T2 := hide t2
  clear q2 t2 z0
  go_wp2
  go_loopg [7, 20] n (fun gg _ s20 wr => ∃ (kk : Nat) (sk : Ws), kk ≤ n ∧ n - kk ≤ gg ∧ s20 = .int .i64 kk ∧ Hid (Wq w0 (Gr N w wq) wr b sk) ∧ Hid (Touch (Off (Gr N w wq)) wq wr) ∧ Hid ((os.drop kk).foldl stepEn sk = S') ∧ Hid (sk.1.length ≤ s.1.length + 10 + kk * 4116))
  case atStart => exact ⟨0, wX s (enc n), Nat.zero_le _, by omega, rfl, Q2, T2, by simpa using HS, hide (by omega)⟩
  case round =>
    obtain ⟨kk, sk, hkk, hg, rfl, Q, T, F, L⟩ := hrel
    by_cases hlt : kk < n
    · have hltz : (kk : Int) < (n : Int) := by omega
      have hk' : kk < os.length := by rw [unhide HNN]; exact hlt
      obtain ⟨o, ho⟩ : ∃ o, os[kk] = o := ⟨_, rfl⟩
      have HO := hide (unhide HIN o (by rw [← ho]; exact List.getElem_mem hk'))
      obtain ⟨cb, off, ea, y0, y1⟩ := RowsAt.atEn (unhide HR) (unhide Q).base hk' ho
      subst ea
      have HD : Hid (os.drop kk = o :: os.drop (kk + 1)) := hide (by rw [List.drop_eq_getElem_cons hk', ho])
      have hL := unhide L
      have hlen := stepEn_len sk (unhide HO)
      have bA := (Below.refl wr.heap.size wr).alloc (Nat.le_refl _) (.cells #[.int .i64 o.t, .slice o.a o.d.length o.c] 65)
      have QB := hide ((unhide Q).grow bA)
      have HBX := hide (heap_new wr (.cells #[.int .i64 o.t, .slice o.a o.d.length o.c] 65))
      have HBA := hide bA
      clear hk' ho bA
      go_upto_region 6 with fail
      generalize wr.alloc (.cells #[.int .i64 o.t, .slice o.a o.d.length o.c] 65) = wb at *
      clear y0 y1
      have g0 := cell_of (unhide HBX) 0
      have g1 := cell_of (unhide HBX) 1
      simp at g0 g1
      have KO := hide (entry_q o.t o.d (unhide QB) (unhide HO).1 (unhide HO).2.1 (unhide HO).2.2 (by omega))
      go_wp2_with (go_at_fn 60; refine (unhide KO).mono ?_; rintro e w4 ⟨rfl, q4, t4⟩; have F4 := Wq.leave q4 (unhide HBA) (unhide Q).old (unhide Q).low t4; have Q4 := hide F4.1; have T4 := hide ((unhide T).trans F4.2); clear q4 t4 F4)
      go_roundg (n - (kk + 1))
      case measure => omega
      case rel => exact ⟨kk + 1, stepEn sk o, by omega, by omega, by go_num, Q4, T4, hide (by rw [← unhide F, unhide HD]; rfl), hide (by omega)⟩
    · have hltz : ¬ (kk : Int) < (n : Int) := by omega
      have e : kk = n := by omega
      have hd : os.drop kk = [] := by rw [e, ← unhide HNN, List.drop_length]
      have F2 := unhide F
      rw [hd] at F2
      simp only [List.foldl_nil] at F2
      subst F2
      have FF := hide (Wq.leave (unhide Q) (unhide HB0) (unhide HN) (unhide HL) (unhide T))
      clear e hd
      go_wp2
      go_returns
      exact ⟨rfl, unhide FF⟩
def cellsBa (o : Ba) : List Value := [.int .i64 o.b.base, .int .i64 o.b.epoch, .int .u64 (o.b.pid : Int), .int .i64 o.b.pep, .int .i64 o.b.seq, .bool o.b.txn, .bool o.b.ctl, .bool o.b.com, .slice o.a o.b.vs.length o.c]
def stepBa (s : Ws) (o : Ba) : Ws := batS s o.b
theorem stepBa_len {w : World} (s : Ws) {o : Ba} (h : BaIn w o) : (stepBa s o).1.length ≤ s.1.length + 4116 := by
  unfold stepBa
  have := batS_len s o.b
  omega
theorem RowsAt.atBa {w W : World} {a : Option Addr} {os : List Ba} (h : RowsAt cellsBa 9 w a os) (hb : Below w.heap.size w W) {k : Nat} (hk : k < os.length) {o : Ba} (ho : os[k] = o) : ∃ b off, a = some ⟨b, off, none⟩ ∧ W.cell? ⟨b, off + k * 9, none⟩ = some (.int .i64 o.b.base) ∧ W.cell? ⟨b, off + k * 9 + 1, none⟩ = some (.int .i64 o.b.epoch) ∧ W.cell? ⟨b, off + k * 9 + 2, none⟩ = some (.int .u64 (o.b.pid : Int)) ∧ W.cell? ⟨b, off + k * 9 + 3, none⟩ = some (.int .i64 o.b.pep) ∧ W.cell? ⟨b, off + k * 9 + 4, none⟩ = some (.int .i64 o.b.seq) ∧ W.cell? ⟨b, off + k * 9 + 5, none⟩ = some (.bool o.b.txn) ∧ W.cell? ⟨b, off + k * 9 + 6, none⟩ = some (.bool o.b.ctl) ∧ W.cell? ⟨b, off + k * 9 + 7, none⟩ = some (.bool o.b.com) ∧ W.cell? ⟨b, off + k * 9 + 8, none⟩ = some (.slice o.a o.b.vs.length o.c) := by
  obtain ⟨b, off, e1, e2, e3⟩ := h k hk
  rw [ho] at e3
  refine ⟨b, off, e1, ?_, ?_, ?_, ?_, ?_, ?_, ?_, ?_, ?_⟩
  · exact (hb.cell (p := ⟨b, off + k * 9 + 0, none⟩) e2).trans (e3 0 (by omega))
  · exact (hb.cell (p := ⟨b, off + k * 9 + 1, none⟩) e2).trans (e3 1 (by omega))
  · exact (hb.cell (p := ⟨b, off + k * 9 + 2, none⟩) e2).trans (e3 2 (by omega))
  · exact (hb.cell (p := ⟨b, off + k * 9 + 3, none⟩) e2).trans (e3 3 (by omega))
  · exact (hb.cell (p := ⟨b, off + k * 9 + 4, none⟩) e2).trans (e3 4 (by omega))
  · exact (hb.cell (p := ⟨b, off + k * 9 + 5, none⟩) e2).trans (e3 5 (by omega))
  · exact (hb.cell (p := ⟨b, off + k * 9 + 6, none⟩) e2).trans (e3 6 (by omega))
  · exact (hb.cell (p := ⟨b, off + k * 9 + 7, none⟩) e2).trans (e3 7 (by omega))
  · exact (hb.cell (p := ⟨b, off + k * 9 + 8, none⟩) e2).trans (e3 8 (by omega))
set_option maxHeartbeats 8000000 in
theorem layBa_long {os : List Ba} {ao : Option Addr} {cap : Nat} (h : Wq w0 N w b s) (hr : RowsAt cellsBa 9 w0 ao os) (hin : ∀ o ∈ os, BaIn w0 o) (hm : os.length ≤ 140737488355328) (hc : cntE os.length ≠ 0) (hl : s.1.length ≤ 8796093022208) :
    Calls Try.prog 62 #[.agg #[.pointer (some ⟨b, 0, none⟩)], .slice ao os.length cap, .func (.func 63) #[.agg #[.pointer (some ⟨b, 0, none⟩)]] #[]] w fun e w' => e = gone 2 ∧ Touch (Off N) w w' := by
  have hb0 := (Below.refl w.heap.size w).alloc (Nat.le_refl _) (.cells #[.pointer (some ⟨b, 0, none⟩)] 77)
  have Q0 := hide (h.grow hb0)
  have HX := hide (heap_new w (.cells #[.pointer (some ⟨b, 0, none⟩)] 77))
  have HN := hide h.old
  have HL := hide h.low
  have HB0 := hide hb0
  have HU := hide (conv_len os.length hm)
  have HC := hide hc
  have KC := hide (needCount_no (w.alloc (.cells #[.pointer (some ⟨b, 0, none⟩)] 77)) hc)
  have TT : Hid (Touch (Off N) w (w.alloc (.cells #[.pointer (some ⟨b, 0, none⟩)] 77))) := hide (Touch.of_below hb0)
  clear h hr hin hb0 hc
  generalize os.length = n at *
  have hu := unhide HU
  go_enter Try.func62, Try.ntmps62
  go_wp2_with (go_at_call 66; refine (unhide KC).mono ?_; rintro e w1 ⟨rfl, rfl⟩)
  exact ⟨rfl, rfl, unhide TT⟩
set_option maxHeartbeats 8000000 in
theorem layBa_any {os : List Ba} {ao : Option Addr} {cap : Nat} (h : Wq w0 N w b s) (hr : RowsAt cellsBa 9 w0 ao os) (hin : ∀ o ∈ os, BaIn w0 o) (hm : os.length ≤ 140737488355328) (hc : cntE os.length = 0) {E : Int} {S' : Ws} (hE : errs os = E) (hS : os.foldl stepBa (wX s (enc os.length)) = S') (hl : s.1.length ≤ 8796093022208) :
    Calls Try.prog 62 #[.agg #[.pointer (some ⟨b, 0, none⟩)], .slice ao os.length cap, .func (.func 63) #[.agg #[.pointer (some ⟨b, 0, none⟩)]] #[]] w fun e w' => WP w0 N w b E S' e w' := by
  have hb0 := (Below.refl w.heap.size w).alloc (Nat.le_refl _) (.cells #[.pointer (some ⟨b, 0, none⟩)] 77)
  have Q0 := hide (h.grow hb0)
  have HX := hide (heap_new w (.cells #[.pointer (some ⟨b, 0, none⟩)] 77))
  have HN := hide h.old
  have HL := hide h.low
  have HB0 := hide hb0
  have HU := hide (conv_len os.length hm)
  have HC := hide hc
  have KC := hide (needCount_ok (w.alloc (.cells #[.pointer (some ⟨b, 0, none⟩)] 77)) hc)
  have h5 : os.length ≤ 512 := by
    unfold cntE at hc
    split at hc
    · cases hc
    · omega
  have hx1 := wX_len s (enc os.length)
  have hx2 := enc_len10 (n := os.length) (by omega)
  have HR := hide hr
  have HIN := hide hin
  have HS := hide hS
  have HE := hide hE
  have eg : ∀ args w, (callFunc 63 args).run Try.prog w = .ok (.enter 63 args) w := enters_of Try.func63 rfl rfl
  clear h hr hin hb0 hc hS hE
  generalize hn : os.length = n at *
  have HNN := hide hn
  clear hn
  have hu := unhide HU
  have z0 : (w.alloc (.cells #[.pointer (some ⟨b, 0, none⟩)] 77)).cell? ⟨w.heap.size, 0, none⟩ = some (.pointer (some ⟨b, 0, none⟩)) := cell_of (unhide HX) 0
  go_enter Try.func62, Try.ntmps62
  go_upto_region 1 with fail
  generalize w.alloc (.cells #[.pointer (some ⟨b, 0, none⟩)] 77) = W1 at *
  go_wp2_with fail
  refine (unhide KC).mono ?_
  rintro e wq ⟨rfl, rfl⟩
  go_wp2_with fail
  refine (uint_q n (unhide Q0) (by omega) (by omega)).mono ?_
  rintro e w2 ⟨rfl, q2, t2⟩
  have Q2 := hide q2
  have T2 := hide t2
  clear q2 t2 z0
  go_wp2
  go_loopg [7, 20] n (fun gg _ s20 wr => ∃ (kk : Nat) (sk : Ws), kk ≤ n ∧ n - kk ≤ gg ∧ s20 = .int .i64 kk ∧ Hid (Wq w0 (Gr N w wq) wr b sk) ∧ Hid (Touch (Off (Gr N w wq)) wq wr) ∧ Hid ((os.drop kk).foldl stepBa sk = S') ∧ Hid (sk.1.length ≤ s.1.length + 10 + kk * 4116) ∧ Hid (errs (os.drop kk) = E))
  case atStart => exact ⟨0, wX s (enc n), Nat.zero_le _, by omega, rfl, Q2, T2, by simpa using HS, hide (by omega), by simpa using HE⟩
  case round =>
    obtain ⟨kk, sk, hkk, hg, rfl, Q, T, F, L, EE⟩ := hrel
    by_cases hlt : kk < n
    · have hltz : (kk : Int) < (n : Int) := by omega
      have hk' : kk < os.length := by rw [unhide HNN]; exact hlt
      obtain ⟨o, ho⟩ : ∃ o, os[kk] = o := ⟨_, rfl⟩
      have HO := hide (unhide HIN o (by rw [← ho]; exact List.getElem_mem hk'))
      obtain ⟨cb, off, ea, y0, y1, y2, y3, y4, y5, y6, y7, y8⟩ := RowsAt.atBa (unhide HR) (unhide Q).base hk' ho
      subst ea
      have HD : Hid (os.drop kk = o :: os.drop (kk + 1)) := hide (by rw [List.drop_eq_getElem_cons hk', ho])
      have hL := unhide L
      have hlen := stepBa_len sk (unhide HO)
      have bA := (Below.refl wr.heap.size wr).alloc (Nat.le_refl _) (.cells #[.int .i64 o.b.base, .int .i64 o.b.epoch, .int .u64 (o.b.pid : Int), .int .i64 o.b.pep, .int .i64 o.b.seq, .bool o.b.txn, .bool o.b.ctl, .bool o.b.com, .slice o.a o.b.vs.length o.c] 38)
      have QB := hide ((unhide Q).grow bA)
      have HBX := hide (heap_new wr (.cells #[.int .i64 o.b.base, .int .i64 o.b.epoch, .int .u64 (o.b.pid : Int), .int .i64 o.b.pep, .int .i64 o.b.seq, .bool o.b.txn, .bool o.b.ctl, .bool o.b.com, .slice o.a o.b.vs.length o.c] 38))
      have HBA := hide bA
      clear hk' ho bA
      go_upto_region 6 with fail
      generalize wr.alloc (.cells #[.int .i64 o.b.base, .int .i64 o.b.epoch, .int .u64 (o.b.pid : Int), .int .i64 o.b.pep, .int .i64 o.b.seq, .bool o.b.txn, .bool o.b.ctl, .bool o.b.com, .slice o.a o.b.vs.length o.c] 38) = wb at *
      clear y0 y1 y2 y3 y4 y5 y6 y7 y8
      have g0 := cell_of (unhide HBX) 0
      have g1 := cell_of (unhide HBX) 1
      have g2 := cell_of (unhide HBX) 2
      have g3 := cell_of (unhide HBX) 3
      have g4 := cell_of (unhide HBX) 4
      have g5 := cell_of (unhide HBX) 5
      have g6 := cell_of (unhide HBX) 6
      have g7 := cell_of (unhide HBX) 7
      have g8 := cell_of (unhide HBX) 8
      simp at g0 g1 g2 g3 g4 g5 g6 g7 g8
      by_cases hz : o.b.ctl = false ∧ o.b.vs.length = 0
      · have hbe : batE o.b = 0 := by unfold batE; rw [if_pos hz]
        have hbs : batS sk o.b = wB sk [] := by unfold batS; rw [if_pos hz]
        have KO := batch_none o.b o.a o.c (unhide QB) hz.1 hz.2 (by omega)
        rw [← hbs] at KO
        have HKO := hide KO
        have E4 : Hid (errs (os.drop (kk + 1)) = E) := hide (by
          have := unhide EE
          rw [unhide HD] at this
          simp only [errs, hbe] at this
          simpa using this)
        clear KO hbe hbs hz
        go_wp2_with (go_at_fn 63; refine (unhide HKO).mono ?_; rintro e w4 ⟨rfl, q4, t4⟩; have F4 := Wq.leave q4 (unhide HBA) (unhide Q).old (unhide Q).low t4; have Q4 := hide F4.1; have T4 := hide ((unhide T).trans F4.2); clear q4 t4 F4)
        go_roundg (n - (kk + 1))
        case measure => omega
        case rel => exact ⟨kk + 1, stepBa sk o, by omega, by omega, by go_num, Q4, T4, hide (by rw [← unhide F, unhide HD]; rfl), hide (by omega), E4⟩
      · by_cases hq : chk o.b = 0
        · have hbe : batE o.b = 0 := by unfold batE; rw [if_neg hz, hq]; rfl
          have hbs : batS sk o.b = wB sk (encB o.b) := by unfold batS; rw [if_neg hz]
          have KO := batch_ok o.a o.c (unhide QB) hz (unhide HO).1 (unhide HO).2 hq rfl (by omega)
          rw [← hbs] at KO
          have HKO := hide KO
          have E4 : Hid (errs (os.drop (kk + 1)) = E) := hide (by
            have := unhide EE
            rw [unhide HD] at this
            simp only [errs, hbe] at this
            simpa using this)
          clear KO hbe hbs hz hq
          go_wp2_with (go_at_fn 63; refine (unhide HKO).mono ?_; rintro e w4 ⟨rfl, q4, t4⟩; have F4 := Wq.leave q4 (unhide HBA) (unhide Q).old (unhide Q).low t4; have Q4 := hide F4.1; have T4 := hide ((unhide T).trans F4.2); clear q4 t4 F4)
          go_roundg (n - (kk + 1))
          case measure => omega
          case rel => exact ⟨kk + 1, stepBa sk o, by omega, by omega, by go_num, Q4, T4, hide (by rw [← unhide F, unhide HD]; rfl), hide (by omega), E4⟩
        · have hbe : batE o.b = (chk o.b : Int) := by unfold batE; rw [if_neg hz]
          have hEE : Hid (E = (chk o.b : Int)) := hide (by
            have := unhide EE
            rw [unhide HD] at this
            have h9 : (chk o.b : Int) ≠ 0 := by omega
            simp only [errs, hbe] at this
            rw [if_pos h9] at this
            exact this.symm)
          have HKO := hide (batch_no (E := chk o.b) o.a o.c (unhide QB) hz (unhide HO).1 (unhide HO).2 hq rfl (by omega))
          have HQ : Hid (E ≠ 0) := hide (by rw [unhide hEE]; omega)
          rw [← unhide hEE] at HKO
          clear hbe hz hq hEE
          go_wp2_with (go_at_fn 63; refine (unhide HKO).mono ?_; rintro e w4 ⟨rfl, t4⟩; have T4 := hide (Off.leave (unhide HB0) ((unhide T).trans (Off.leave (unhide HBA) t4))); clear t4)
          exact ⟨rfl, unhide T4, fun h => absurd h (unhide HQ), fun _ => rfl⟩
    · have hltz : ¬ (kk : Int) < (n : Int) := by omega
      have e : kk = n := by omega
      have hd : os.drop kk = [] := by rw [e, ← unhide HNN, List.drop_length]
      have F2 := unhide F
      rw [hd] at F2
      simp only [List.foldl_nil] at F2
      subst F2
      have E2 := unhide EE
      rw [hd] at E2
      simp only [errs] at E2
      have HE2 := hide E2
      clear E2
      have FF := hide (Wq.leave (unhide Q) (unhide HB0) (unhide HN) (unhide HL) (unhide T))
      clear e hd
      go_wp2
      go_returns
      exact ⟨(unhide FF).2, fun _ => ⟨rfl, (unhide FF).1⟩, fun h => absurd (unhide HE2).symm h⟩
def cellsAb (o : Ab) : List Value := [.int .u64 (o.p : Int), .int .i64 o.f, .int .i64 o.l]
def stepAb (s : Ws) (o : Ab) : Ws := layA s o.p o.f o.l
theorem stepAb_len {w : World} (s : Ws) {o : Ab} (h : AbIn w o) : (stepAb s o).1.length ≤ s.1.length + 4116 := by
  unfold stepAb
  have := layA_len s h.1 h.2.1 h.2.2
  omega
theorem RowsAt.atAb {w W : World} {a : Option Addr} {os : List Ab} (h : RowsAt cellsAb 3 w a os) (hb : Below w.heap.size w W) {k : Nat} (hk : k < os.length) {o : Ab} (ho : os[k] = o) : ∃ b off, a = some ⟨b, off, none⟩ ∧ W.cell? ⟨b, off + k * 3, none⟩ = some (.int .u64 (o.p : Int)) ∧ W.cell? ⟨b, off + k * 3 + 1, none⟩ = some (.int .i64 o.f) ∧ W.cell? ⟨b, off + k * 3 + 2, none⟩ = some (.int .i64 o.l) := by
  obtain ⟨b, off, e1, e2, e3⟩ := h k hk
  rw [ho] at e3
  refine ⟨b, off, e1, ?_, ?_, ?_⟩
  · exact (hb.cell (p := ⟨b, off + k * 3 + 0, none⟩) e2).trans (e3 0 (by omega))
  · exact (hb.cell (p := ⟨b, off + k * 3 + 1, none⟩) e2).trans (e3 1 (by omega))
  · exact (hb.cell (p := ⟨b, off + k * 3 + 2, none⟩) e2).trans (e3 2 (by omega))
set_option maxHeartbeats 8000000 in
theorem layAb_long {os : List Ab} {ao : Option Addr} {cap : Nat} (h : Wq w0 N w b s) (hr : RowsAt cellsAb 3 w0 ao os) (hin : ∀ o ∈ os, AbIn w0 o) (hm : os.length ≤ 140737488355328) (hc : cntE os.length ≠ 0) (hl : s.1.length ≤ 8796093022208) :
    Calls Try.prog 68 #[.agg #[.pointer (some ⟨b, 0, none⟩)], .slice ao os.length cap, .func (.func 69) #[.agg #[.pointer (some ⟨b, 0, none⟩)]] #[]] w fun e w' => e = gone 2 ∧ Touch (Off N) w w' := by
  have hb0 := (Below.refl w.heap.size w).alloc (Nat.le_refl _) (.cells #[.pointer (some ⟨b, 0, none⟩)] 77)
  have Q0 := hide (h.grow hb0)
  have HX := hide (heap_new w (.cells #[.pointer (some ⟨b, 0, none⟩)] 77))
  have HN := hide h.old
  have HL := hide h.low
  have HB0 := hide hb0
  have HU := hide (conv_len os.length hm)
  have HC := hide hc
  have KC := hide (needCount_no (w.alloc (.cells #[.pointer (some ⟨b, 0, none⟩)] 77)) hc)
  have TT : Hid (Touch (Off N) w (w.alloc (.cells #[.pointer (some ⟨b, 0, none⟩)] 77))) := hide (Touch.of_below hb0)
  clear h hr hin hb0 hc
  generalize os.length = n at *
  have hu := unhide HU
  go_enter Try.func68, Try.ntmps68
  go_wp2_with (go_at_call 66; refine (unhide KC).mono ?_; rintro e w1 ⟨rfl, rfl⟩)
  exact ⟨rfl, rfl, unhide TT⟩
set_option maxHeartbeats 8000000 in
theorem layAb_any {os : List Ab} {ao : Option Addr} {cap : Nat} (h : Wq w0 N w b s) (hr : RowsAt cellsAb 3 w0 ao os) (hin : ∀ o ∈ os, AbIn w0 o) (hm : os.length ≤ 140737488355328) (hc : cntE os.length = 0) {S' : Ws} (hS : os.foldl stepAb (wX s (enc os.length)) = S') (hl : s.1.length ≤ 8796093022208) :
    Calls Try.prog 68 #[.agg #[.pointer (some ⟨b, 0, none⟩)], .slice ao os.length cap, .func (.func 69) #[.agg #[.pointer (some ⟨b, 0, none⟩)]] #[]] w fun e w' => WD w0 N w b S' e w' := by
  have hb0 := (Below.refl w.heap.size w).alloc (Nat.le_refl _) (.cells #[.pointer (some ⟨b, 0, none⟩)] 77)
  have Q0 := hide (h.grow hb0)
  have HX := hide (heap_new w (.cells #[.pointer (some ⟨b, 0, none⟩)] 77))
  have HN := hide h.old
  have HL := hide h.low
  have HB0 := hide hb0
  have HU := hide (conv_len os.length hm)
  have HC := hide hc
  have KC := hide (needCount_ok (w.alloc (.cells #[.pointer (some ⟨b, 0, none⟩)] 77)) hc)
  have h5 : os.length ≤ 512 := by
    unfold cntE at hc
    split at hc
    · cases hc
    · omega
  have hx1 := wX_len s (enc os.length)
  have hx2 := enc_len10 (n := os.length) (by omega)
  have HR := hide hr
  have HIN := hide hin
  have HS := hide hS
  have eg : ∀ args w, (callFunc 69 args).run Try.prog w = .ok (.enter 69 args) w := enters_of Try.func69 rfl rfl
  clear h hr hin hb0 hc hS
  generalize hn : os.length = n at *
  have HNN := hide hn
  clear hn
  have hu := unhide HU
  have z0 : (w.alloc (.cells #[.pointer (some ⟨b, 0, none⟩)] 77)).cell? ⟨w.heap.size, 0, none⟩ = some (.pointer (some ⟨b, 0, none⟩)) := cell_of (unhide HX) 0
  go_enter Try.func68, Try.ntmps68
  go_upto_region 1 with fail
  generalize w.alloc (.cells #[.pointer (some ⟨b, 0, none⟩)] 77) = W1 at *
  go_wp2_with fail
  refine (unhide KC).mono ?_
  rintro e wq ⟨rfl, rfl⟩
  go_wp2_with fail
  refine (uint_q n (unhide Q0) (by omega) (by omega)).mono ?_
  rintro e w2 ⟨rfl, q2, t2⟩
  have Q2 := hide q2
  have T2 := hide t2
  clear q2 t2 z0
  go_wp2
  go_loopg [7, 20] n (fun gg _ s20 wr => ∃ (kk : Nat) (sk : Ws), kk ≤ n ∧ n - kk ≤ gg ∧ s20 = .int .i64 kk ∧ Hid (Wq w0 (Gr N w wq) wr b sk) ∧ Hid (Touch (Off (Gr N w wq)) wq wr) ∧ Hid ((os.drop kk).foldl stepAb sk = S') ∧ Hid (sk.1.length ≤ s.1.length + 10 + kk * 4116))
  case atStart => exact ⟨0, wX s (enc n), Nat.zero_le _, by omega, rfl, Q2, T2, by simpa using HS, hide (by omega)⟩
  case round =>
    obtain ⟨kk, sk, hkk, hg, rfl, Q, T, F, L⟩ := hrel
    by_cases hlt : kk < n
    · have hltz : (kk : Int) < (n : Int) := by omega
      have hk' : kk < os.length := by rw [unhide HNN]; exact hlt
      obtain ⟨o, ho⟩ : ∃ o, os[kk] = o := ⟨_, rfl⟩
      have HO := hide (unhide HIN o (by rw [← ho]; exact List.getElem_mem hk'))
      obtain ⟨cb, off, ea, y0, y1, y2⟩ := RowsAt.atAb (unhide HR) (unhide Q).base hk' ho
      subst ea
      have HD : Hid (os.drop kk = o :: os.drop (kk + 1)) := hide (by rw [List.drop_eq_getElem_cons hk', ho])
      have hL := unhide L
      have hlen := stepAb_len sk (unhide HO)
      have bA := (Below.refl wr.heap.size wr).alloc (Nat.le_refl _) (.cells #[.int .u64 (o.p : Int), .int .i64 o.f, .int .i64 o.l] 73)
      have QB := hide ((unhide Q).grow bA)
      have HBX := hide (heap_new wr (.cells #[.int .u64 (o.p : Int), .int .i64 o.f, .int .i64 o.l] 73))
      have HBA := hide bA
      clear hk' ho bA
      go_upto_region 6 with fail
      generalize wr.alloc (.cells #[.int .u64 (o.p : Int), .int .i64 o.f, .int .i64 o.l] 73) = wb at *
      clear y0 y1 y2
      have g0 := cell_of (unhide HBX) 0
      have g1 := cell_of (unhide HBX) 1
      have g2 := cell_of (unhide HBX) 2
      simp at g0 g1 g2
      have KO := hide (abort_q o.p o.f o.l (unhide QB) (unhide HO).1 (unhide HO).2.1 (unhide HO).2.2 (by omega))
      go_wp2_with (go_at_fn 69; refine (unhide KO).mono ?_; rintro e w4 ⟨rfl, q4, t4⟩; have F4 := Wq.leave q4 (unhide HBA) (unhide Q).old (unhide Q).low t4; have Q4 := hide F4.1; have T4 := hide ((unhide T).trans F4.2); clear q4 t4 F4)
      go_roundg (n - (kk + 1))
      case measure => omega
      case rel => exact ⟨kk + 1, stepAb sk o, by omega, by omega, by go_num, Q4, T4, hide (by rw [← unhide F, unhide HD]; rfl), hide (by omega)⟩
    · have hltz : ¬ (kk : Int) < (n : Int) := by omega
      have e : kk = n := by omega
      have hd : os.drop kk = [] := by rw [e, ← unhide HNN, List.drop_length]
      have F2 := unhide F
      rw [hd] at F2
      simp only [List.foldl_nil] at F2
      subst F2
      have FF := hide (Wq.leave (unhide Q) (unhide HB0) (unhide HN) (unhide HL) (unhide T))
      clear e hd
      go_wp2
      go_returns
      exact ⟨rfl, unhide FF⟩
end
end Go.Proofs.Ytblmondkdcpkaaa
