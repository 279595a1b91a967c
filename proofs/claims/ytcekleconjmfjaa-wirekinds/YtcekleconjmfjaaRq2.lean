/-
  wire's reader: a batch without bytes; lists of none. Conditions: the reader as it lies.
-/
import Derived.Test.YtcekleconjmfjaaRq0
import Derived.Test.YtcekleconjmfjaaSet9
namespace Go.Proofs.Ytcekleconjmfjaa
open Go.RowKit
set_option linter.unusedVariables false

section
variable {w : World} {b : Nat} {a : Option Addr} {cap : Nat} {t : List Nat} {s s' : Rst}
/-- What a reading call leaves. -/
def RdP (w : World) (b : Nat) (a : Option Addr) (cap : Nat) (t : List Nat) (s' : Rst) (v : Value) (e : Ending) (w' : World) : Prop :=
  e = .returned v ∧ RdAt 97 w' b a cap t s' ∧ Touch (fun q => q = b ∨ w.heap.size ≤ q) w w'
theorem rd_low {k : Nat} (h : RdAt 97 w b a cap t s) (hk : w.heap.size ≤ k) : 0 < t.length → ∀ x, a = some x → x.block ≠ k := fun h0 x hx e => by
  obtain ⟨b', o', e', hb', _⟩ := h.text 0 h0
  rw [hx] at e'
  cases e'
  simp only at e
  omega
abbrev zB : Array Value := #[.int .i64 0, .int .i64 0, .int .u64 0, .int .i64 0, .int .i64 0, .bool false, .bool false, .bool false, .slice none 0 0]
set_option maxRecDepth 100000 in
theorem info_zB : (Try.prog.info? 38).map (·.size) = some zB.size := by kernel_rfl
theorem one_zB : zB.all (·.oneCell') = true := by simp [Value.oneCell']
set_option maxHeartbeats 4000000 in
theorem batch_r0 (h : RdAt 97 w b a cap t s) (e0 : rB t s = ([], s')) :
    Calls Try.prog 76 #[.agg #[.pointer (some ⟨b, 0, none⟩)]] w fun e w' => RdP w b a cap t s' (.agg zB) e w' := by
  have hb0 := ((Below.refl w.heap.size w).alloc (Nat.le_refl _) (.cells #[.pointer (some ⟨b, 0, none⟩)] 84)).alloc (by simp) (.cells zB 38)
  have hbl := h.lt
  have HX := hide (heap_old (.cells zB 38) (heap_new w (.cells #[.pointer (some ⟨b, 0, none⟩)] 84)))
  have HZ := hide (heap_new (w.alloc (.cells #[.pointer (some ⟨b, 0, none⟩)] 84)) (.cells zB 38))
  have hsz : (w.alloc (.cells #[.pointer (some ⟨b, 0, none⟩)] 84)).heap.size = w.heap.size + 1 := by simp
  rw [hsz] at HZ
  have K := rbytes_any _ (h.later hb0)
  rw [e0] at K
  have HK := hide K
  have HB0 := hide hb0
  have HL := hide (rd_low h (k := w.heap.size + 1) (by omega))
  clear h hb0 hsz K e0
  go_enter Try.func76, Try.ntmps76
  go_upto_region 1 with fail
  generalize (w.alloc (.cells #[.pointer (some ⟨b, 0, none⟩)] 84)).alloc (.cells zB 38) = W1 at *
  have z0 := cell_of (unhide HX) 0
  simp at z0
  go_wp2_with fail
  refine (unhide HK).mono ?_
  rintro e w2 ⟨v, rfl, r2, n2, rd2, t2⟩
  obtain ⟨va, vc, ev, _⟩ := r2.parts
  simp only [List.length_nil] at ev
  subst ev
  have Z2 := hide (t2.keep (unhide HZ) (by omega))
  have R2 := hide rd2
  have T2 : Hid (Touch (fun q => q = b ∨ w.heap.size ≤ q) w w2) := hide ((Touch.of_below (unhide HB0)).trans (t2.mono (fun q hq => .inl hq)))
  clear r2 n2 rd2 t2 z0
  have y0 := cell_of (unhide Z2) 0
  have y1 := cell_of (unhide Z2) 1
  have y2 := cell_of (unhide Z2) 2
  have y3 := cell_of (unhide Z2) 3
  have y4 := cell_of (unhide Z2) 4
  have y5 := cell_of (unhide Z2) 5
  have y6 := cell_of (unhide Z2) 6
  have y7 := cell_of (unhide Z2) 7
  have y8 := cell_of (unhide Z2) 8
  have yf := fun j => frozen_of (unhide Z2) j
  simp at y0 y1 y2 y3 y4 y5 y6 y7 y8
  go_wp2
  obtain ⟨S1, S2⟩ := set9 (unhide Z2) rfl (.int .i64 0) (.int .i64 0) (.int .u64 0) (.int .i64 0) (.int .i64 0) (.bool false) (.bool false) (.bool false) (.slice none 0 0)
  generalize (((((((((w2.setCell ⟨w.heap.size + 1, 0, none⟩ (.int .i64 0)).setCell ⟨w.heap.size + 1, 1, none⟩ (.int .i64 0)).setCell ⟨w.heap.size + 1, 2, none⟩ (.int .u64 0)).setCell ⟨w.heap.size + 1, 3, none⟩ (.int .i64 0)).setCell ⟨w.heap.size + 1, 4, none⟩ (.int .i64 0)).setCell ⟨w.heap.size + 1, 5, none⟩ (.bool false)).setCell ⟨w.heap.size + 1, 6, none⟩ (.bool false)).setCell ⟨w.heap.size + 1, 7, none⟩ (.bool false)).setCell ⟨w.heap.size + 1, 8, none⟩ (.slice none 0 0)) = Y at *
  have p0 := cell_of S1 0
  have p1 := cell_of S1 1
  have p2 := cell_of S1 2
  have p3 := cell_of S1 3
  have p4 := cell_of S1 4
  have p5 := cell_of S1 5
  have p6 := cell_of S1 6
  have p7 := cell_of S1 7
  have p8 := cell_of S1 8
  simp at p0 p1 p2 p3 p4 p5 p6 p7 p8
  refine bodyPost_ret (by simp [results, Try.results76, go_sem, p0, p1, p2, p3, p4, p5, p6, p7, p8]; try rfl) rfl ?_
  exact ⟨rfl, (unhide R2).keep S2 (by omega) (fun h0 x hx e => unhide HL h0 x hx e), (unhide T2).trans (S2.mono (fun q hq => .inr (by omega)))⟩
set_option maxHeartbeats 4000000 in
theorem takeBa0 (h : RdAt 97 w b a cap t s) (e0 : rU t s = (0, s')) :
    Calls Try.prog 75 #[.agg #[.pointer (some ⟨b, 0, none⟩)], .func (.func 76) #[.agg #[.pointer (some ⟨b, 0, none⟩)]] #[]] w fun e w' => RdP w b a cap t s' (.slice none 0 0) e w' := by
  have hb0 := (Below.refl w.heap.size w).alloc (Nat.le_refl _) (.cells #[.pointer (some ⟨b, 0, none⟩)] 84)
  have HX := hide (heap_new w (.cells #[.pointer (some ⟨b, 0, none⟩)] 84))
  have K := ruint_any _ (h.later hb0)
  rw [e0] at K
  have HK := hide K
  have HB0 := hide hb0
  clear h hb0 K e0
  go_enter Try.func75, Try.ntmps75
  go_upto_region 1 with fail
  generalize w.alloc (.cells #[.pointer (some ⟨b, 0, none⟩)] 84) = W1 at *
  have z0 := cell_of (unhide HX) 0
  simp at z0
  go_wp2_with fail
  refine (unhide HK).mono ?_
  rintro e w2 ⟨rfl, rd2, t2⟩
  have R2 := hide rd2
  have T2 : Hid (Touch (fun q => q = b ∨ w.heap.size ≤ q) w w2) := hide ((Touch.of_below (unhide HB0)).trans (t2.mono (fun q hq => .inl hq)))
  clear rd2 t2 z0
  simp only
  go_wp2_with fail
  refine (needCount_ok (n := 0) w2 (by decide)).mono ?_
  rintro e w3 ⟨rfl, rfl⟩
  go_wp2
  go_loopg [6, 14] 0 (fun gg s6 s14 wr => s6 = .slice none 0 0 ∧ s14 = .int .i64 0 ∧ wr = w3)
  case atStart => exact ⟨rfl, rfl, rfl⟩
  case round =>
    obtain ⟨rfl, rfl, rfl⟩ := hrel
    go_wp2
    go_returns
    exact ⟨rfl, unhide R2, unhide T2⟩
set_option maxHeartbeats 4000000 in
theorem takeAb0 (h : RdAt 97 w b a cap t s) (e0 : rU t s = (0, s')) :
    Calls Try.prog 80 #[.agg #[.pointer (some ⟨b, 0, none⟩)], .func (.func 81) #[.agg #[.pointer (some ⟨b, 0, none⟩)]] #[]] w fun e w' => RdP w b a cap t s' (.slice none 0 0) e w' := by
  have hb0 := (Below.refl w.heap.size w).alloc (Nat.le_refl _) (.cells #[.pointer (some ⟨b, 0, none⟩)] 84)
  have HX := hide (heap_new w (.cells #[.pointer (some ⟨b, 0, none⟩)] 84))
  have K := ruint_any _ (h.later hb0)
  rw [e0] at K
  have HK := hide K
  have HB0 := hide hb0
  clear h hb0 K e0
  go_enter Try.func80, Try.ntmps80
  go_upto_region 1 with fail
  generalize w.alloc (.cells #[.pointer (some ⟨b, 0, none⟩)] 84) = W1 at *
  have z0 := cell_of (unhide HX) 0
  simp at z0
  go_wp2_with fail
  refine (unhide HK).mono ?_
  rintro e w2 ⟨rfl, rd2, t2⟩
  have R2 := hide rd2
  have T2 : Hid (Touch (fun q => q = b ∨ w.heap.size ≤ q) w w2) := hide ((Touch.of_below (unhide HB0)).trans (t2.mono (fun q hq => .inl hq)))
  clear rd2 t2 z0
  simp only
  go_wp2_with fail
  refine (needCount_ok (n := 0) w2 (by decide)).mono ?_
  rintro e w3 ⟨rfl, rfl⟩
  go_wp2
  go_loopg [6, 14] 0 (fun gg s6 s14 wr => s6 = .slice none 0 0 ∧ s14 = .int .i64 0 ∧ wr = w3)
  case atStart => exact ⟨rfl, rfl, rfl⟩
  case round =>
    obtain ⟨rfl, rfl, rfl⟩ := hrel
    go_wp2
    go_returns
    exact ⟨rfl, unhide R2, unhide T2⟩
end
end Go.Proofs.Ytcekleconjmfjaa
