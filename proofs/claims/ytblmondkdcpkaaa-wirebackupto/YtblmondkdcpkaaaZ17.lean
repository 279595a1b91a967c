/-
  wire's reader: others, where the lists are of none and the batch has no bytes. Conditions: the reader and the message as they lie.
-/
import Derived.Test.YtblmondkdcpkaaaZ15

/-
  wire's reader: a batch without bytes; lists of none. Conditions: the reader as it lies.
-/
namespace Go.Proofs.Ytblmondkdcpkaaa
open Go.RowKit
set_option linter.unusedVariables false

section
variable {w : World} {b : Nat} {a : Option Addr} {cap : Nat} {t : List Nat} {s s' : Rst}
/-- What a reading call leaves. -/
def RdP (w : World) (b : Nat) (a : Option Addr) (cap : Nat) (t : List Nat) (s' : Rst) (v : Value) (e : Ending) (w' : World) : Prop :=
  e = .returned v ∧ RdAt 97 w' b a cap t s' ∧ Touch (fun q => q = b ∨ w.heap.size ≤ q) w w'
theorem rd_low {k : Nat} (h : RdAt 97 w b a cap t s) (hk : w.heap.size ≤ k) : 0 < t.length → ∀ x, a = some x → x.block ≠ k := fun h0 x hx e => by
  obtain ⟨b', o', e', hb', _⟩ := h.text 0 h0
  rw [hx] at e'
  cases e'
  simp only at e
  omega
abbrev zB : Array Value := #[.int .i64 0, .int .i64 0, .int .u64 0, .int .i64 0, .int .i64 0, .bool false, .bool false, .bool false, .slice none 0 0]
set_option maxRecDepth 100000 in
theorem info_zB : (Try.prog.info? 38).map (·.size) = some zB.size := by kernel_rfl
theorem one_zB : zB.all (·.oneCell') = true := by simp [Value.oneCell']
set_option maxHeartbeats 4000000 in
theorem batch_r0 (h : RdAt 97 w b a cap t s) (e0 : rB t s = ([], s')) :
    Calls Try.prog 76 #[.agg #[.pointer (some ⟨b, 0, none⟩)]] w fun e w' => RdP w b a cap t s' (.agg zB) e w' := by
  have hb0 := ((Below.refl w.heap.size w).alloc (Nat.le_refl _) (.cells #[.pointer (some ⟨b, 0, none⟩)] 84)).alloc (by simp) (.cells zB 38)
  have hbl := h.lt
  have HX := hide (heap_old (.cells zB 38) (heap_new w (.cells #[.pointer (some ⟨b, 0, none⟩)] 84)))
  have HZ := hide (heap_new (w.alloc (.cells #[.pointer (some ⟨b, 0, none⟩)] 84)) (.cells zB 38))
  have hsz : (w.alloc (.cells #[.pointer (some ⟨b, 0, none⟩)] 84)).heap.size = w.heap.size + 1 := by simp
  rw [hsz] at HZ
  have K := rbytes_any _ (h.later hb0)
  rw [e0] at K
  have HK := hide K
  have HB0 := hide hb0
  have HL := hide (rd_low h (k := w.heap.size + 1) (by omega))
  clear h hb0 hsz K e0
  go_enter Try.func76, Try.ntmps76
  go_upto_region 1 with fail
  generalize (w.alloc (.cells #[.pointer (some ⟨b, 0, none⟩)] 84)).alloc (.cells zB 38) = W1 at *
  have z0 := cell_of (unhide HX) 0
  simp at z0
  go_wp2_with fail
  refine (unhide HK).mono ?_
  rintro e w2 ⟨v, rfl, r2, n2, rd2, t2⟩
  obtain ⟨va, vc, ev, _⟩ := r2.parts
  simp only [List.length_nil] at ev
  subst ev
  have Z2 := hide (t2.keep (unhide HZ) (by omega))
  have R2 := hide rd2
  have T2 : Hid (Touch (fun q => q = b ∨ w.heap.size ≤ q) w w2) := hide ((Touch.of_below (unhide HB0)).trans (t2.mono (fun q hq => .inl hq)))
  clear r2 n2 rd2 t2 z0
  have y0 := cell_of (unhide Z2) 0
  have y1 := cell_of (unhide Z2) 1
  have y2 := cell_of (unhide Z2) 2
  have y3 := cell_of (unhide Z2) 3
  have y4 := cell_of (unhide Z2) 4
  have y5 := cell_of (unhide Z2) 5
  have y6 := cell_of (unhide Z2) 6
  have y7 := cell_of (unhide Z2) 7
  have y8 := cell_of (unhide Z2) 8
  have yf := fun j => frozen_of (unhide Z2) j
  simp at y0 y1 y2 y3 y4 y5 y6 y7 y8
  go_wp2
  obtain ⟨S1, S2⟩ := set9 (unhide Z2) rfl (.int .i64 0) (.int .i64 0) (.int .u64 0) (.int .i64 0) (.int .i64 0) (.bool false) (.bool false) (.bool false) (.slice none 0 0)
  generalize (((((((((w2.setCell ⟨w.heap.size + 1, 0, none⟩ (.int .i64 0)).setCell ⟨w.heap.size + 1, 1, none⟩ (.int .i64 0)).setCell ⟨w.heap.size + 1, 2, none⟩ (.int .u64 0)).setCell ⟨w.heap.size + 1, 3, none⟩ (.int .i64 0)).setCell ⟨w.heap.size + 1, 4, none⟩ (.int .i64 0)).setCell ⟨w.heap.size + 1, 5, none⟩ (.bool false)).setCell ⟨w.heap.size + 1, 6, none⟩ (.bool false)).setCell ⟨w.heap.size + 1, 7, none⟩ (.bool false)).setCell ⟨w.heap.size + 1, 8, none⟩ (.slice none 0 0)) = Y at *
  have p0 := cell_of S1 0
  have p1 := cell_of S1 1
  have p2 := cell_of S1 2
  have p3 := cell_of S1 3
  have p4 := cell_of S1 4
  have p5 := cell_of S1 5
  have p6 := cell_of S1 6
  have p7 := cell_of S1 7
  have p8 := cell_of S1 8
  simp at p0 p1 p2 p3 p4 p5 p6 p7 p8
  refine bodyPost_ret (by simp [results, Try.results76, go_sem, p0, p1, p2, p3, p4, p5, p6, p7, p8]; try rfl) rfl ?_
  exact ⟨rfl, (unhide R2).keep S2 (by omega) (fun h0 x hx e => unhide HL h0 x hx e), (unhide T2).trans (S2.mono (fun q hq => .inr (by omega)))⟩
set_option maxHeartbeats 4000000 in
theorem takeBa0 (h : RdAt 97 w b a cap t s) (e0 : rU t s = (0, s')) :
    Calls Try.prog 75 #[.agg #[.pointer (some ⟨b, 0, none⟩)], .func (.func 76) #[.agg #[.pointer (some ⟨b, 0, none⟩)]] #[]] w fun e w' => RdP w b a cap t s' (.slice none 0 0) e w' := by
  have hb0 := (Below.refl w.heap.size w).alloc (Nat.le_refl _) (.cells #[.pointer (some ⟨b, 0, none⟩)] 84)
  have HX := hide (heap_new w (.cells #[.pointer (some ⟨b, 0, none⟩)] 84))
  have K := ruint_any _ (h.later hb0)
  rw [e0] at K
  have HK := hide K
  have HB0 := hide hb0
  clear h hb0 K e0
  go_enter Try.func75, Try.ntmps75
  go_upto_region 1 with fail
  generalize w.alloc (.cells #[.pointer (some ⟨b, 0, none⟩)] 84) = W1 at *
  have z0 := cell_of (unhide HX) 0
  simp at z0
  go_wp2_with fail
  refine (unhide HK).mono ?_
  rintro e w2 ⟨rfl, rd2, t2⟩
  have R2 := hide rd2
  have T2 : Hid (Touch (fun q => q = b ∨ w.heap.size ≤ q) w w2) := hide ((Touch.of_below (unhide HB0)).trans (t2.mono (fun q hq => .inl hq)))
  clear rd2 t2 z0
  simp only
  go_wp2_with fail
  refine (needCount_ok (n := 0) w2 (by decide)).mono ?_
  rintro e w3 ⟨rfl, rfl⟩
  go_wp2
  go_loopg [6, 14] 0 (fun gg s6 s14 wr => s6 = .slice none 0 0 ∧ s14 = .int .i64 0 ∧ wr = w3)
  case atStart => exact ⟨rfl, rfl, rfl⟩
  case round =>
    obtain ⟨rfl, rfl, rfl⟩ := hrel
    go_wp2
    go_returns
    exact ⟨rfl, unhide R2, unhide T2⟩
set_option maxHeartbeats 4000000 in
theorem takeAb0 (h : RdAt 97 w b a cap t s) (e0 : rU t s = (0, s')) :
    Calls Try.prog 80 #[.agg #[.pointer (some ⟨b, 0, none⟩)], .func (.func 81) #[.agg #[.pointer (some ⟨b, 0, none⟩)]] #[]] w fun e w' => RdP w b a cap t s' (.slice none 0 0) e w' := by
  have hb0 := (Below.refl w.heap.size w).alloc (Nat.le_refl _) (.cells #[.pointer (some ⟨b, 0, none⟩)] 84)
  have HX := hide (heap_new w (.cells #[.pointer (some ⟨b, 0, none⟩)] 84))
  have K := ruint_any _ (h.later hb0)
  rw [e0] at K
  have HK := hide K
  have HB0 := hide hb0
  clear h hb0 K e0
  go_enter Try.func80, Try.ntmps80
  go_upto_region 1 with fail
  generalize w.alloc (.cells #[.pointer (some ⟨b, 0, none⟩)] 84) = W1 at *
  have z0 := cell_of (unhide HX) 0
  simp at z0
  go_wp2_with fail
  refine (unhide HK).mono ?_
  rintro e w2 ⟨rfl, rd2, t2⟩
  have R2 := hide rd2
  have T2 : Hid (Touch (fun q => q = b ∨ w.heap.size ≤ q) w w2) := hide ((Touch.of_below (unhide HB0)).trans (t2.mono (fun q hq => .inl hq)))
  clear rd2 t2 z0
  simp only
  go_wp2_with fail
  refine (needCount_ok (n := 0) w2 (by decide)).mono ?_
  rintro e w3 ⟨rfl, rfl⟩
  go_wp2
  go_loopg [6, 14] 0 (fun gg s6 s14 wr => s6 = .slice none 0 0 ∧ s14 = .int .i64 0 ∧ wr = w3)
  case atStart => exact ⟨rfl, rfl, rfl⟩
  case round =>
    obtain ⟨rfl, rfl, rfl⟩ := hrel
    go_wp2
    go_returns
    exact ⟨rfl, unhide R2, unhide T2⟩
end
end Go.Proofs.Ytblmondkdcpkaaa


namespace Go.Proofs.Ytblmondkdcpkaaa
open Go.RowKit
set_option linter.unusedVariables false

/-- A reader in its box, and a message that is being read. -/
structure Ro (w0 w : World) (b rb mb : Nat) (a : Option Addr) (cap : Nat) (t : List Nat) (s : Rst) (m : Mg) : Prop where
  rd : RdAt 97 w b a cap t s
  bx : w.heap[rb]? = some (.cells #[.pointer (some ⟨b, 0, none⟩)] 84)
  ms : w.heap[mb]? = some (.cells (mgL m).toArray 41)
  tc : Touch (fun q => q = b ∨ q = mb ∨ w0.heap.size ≤ q) w0 w
section
variable {w0 w w1 : World} {b rb mb : Nat} {a : Option Addr} {cap : Nat} {t : List Nat} {s s' : Rst} {m m' : Mg}
theorem Ro.call (h : Ro w0 w b rb mb a cap t s m) (h1 : rb ≠ b) (h2 : mb ≠ b) (r : RdAt 97 w1 b a cap t s') (tc : Touch (fun q => q = b ∨ w.heap.size ≤ q) w w1) : Ro w0 w1 b rb mb a cap t s' m := by
  have l1 := lt_of_heap h.bx
  have l2 := lt_of_heap h.ms
  have l3 := h.tc.size
  exact ⟨r, tc.keep h.bx (by omega), tc.keep h.ms (by omega), h.tc.trans (tc.mono (fun q hq => by rcases hq with e | e; exact .inl e; exact .inr (.inr (by omega))))⟩
theorem Ro.put (h : Ro w0 w b rb mb a cap t s m) (h1 : rb ≠ mb) (h2 : mb ≠ b) (hA : 0 < t.length → ∀ x, a = some x → x.block ≠ mb) (o : Nat) (v : Value) (e : (mgL m').toArray = (mgL m).toArray.setIfInBounds o v) : Ro w0 (w.setCell ⟨mb, o, none⟩ v) b rb mb a cap t s m' := by
  have tc := touch_set w mb o v
  have hs := heap_set h.ms o v
  rw [← e] at hs
  exact ⟨h.rd.keep tc (fun e => h2 e.symm) (fun h0 x hx e => hA h0 x hx e), tc.keep h.bx h1, hs, h.tc.trans (tc.mono (fun q hq => .inr (.inl hq)))⟩
theorem Ro.puts (h : Ro w0 w b rb mb a cap t s m) (h1 : rb ≠ mb) (h2 : mb ≠ b) (hA : 0 < t.length → ∀ x, a = some x → x.block ≠ mb) (o : Nat) (vs : List Value) (e : (mgL m').toArray = lay (mgL m).toArray o vs) : Ro w0 (w.setCells mb o vs) b rb mb a cap t s m' := by
  obtain ⟨hs, tc⟩ := heap_setCells vs o w _ h.ms
  rw [← e] at hs
  exact ⟨h.rd.keep tc (fun e => h2 e.symm) (fun h0 x hx e => hA h0 x hx e), tc.keep h.bx h1, hs, h.tc.trans (tc.mono (fun q hq => .inr (.inl hq)))⟩
theorem touch_b (t : Touch (· = b) w w1) : Touch (fun q => q = b ∨ w.heap.size ≤ q) w w1 := t.mono (fun q hq => .inl hq)
theorem mg_same {M : Mg} (va : Option Addr) (vc : Nat) (h : M.B = ⟨0, 0, 0, 0, 0, false, false, false, []⟩ ∧ (M.ba = none ∧ M.bc = 0) ∧ M.ms = [] ∧ (M.bs = [] ∧ M.bsa = none ∧ M.bsc = 0) ∧ (M.ab = [] ∧ M.aa = none ∧ M.ac = 0)) :
    ({ M with ma := va, ms := [], mc := vc, B := ⟨0, 0, 0, 0, 0, false, false, false, []⟩, ba := none, bc := 0, bs := [], bsa := none, bsc := 0, ab := [], aa := none, ac := 0 } : Mg) = { M with ma := va, mc := vc } := by
  cases M
  simp only at h
  obtain ⟨rfl, ⟨rfl, rfl⟩, rfl, ⟨rfl, rfl, rfl⟩, ⟨rfl, rfl, rfl⟩⟩ := h
  rfl
/-- What others leaves. -/
def OtP (w : World) (b mb : Nat) (a : Option Addr) (cap : Nat) (t : List Nat) (s : Rst) (m : Mg) (e : Ending) (w' : World) : Prop :=
  e = .returned (.tuple #[]) ∧ ∃ ma mc, RdAt 97 w' b a cap t s ∧ w'.heap[mb]? = some (.cells (mgL { m with ma := ma, mc := mc }).toArray 41) ∧ Touch (fun q => q = b ∨ q = mb ∨ w.heap.size ≤ q) w w'
set_option maxRecDepth 100000 in
set_option maxHeartbeats 16000000 in
theorem others_r0 {x1 x2 x3 x4 x5 x6 x7 x8 x9 : Int} {x10 : Nat} {x11 : Bool} {s0 s1 s2 s3 s4 s5 s6 s7 s8 s9 s10 s11 s12 s13 s14 s15 : Rst} (h : RdAt 97 w b a cap t s0) (hm : w.heap[mb]? = some (.cells (mgL m).toArray 41)) (hne : mb ≠ b) (hA : 0 < t.length → ∀ x, a = some x → x.block ≠ mb) (hz : m.B = ⟨0, 0, 0, 0, 0, false, false, false, []⟩) (hzs : m.ba = none ∧ m.bc = 0) (hzm : m.ms = []) (hzb : m.bs = [] ∧ m.bsa = none ∧ m.bsc = 0) (hza : m.ab = [] ∧ m.aa = none ∧ m.ac = 0) (e1 : rI t s0 = (x1, s1)) (e2 : rI t s1 = (x2, s2)) (e3 : rI t s2 = (x3, s3)) (e4 : rI t s3 = (x4, s4)) (e5 : rI t s4 = (x5, s5)) (e6 : rI t s5 = (x6, s6)) (e7 : rI t s6 = (x7, s7)) (e8 : rI t s7 = (x8, s8)) (e9 : rI t s8 = (x9, s9)) (e10 : rU t s9 = (x10, s10)) (e11 : rF t s10 = (x11, s11)) (e12 : rL t s11 = ([], s12)) (e13 : rB t s12 = ([], s13)) (e14 : rU t s13 = (0, s14)) (e15 : rU t s14 = (0, s15)) :
    Calls Try.prog 53 #[.agg #[.pointer (some ⟨b, 0, none⟩)], .pointer (some ⟨mb, 0, none⟩)] w fun e w' => OtP w b mb a cap t s15 { m with o1 := x1, o2 := x2, o3 := x3, o4 := x4, o5 := x5, o6 := x6, o7 := x7, o8 := x8, o9 := x9, pid := x10, cm := x11 } e w' := by
  have hb0 := (Below.refl w.heap.size w).alloc (Nat.le_refl _) (.cells #[.pointer (some ⟨b, 0, none⟩)] 84)
  have hbl := h.lt
  have hml := lt_of_heap hm
  have R0 : Hid (Ro w (w.alloc (.cells #[.pointer (some ⟨b, 0, none⟩)] 84)) b w.heap.size mb a cap t s0 m) := hide ⟨h.later hb0, heap_new _ _, below_keep hb0 hm, Touch.of_below hb0⟩
  have q1 : w.heap.size ≠ b := by omega
  have hmf : ∀ (fn : Fn) (first cap : Array Value) (w : World), (Instr.makeFunc fn first cap).run Try.prog w = .ok (.func fn first cap) w := fun _ _ _ _ => rfl
  have q2 : w.heap.size ≠ mb := by omega
  have HA := hide hA
  have E1 := hide e1
  have E2 := hide e2
  have E3 := hide e3
  have E4 := hide e4
  have E5 := hide e5
  have E6 := hide e6
  have E7 := hide e7
  have E8 := hide e8
  have E9 := hide e9
  have E10 := hide e10
  have E11 := hide e11
  have E12 := hide e12
  have E13 := hide e13
  have E14 := hide e14
  have E15 := hide e15
  have HZ := hide (And.intro hz (And.intro hzs (And.intro hzm (And.intro hzb hza))))
  clear h hm hb0 hA hz hzs hzm hzb hza e1 e2 e3 e4 e5 e6 e7 e8 e9 e10 e11 e12 e13 e14 e15
  go_enter Try.func53, Try.ntmps53
  go_upto_region 1 with fail
  generalize w.alloc (.cells #[.pointer (some ⟨b, 0, none⟩)] 84) = W0 at *
  have z0 := cell_of (unhide R0).bx 0
  simp at z0
  have K := rint_any _ (unhide R0).rd
  rw [unhide E1] at K
  have HK := hide K
  clear K
  go_upto_region 2 with (go_at_call 70; refine (unhide HK).mono ?_; rintro e v1 ⟨rfl, r, t⟩; have RR := hide ((unhide R0).call q1 hne r (touch_b t)); have y : v1.cell? ⟨mb, 45, none⟩ = some (.int .i64 (m).o1) := cell_of (unhide RR).ms 45; have yf := frozen_of (unhide RR).ms 45; clear r t)
  have R1 : Hid (Ro w (v1.setCell ⟨mb, 45, none⟩ (.int .i64 x1)) b w.heap.size mb a cap t s1 { m with o1 := x1 }) := hide ((unhide RR).put q2 hne (unhide HA) 45 (.int .i64 x1) rfl)
  generalize v1.setCell ⟨mb, 45, none⟩ (.int .i64 x1) = W1 at *
  clear z0 HK RR y yf R0
  have z0 := cell_of (unhide R1).bx 0
  simp at z0
  have K := rint_any _ (unhide R1).rd
  rw [unhide E2] at K
  have HK := hide K
  clear K
  go_upto_region 3 with (go_at_call 70; refine (unhide HK).mono ?_; rintro e v2 ⟨rfl, r, t⟩; have RR := hide ((unhide R1).call q1 hne r (touch_b t)); have y : v2.cell? ⟨mb, 46, none⟩ = some (.int .i64 ({ m with o1 := x1 }).o2) := cell_of (unhide RR).ms 46; have yf := frozen_of (unhide RR).ms 46; clear r t)
  have R2 : Hid (Ro w (v2.setCell ⟨mb, 46, none⟩ (.int .i64 x2)) b w.heap.size mb a cap t s2 { { m with o1 := x1 } with o2 := x2 }) := hide ((unhide RR).put q2 hne (unhide HA) 46 (.int .i64 x2) rfl)
  generalize v2.setCell ⟨mb, 46, none⟩ (.int .i64 x2) = W2 at *
  clear z0 HK RR y yf R1
  have z0 := cell_of (unhide R2).bx 0
  simp at z0
  have K := rint_any _ (unhide R2).rd
  rw [unhide E3] at K
  have HK := hide K
  clear K
  go_upto_region 4 with (go_at_call 70; refine (unhide HK).mono ?_; rintro e v3 ⟨rfl, r, t⟩; have RR := hide ((unhide R2).call q1 hne r (touch_b t)); have y : v3.cell? ⟨mb, 47, none⟩ = some (.int .i64 ({ { m with o1 := x1 } with o2 := x2 }).o3) := cell_of (unhide RR).ms 47; have yf := frozen_of (unhide RR).ms 47; clear r t)
  have R3 : Hid (Ro w (v3.setCell ⟨mb, 47, none⟩ (.int .i64 x3)) b w.heap.size mb a cap t s3 { { { m with o1 := x1 } with o2 := x2 } with o3 := x3 }) := hide ((unhide RR).put q2 hne (unhide HA) 47 (.int .i64 x3) rfl)
  generalize v3.setCell ⟨mb, 47, none⟩ (.int .i64 x3) = W3 at *
  clear z0 HK RR y yf R2
  have z0 := cell_of (unhide R3).bx 0
  simp at z0
  have K := rint_any _ (unhide R3).rd
  rw [unhide E4] at K
  have HK := hide K
  clear K
  go_upto_region 5 with (go_at_call 70; refine (unhide HK).mono ?_; rintro e v4 ⟨rfl, r, t⟩; have RR := hide ((unhide R3).call q1 hne r (touch_b t)); have y : v4.cell? ⟨mb, 48, none⟩ = some (.int .i64 ({ { { m with o1 := x1 } with o2 := x2 } with o3 := x3 }).o4) := cell_of (unhide RR).ms 48; have yf := frozen_of (unhide RR).ms 48; clear r t)
  have R4 : Hid (Ro w (v4.setCell ⟨mb, 48, none⟩ (.int .i64 x4)) b w.heap.size mb a cap t s4 { { { { m with o1 := x1 } with o2 := x2 } with o3 := x3 } with o4 := x4 }) := hide ((unhide RR).put q2 hne (unhide HA) 48 (.int .i64 x4) rfl)
  generalize v4.setCell ⟨mb, 48, none⟩ (.int .i64 x4) = W4 at *
  clear z0 HK RR y yf R3
  have z0 := cell_of (unhide R4).bx 0
  simp at z0
  have K := rint_any _ (unhide R4).rd
  rw [unhide E5] at K
  have HK := hide K
  clear K
  go_upto_region 6 with (go_at_call 70; refine (unhide HK).mono ?_; rintro e v5 ⟨rfl, r, t⟩; have RR := hide ((unhide R4).call q1 hne r (touch_b t)); have y : v5.cell? ⟨mb, 50, none⟩ = some (.int .i64 ({ { { { m with o1 := x1 } with o2 := x2 } with o3 := x3 } with o4 := x4 }).o5) := cell_of (unhide RR).ms 50; have yf := frozen_of (unhide RR).ms 50; clear r t)
  have R5 : Hid (Ro w (v5.setCell ⟨mb, 50, none⟩ (.int .i64 x5)) b w.heap.size mb a cap t s5 { { { { { m with o1 := x1 } with o2 := x2 } with o3 := x3 } with o4 := x4 } with o5 := x5 }) := hide ((unhide RR).put q2 hne (unhide HA) 50 (.int .i64 x5) rfl)
  generalize v5.setCell ⟨mb, 50, none⟩ (.int .i64 x5) = W5 at *
  clear z0 HK RR y yf R4
  have z0 := cell_of (unhide R5).bx 0
  simp at z0
  have K := rint_any _ (unhide R5).rd
  rw [unhide E6] at K
  have HK := hide K
  clear K
  go_upto_region 7 with (go_at_call 70; refine (unhide HK).mono ?_; rintro e v6 ⟨rfl, r, t⟩; have RR := hide ((unhide R5).call q1 hne r (touch_b t)); have y : v6.cell? ⟨mb, 52, none⟩ = some (.int .i64 ({ { { { { m with o1 := x1 } with o2 := x2 } with o3 := x3 } with o4 := x4 } with o5 := x5 }).o6) := cell_of (unhide RR).ms 52; have yf := frozen_of (unhide RR).ms 52; clear r t)
  have R6 : Hid (Ro w (v6.setCell ⟨mb, 52, none⟩ (.int .i64 x6)) b w.heap.size mb a cap t s6 { { { { { { m with o1 := x1 } with o2 := x2 } with o3 := x3 } with o4 := x4 } with o5 := x5 } with o6 := x6 }) := hide ((unhide RR).put q2 hne (unhide HA) 52 (.int .i64 x6) rfl)
  generalize v6.setCell ⟨mb, 52, none⟩ (.int .i64 x6) = W6 at *
  clear z0 HK RR y yf R5
  have z0 := cell_of (unhide R6).bx 0
  simp at z0
  have K := rint_any _ (unhide R6).rd
  rw [unhide E7] at K
  have HK := hide K
  clear K
  go_upto_region 8 with (go_at_call 70; refine (unhide HK).mono ?_; rintro e v7 ⟨rfl, r, t⟩; have RR := hide ((unhide R6).call q1 hne r (touch_b t)); have y : v7.cell? ⟨mb, 53, none⟩ = some (.int .i64 ({ { { { { { m with o1 := x1 } with o2 := x2 } with o3 := x3 } with o4 := x4 } with o5 := x5 } with o6 := x6 }).o7) := cell_of (unhide RR).ms 53; have yf := frozen_of (unhide RR).ms 53; clear r t)
  have R7 : Hid (Ro w (v7.setCell ⟨mb, 53, none⟩ (.int .i64 x7)) b w.heap.size mb a cap t s7 { { { { { { { m with o1 := x1 } with o2 := x2 } with o3 := x3 } with o4 := x4 } with o5 := x5 } with o6 := x6 } with o7 := x7 }) := hide ((unhide RR).put q2 hne (unhide HA) 53 (.int .i64 x7) rfl)
  generalize v7.setCell ⟨mb, 53, none⟩ (.int .i64 x7) = W7 at *
  clear z0 HK RR y yf R6
  have z0 := cell_of (unhide R7).bx 0
  simp at z0
  have K := rint_any _ (unhide R7).rd
  rw [unhide E8] at K
  have HK := hide K
  clear K
  go_upto_region 9 with (go_at_call 70; refine (unhide HK).mono ?_; rintro e v8 ⟨rfl, r, t⟩; have RR := hide ((unhide R7).call q1 hne r (touch_b t)); have y : v8.cell? ⟨mb, 54, none⟩ = some (.int .i64 ({ { { { { { { m with o1 := x1 } with o2 := x2 } with o3 := x3 } with o4 := x4 } with o5 := x5 } with o6 := x6 } with o7 := x7 }).o8) := cell_of (unhide RR).ms 54; have yf := frozen_of (unhide RR).ms 54; clear r t)
  have R8 : Hid (Ro w (v8.setCell ⟨mb, 54, none⟩ (.int .i64 x8)) b w.heap.size mb a cap t s8 { { { { { { { { m with o1 := x1 } with o2 := x2 } with o3 := x3 } with o4 := x4 } with o5 := x5 } with o6 := x6 } with o7 := x7 } with o8 := x8 }) := hide ((unhide RR).put q2 hne (unhide HA) 54 (.int .i64 x8) rfl)
  generalize v8.setCell ⟨mb, 54, none⟩ (.int .i64 x8) = W8 at *
  clear z0 HK RR y yf R7
  have z0 := cell_of (unhide R8).bx 0
  simp at z0
  have K := rint_any _ (unhide R8).rd
  rw [unhide E9] at K
  have HK := hide K
  clear K
  go_upto_region 10 with (go_at_call 70; refine (unhide HK).mono ?_; rintro e v9 ⟨rfl, r, t⟩; have RR := hide ((unhide R8).call q1 hne r (touch_b t)); have y : v9.cell? ⟨mb, 58, none⟩ = some (.int .i64 ({ { { { { { { { m with o1 := x1 } with o2 := x2 } with o3 := x3 } with o4 := x4 } with o5 := x5 } with o6 := x6 } with o7 := x7 } with o8 := x8 }).o9) := cell_of (unhide RR).ms 58; have yf := frozen_of (unhide RR).ms 58; clear r t)
  have R9 : Hid (Ro w (v9.setCell ⟨mb, 58, none⟩ (.int .i64 x9)) b w.heap.size mb a cap t s9 { { { { { { { { { m with o1 := x1 } with o2 := x2 } with o3 := x3 } with o4 := x4 } with o5 := x5 } with o6 := x6 } with o7 := x7 } with o8 := x8 } with o9 := x9 }) := hide ((unhide RR).put q2 hne (unhide HA) 58 (.int .i64 x9) rfl)
  generalize v9.setCell ⟨mb, 58, none⟩ (.int .i64 x9) = W9 at *
  clear z0 HK RR y yf R8
  have z0 := cell_of (unhide R9).bx 0
  simp at z0
  have K := ruint_any _ (unhide R9).rd
  rw [unhide E10] at K
  have HK := hide K
  clear K
  go_upto_region 11 with (go_at_call 78; refine (unhide HK).mono ?_; rintro e v10 ⟨rfl, r, t⟩; have RR := hide ((unhide R9).call q1 hne r (touch_b t)); have y : v10.cell? ⟨mb, 49, none⟩ = some (.int .u64 (({ { { { { { { { { m with o1 := x1 } with o2 := x2 } with o3 := x3 } with o4 := x4 } with o5 := x5 } with o6 := x6 } with o7 := x7 } with o8 := x8 } with o9 := x9 }).pid : Int)) := cell_of (unhide RR).ms 49; have yf := frozen_of (unhide RR).ms 49; clear r t)
  have R10 : Hid (Ro w (v10.setCell ⟨mb, 49, none⟩ (.int .u64 (x10 : Int))) b w.heap.size mb a cap t s10 { { { { { { { { { { m with o1 := x1 } with o2 := x2 } with o3 := x3 } with o4 := x4 } with o5 := x5 } with o6 := x6 } with o7 := x7 } with o8 := x8 } with o9 := x9 } with pid := x10 }) := hide ((unhide RR).put q2 hne (unhide HA) 49 (.int .u64 (x10 : Int)) rfl)
  generalize v10.setCell ⟨mb, 49, none⟩ (.int .u64 (x10 : Int)) = W10 at *
  clear z0 HK RR y yf R9
  have z0 := cell_of (unhide R10).bx 0
  simp at z0
  have K := rflag_any _ (unhide R10).rd
  rw [unhide E11] at K
  have HK := hide K
  clear K
  go_upto_region 12 with (go_at_call 71; refine (unhide HK).mono ?_; rintro e v11 ⟨rfl, r, t⟩; have RR := hide ((unhide R10).call q1 hne r (touch_b t)); have y : v11.cell? ⟨mb, 51, none⟩ = some (.bool ({ { { { { { { { { { m with o1 := x1 } with o2 := x2 } with o3 := x3 } with o4 := x4 } with o5 := x5 } with o6 := x6 } with o7 := x7 } with o8 := x8 } with o9 := x9 } with pid := x10 }).cm) := cell_of (unhide RR).ms 51; have yf := frozen_of (unhide RR).ms 51; clear r t)
  have R11 : Hid (Ro w (v11.setCell ⟨mb, 51, none⟩ (.bool x11)) b w.heap.size mb a cap t s11 { { { { { { { { { { { m with o1 := x1 } with o2 := x2 } with o3 := x3 } with o4 := x4 } with o5 := x5 } with o6 := x6 } with o7 := x7 } with o8 := x8 } with o9 := x9 } with pid := x10 } with cm := x11 }) := hide ((unhide RR).put q2 hne (unhide HA) 51 (.bool x11) rfl)
  generalize v11.setCell ⟨mb, 51, none⟩ (.bool x11) = W11 at *
  clear z0 HK RR y yf R10
  obtain ⟨M, hM⟩ : ∃ M, M = { { { { { { { { { { { m with o1 := x1 } with o2 := x2 } with o3 := x3 } with o4 := x4 } with o5 := x5 } with o6 := x6 } with o7 := x7 } with o8 := x8 } with o9 := x9 } with pid := x10 } with cm := x11 } := ⟨_, rfl⟩
  rw [← hM] at R11
  have HM := hide hM
  have HZ2 : Hid (M.B = ⟨0, 0, 0, 0, 0, false, false, false, []⟩ ∧ (M.ba = none ∧ M.bc = 0) ∧ M.ms = [] ∧ (M.bs = [] ∧ M.bsa = none ∧ M.bsc = 0) ∧ (M.ab = [] ∧ M.aa = none ∧ M.ac = 0)) := hide (by rw [hM]; exact unhide HZ)
  clear hM HZ
  have z0 := cell_of (unhide R11).bx 0
  simp at z0
  have K := rints_any _ (unhide R11).rd
  rw [unhide E12] at K
  have HK := hide K
  clear K
  go_upto_region 13 with (go_at_call 79; refine (unhide HK).mono ?_; rintro e v12 ⟨v, rfl, i12, n12, r, t⟩; have RR := hide ((unhide R11).call q1 hne r (touch_b t)); obtain ⟨va, vc, ev, _⟩ := i12.parts; simp only [List.length_nil] at ev; subst ev; have y : v12.cell? ⟨mb, 55, none⟩ = some (.slice M.ma M.ms.length M.mc) := cell_of (unhide RR).ms 55; have yf := frozen_of (unhide RR).ms 55; clear r t i12 n12)
  have R12 : Hid (Ro w (v12.setCell ⟨mb, 55, none⟩ (.slice va 0 vc)) b w.heap.size mb a cap t s12 { M with ma := va, ms := [], mc := vc }) := hide ((unhide RR).put q2 hne (unhide HA) 55 (.slice va 0 vc) rfl)
  generalize v12.setCell ⟨mb, 55, none⟩ (.slice va 0 vc) = W12 at *
  clear z0 HK RR y yf R11
  have y : W12.cell? ⟨mb, 55, none⟩ = some (.slice va 0 vc) := cell_of (unhide R12).ms 55
  go_wp2_with fail
  refine (needCount_ok (n := 0) W12 (by decide)).mono ?_
  rintro e Wc ⟨rfl, rfl⟩
  clear y
  have z0 := cell_of (unhide R12).bx 0
  simp at z0
  have HK := hide (batch_r0 (unhide R12).rd (unhide E13))
  go_upto_region 15 with (first
    | (go_at_call 76; refine (unhide HK).mono ?_; rintro e v13 ⟨rfl, r, t⟩; have RR := hide ((unhide R12).call q1 hne r t); clear r t)
    | (with_reducible (show wpList _ _ _ (Oper.mk _ (Op.store _ _ _) _ _ _ _ :: _) _ _); (refine wpList_store_mid rfl 38 (.tmp 87) (.tmp 85) rfl mb 36 zB rfl rfl (there_of (unhide RR).ms (by rw [mg_size]; decide)) info_zB one_zB ?_)))
  have R13 : Hid (Ro w (v13.setCells mb 36 zB.toList) b w.heap.size mb a cap t s13 { M with ma := va, ms := [], mc := vc, B := ⟨0, 0, 0, 0, 0, false, false, false, []⟩, ba := none, bc := 0 }) := hide ((unhide RR).puts q2 hne (unhide HA) 36 zB.toList (by kernel_rfl))
  generalize v13.setCells mb 36 zB.toList = W13 at *
  clear z0 HK RR R12
  have z0 := cell_of (unhide R13).bx 0
  simp at z0
  have HK := hide (takeBa0 (unhide R13).rd (unhide E14))
  go_upto_region 16 with (go_at_call 75; refine (unhide HK).mono ?_; rintro e v14 ⟨rfl, r, t⟩; have RR := hide ((unhide R13).call q1 hne r t); have y : v14.cell? ⟨mb, 56, none⟩ = some (.slice M.bsa M.bs.length M.bsc) := cell_of (unhide RR).ms 56; have yf := frozen_of (unhide RR).ms 56; clear r t)
  have R14 : Hid (Ro w (v14.setCell ⟨mb, 56, none⟩ (.slice none 0 0)) b w.heap.size mb a cap t s14 { M with ma := va, ms := [], mc := vc, B := ⟨0, 0, 0, 0, 0, false, false, false, []⟩, ba := none, bc := 0, bs := [], bsa := none, bsc := 0 }) := hide ((unhide RR).put q2 hne (unhide HA) 56 (.slice none 0 0) rfl)
  generalize v14.setCell ⟨mb, 56, none⟩ (.slice none 0 0) = W14 at *
  clear z0 HK RR y yf R13
  have z0 := cell_of (unhide R14).bx 0
  simp at z0
  have HK := hide (takeAb0 (unhide R14).rd (unhide E15))
  go_wp2_with (go_at_call 80; refine (unhide HK).mono ?_; rintro e v15 ⟨rfl, r, t⟩; have RR := hide ((unhide R14).call q1 hne r t); have y : v15.cell? ⟨mb, 57, none⟩ = some (.slice M.aa M.ab.length M.ac) := cell_of (unhide RR).ms 57; have yf := frozen_of (unhide RR).ms 57; clear r t)
  have R15 : Hid (Ro w (v15.setCell ⟨mb, 57, none⟩ (.slice none 0 0)) b w.heap.size mb a cap t s15 { M with ma := va, ms := [], mc := vc, B := ⟨0, 0, 0, 0, 0, false, false, false, []⟩, ba := none, bc := 0, bs := [], bsa := none, bsc := 0, ab := [], aa := none, ac := 0 }) := hide ((unhide RR).put q2 hne (unhide HA) 57 (.slice none 0 0) rfl)
  have eM := mg_same (M := M) va vc (unhide HZ2)
  rw [eM, unhide HM] at R15
  generalize v15.setCell ⟨mb, 57, none⟩ (.slice none 0 0) = W15 at *
  clear z0 HK RR y yf R14 eM
  go_returns
  exact ⟨rfl, va, vc, (unhide R15).rd, (unhide R15).ms, (unhide R15).tc⟩
end
end Go.Proofs.Ytblmondkdcpkaaa
