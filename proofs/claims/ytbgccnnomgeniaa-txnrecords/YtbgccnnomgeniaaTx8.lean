/-
  A txn.State of the call's own, beside other blocks; awake. Conditions: as each says.
-/
import Derived.Test.YtbgccnnomgeniaaTx7
import Derived.Test.YtbgccnnomgeniaaTx3
import Derived.Test.YtbgccnnomgeniaaTx4
namespace Go.Proofs.Ytbgccnnomgeniaa
open Go.RowKit Go.Maps
set_option linter.unusedVariables false

/-- A state of at most c names; none of its blocks is in N. -/
def TW (w : World) (N : Nat → Prop) (sb : Nat) (K : Int → Option Tx) (c : Nat) : Prop := ∃ mv m R, TS w sb mv m K R ∧ m.length ≤ c ∧ ∀ k, N k → ¬ R k
section
variable {w w' : World} {N N' S : Nat → Prop} {sb c : Nat} {K : Int → Option Tx}
theorem TW.keep (h : TW w N sb K c) (t : Touch S w w') (hs : ∀ k, k < w.heap.size → S k → N k) : TW w' N sb K c := by
  obtain ⟨mv, m, R, h1, h2, h3⟩ := h
  exact ⟨mv, m, R, h1.keep t (fun k hk e => h3 k (hs k (h1.inR k hk) e) hk), h2, h3⟩
theorem TW.later (h : TW w N sb K c) (hb : Below w.heap.size w w') : TW w' N sb K c := h.keep (Touch.of_below (S := fun _ => False) hb) (fun _ _ h => h.elim)
theorem TW.weak (h : TW w N sb K c) (hn : ∀ k, N' k → N k) : TW w N' sb K c := by
  obtain ⟨mv, m, R, h1, h2, h3⟩ := h
  exact ⟨mv, m, R, h1, h2, fun k hk => h3 k (hn k hk)⟩
/-- What isn't there yet is not the state's. -/
theorem TW.add (h : TW w N sb K c) : TW w (fun k => N k ∨ w.heap.size ≤ k) sb K c := by
  obtain ⟨mv, m, R, h1, h2, h3⟩ := h
  exact ⟨mv, m, R, h1, h2, fun k hk hr => hk.elim (fun e => h3 k e hr) (fun e => by have := h1.inR k hr; omega)⟩
theorem tw_new (w : World) : TW (w.alloc (.cells #[.map none] 74)) (fun k => k < w.heap.size) w.heap.size (fun _ => none) 0 :=
  ⟨_, _, _, ts_new w, Nat.le_refl _, fun k hk e => by omega⟩
theorem TW.below {B : Nat} (t : Touch (fun k => ¬ N k) w w') (hN : ∀ k, k < B → N k) (hB : B ≤ w.heap.size) : Below B w w' :=
  ⟨t.os, t.tape, t.output, t.size, fun k hk => t.block k (by omega) (fun h => h (hN k hk))⟩
theorem apply_tw {r : Re} {a : Option Addr} {cp : Nat} (h : TW w N sb K c) (hN : ∀ k, N k → k < w.heap.size) (hr : IAt w a r.ps) (hc : a = none → cp = 0) (hn : I64 r.tx) (hl : (getT K r.tx).ps.length + r.ps.length ≤ 17592186044416) (hm : c < 4611686018427387904) :
    Calls Try.prog 24 #[.pointer (some ⟨sb, 0, none⟩), .agg (reC r a cp)] w fun e w' => e = .returned (.tuple #[]) ∧ TW w' N sb (putT K r.tx (apT r (getT K r.tx))) (c + 1) ∧ Touch (fun k => ¬ N k) w w' := by
  obtain ⟨mv, m, R, h1, h2, h3⟩ := h
  refine (apply_any h1 hr hc hn hl (by omega)).mono ?_
  rintro e w' ⟨rfl, mv', m', e1, e2, e3⟩
  exact ⟨rfl, ⟨mv', m', _, e1, by omega, fun k hk hr => hr.elim (h3 k hk) (fun e => by have := hN k hk; omega)⟩, e3.mono (fun k hk hn => h3 k hn hk)⟩
theorem init_tw (n inc pid : Int) (h : TW w N sb K c) : Calls Try.prog 23 #[.pointer (some ⟨sb, 0, none⟩), .int .i64 n, .int .i64 inc, .int .u64 pid] w fun e w' => DnP w (initD (getT K n) n inc pid) e w' := by
  obtain ⟨mv, m, R, h1, h2, h3⟩ := h
  exact init_any n inc pid h1
theorem add_tw (n pid epoch part : Int) (h : TW w N sb K c) : Calls Try.prog 25 #[.pointer (some ⟨sb, 0, none⟩), .int .i64 n, .int .u64 pid, .int .i64 epoch, .int .i64 part] w fun e w' => DnP w (addD (getT K n) n pid epoch part) e w' := by
  obtain ⟨mv, m, R, h1, h2, h3⟩ := h
  exact add_any n pid epoch part h1
end
set_option maxRecDepth 100000 in
set_option maxHeartbeats 2000000 in
theorem tawake_any (w : World) : Calls Try.prog 6 #[] w fun e w' => e = .returned (.bool true) ∧ Below w.heap.size w w' := by
  have KN := hide (tnew_any w)
  have T0 := hide (tw_new w)
  have B0 : Hid (Below w.heap.size w (w.alloc (.cells #[.map none] 74))) := (Below.refl _ _).alloc (Nat.le_refl _) _
  go_enter Try.func6, Try.ntmps6
  go_wp2_with fail
  refine (unhide KN).mono ?_
  rintro e w1 ⟨rfl, rfl⟩
  have hs1 : w.heap.size < (w.alloc (.cells #[.map none] 74)).heap.size := by simp
  generalize w.alloc (.cells #[.map none] 74) = W1 at *
  clear KN
  have KI := init_tw 0 1 5 (unhide T0)
  have e1 : initD (getT (fun _ => none) 0) 0 1 5 = ⟨⟨1, 0, 1, 5, 0, [], false⟩, true, 0⟩ := by simp [initD, getT, tx0, beginD]
  rw [e1] at KI
  have KIH := hide KI
  clear KI e1
  go_wp2_with fail
  refine (unhide KIH).mono ?_
  rintro e w2 ⟨sa, c, rfl, i1, i2, b2⟩
  obtain ⟨a0, c0, ev, iI, il, im, inn, _⟩ := i1.iat
  injection ev with ev1 ev2 ev3
  have b3 : Below w2.heap.size w2 (w2.alloc (.cells (reC ⟨1, 0, 1, 5, 0, [], false⟩ sa c) 25)) := (Below.refl _ _).alloc (Nat.le_refl _) _
  have T2 := ((unhide T0).later b2).add.later b3
  have KA := apply_tw (N := fun k => k < w.heap.size ∨ k = w2.heap.size) (r := ⟨1, 0, 1, 5, 0, [], false⟩) (a := sa) (cp := c) (T2.weak (fun k hk => by rcases hk with e | e; exact .inl e; exact .inr (by omega))) (fun k hk => by have := b2.size; simp; omega) (fun i hi => by cases hi) (fun e => by rw [← ev3] at inn; exact inn (by rw [← ev1]; exact e)) ⟨by decide, by decide⟩ (by decide) (by decide)
  have hx := heap_new w2 (.cells (reC ⟨1, 0, 1, 5, 0, [], false⟩ sa c) 25)
  simp only [reC] at KA hx
  have BB3 : Hid (Below w.heap.size w (w2.alloc (.cells #[.int .i64 1, .int .i64 0, .int .i64 1, .int .u64 5, .int .i64 0, .slice sa ([] : List Int).length c, .bool false] 25))) := ((unhide B0).trans (b2.mono (by omega))).alloc (by have := (unhide B0).size; have := b2.size; omega) _
  have hs2 := b2.size
  have KAH := hide KA
  have HXX := hide hx
  clear KA hx T2 T0 b2 b3 i1 i2 iI il im inn ev1 ev2 ev3 KIH B0
  simp only [reC]
  go_wp2_with fail
  refine (unhide KAH).mono ?_
  rintro e w4 ⟨rfl, t4, u4⟩
  have hx4 := u4.keep (unhide HXX) (fun h => h (.inr rfl))
  have BB4 : Hid (Below w.heap.size w w4) := (unhide BB3).trans (TW.below u4 (fun k hk => .inl hk) (unhide BB3).size)
  have y0 : w4.cell? ⟨w2.heap.size, 0, none⟩ = some (.int .i64 1) := cell_of hx4 0
  have y3 : w4.cell? ⟨w2.heap.size, 3, none⟩ = some (.int .u64 5) := cell_of hx4 3
  have KD := add_tw 0 5 0 2 t4
  have e2 : addD (getT (putT (fun _ => none) (0 : Int) (apT ⟨1, 0, 1, 5, 0, [], false⟩ (getT (fun _ => none) 0))) 0) 0 5 0 2 = ⟨⟨2, 0, 0, 0, 0, [2], false⟩, true, 0⟩ := by simp [addD, getT, putT, apT, tx0]
  rw [e2] at KD
  have KDH := hide KD
  have hlt4 := lt_of_heap hx4
  have HX4 := hide hx4
  clear KD e2 t4 u4 KAH HXX hx4 BB3
  go_wp2_with fail
  refine (unhide KDH).mono ?_
  rintro e w5 ⟨sa5, c5, rfl, i5, n5, b5⟩
  have y0' := (b5.cell (p := ⟨w2.heap.size, 0, none⟩) hlt4).trans y0
  have y3' := (b5.cell (p := ⟨w2.heap.size, 3, none⟩) hlt4).trans y3
  have hlt5 : w2.heap.size < w5.heap.size := Nat.lt_of_lt_of_le hlt4 b5.size
  have B5 : Hid (Below w.heap.size w (w5.alloc (.cells #[.int .i64 2, .int .i64 0, .int .i64 0, .int .u64 0, .int .i64 0, .slice sa5 1 c5, .bool false] 25))) := ((unhide BB4).trans (b5.mono (unhide BB4).size)).alloc (Nat.le_trans (unhide BB4).size b5.size) _
  clear i5 n5 b5 KDH HX4 BB4 y0 y3
  simp only [reC, List.length_cons, List.length_nil]
  go_wp2
  go_ret
  exact ⟨rfl, unhide B5⟩
end Go.Proofs.Ytbgccnnomgeniaa
