/-
  The statements' own 'lay': a thing is laid both ways. Conditions: what is laid together has at most 2^47 bytes.
-/
import Derived.Test.YtnhociggoagpoaaLaw3
import Derived.Test.YtnhociggoagpoaaRfe
namespace Go.Proofs.Ytnhociggoagpoaa
open Go.RowKit
set_option linter.unusedVariables false

/-- A writer (or none), and a row of bytes, both of the call's own, apart; nothing old has turned. -/
structure Duo (w0 w : World) (pv v : Value) (l : List Nat) (long : Bool) (va : Value) (la : List Nat) : Prop where
  wr : WrV w pv v l long
  row : Row w va la
  below : Below w0.heap.size w0 w
  mine : ∀ k, Mine pv v k → w0.heap.size ≤ k
  nw : New w0 va
  apart : ∀ k, va.ownBlock = some k → ¬ Mine pv v k
theorem Duo.later {w0 w w' : World} {pv v va : Value} {l la : List Nat} {long : Bool} (h : Duo w0 w pv v l long va la) (hb : Below w.heap.size w w') : Duo w0 w' pv v l long va la :=
  ⟨h.wr.later hb, h.row.later hb, h.below.trans (hb.mono h.below.size), h.mine, h.nw, h.apart⟩
theorem Duo.step {w0 w w' : World} {pv v v' va : Value} {l l' la : List Nat} {long long' : Bool} (h : Duo w0 w pv v l long va la) (hw : WrV w' pv v' l' long') (st : Step pv w v w' v') : Duo w0 w' pv v' l' long' va la := by
  have hm : ∀ k, Mine pv v' k → Mine pv v k ∨ w.heap.size ≤ k := by
    rintro k (e | e)
    · exact .inl (.inl e)
    · rcases st.moved k e with e | e
      · exact .inl (.inr e)
      · exact .inr e
  refine ⟨hw, h.row.keep st.touch h.apart, below_touch h.below st.touch h.below.size h.mine, fun k hk => ?_, h.nw, fun k hk hmk => ?_⟩
  · rcases hm k hk with e | e
    · exact h.mine k e
    · have := h.below.size; omega
  · rcases hm k hmk with e | e
    · exact h.apart k hk e
    · have := h.row.lt k hk; omega
theorem Duo.app {w0 w w' : World} {pv v va va' : Value} {l la la' : List Nat} {long : Bool} (h : Duo w0 w pv v l long va la) (r : Row w' va' la') (t : Touch (fun k => va.ownBlock = some k) w w') (m : Moved w va va') : Duo w0 w' pv v l long va' la' := by
  refine ⟨h.wr.keep t (fun k hk e => h.apart k e hk), r, below_touch h.below t h.below.size (fun k hk => h.nw k hk), h.mine, h.nw.moved m h.below.size, fun k hk hm => ?_⟩
  rcases m k hk with e | e
  · exact h.apart k e hm
  · have := h.wr.mine k hm; omega

/-- What a call makes of the writer's state. -/
def wLong (long : Bool) (o : OpV) : Bool := long || (decide (o.kind = 4) && decide (4096 < o.bs.length))
def wLaid (long : Bool) (l : List Nat) (o : OpV) : List Nat := if o.kind = 4 ∧ 4096 < o.bs.length then [] else lays long l (encOp o)
theorem wLong_no {long : Bool} {o : OpV} (h : ¬ (o.kind = 4 ∧ 4096 < o.bs.length)) : wLong long o = long := by
  unfold wLong
  by_cases h4 : o.kind = 4
  · have : ¬ 4096 < o.bs.length := fun h' => h ⟨h4, h'⟩
    simp [this]
  · simp [h4]
theorem wLaid_no {long : Bool} {l : List Nat} {o : OpV} (h : ¬ (o.kind = 4 ∧ 4096 < o.bs.length)) : wLaid long l o = lays long l (encOp o) := by unfold wLaid; rw [if_neg h]

/-- An Op's value. -/
def opv (o : OpV) (aB : Option Addr) (cB : Nat) (aL : Option Addr) (cL : Nat) : Value := .agg #[.int .i64 o.kind, .int .u64 (o.n : Nat), .int .i64 o.i, .bool o.is, .slice aB o.bs.length cB, .slice aL o.ls.length cL]
/-- What is told of an Op that came in. -/
structure OpIn (w0 : World) (o : OpV) (aB : Option Addr) (cB : Nat) (aL : Option Addr) (cL : Nat) : Prop where
  fits : o.Fits
  bs : LAt w0 aB o.bs
  ls : IAt w0 aL o.ls
  nB : aB = none → cB = 0

theorem mem_lt3 {w : World} {a : Option Addr} {t : List Nat} (h : LAt w a t) (h0 : 0 < t.length) {x : Addr} (hx : a = some x) : x.block < w.heap.size := by
  obtain ⟨b, off, e1, e2, _⟩ := h.cell h0
  rw [hx] at e1; cases e1; exact e2
theorem imem_lt3 {w : World} {a : Option Addr} {t : List Int} (h : IAt w a t) (h0 : 0 < t.length) {x : Addr} (hx : a = some x) : x.block < w.heap.size := by
  obtain ⟨b, off, e1, e2, _⟩ := h 0 h0
  rw [hx] at e1; cases e1; exact e2

section
variable {w0 w : World} {pv v va : Value} {l la : List Nat} {long : Bool} {o : OpV} {aB aL : Option Addr} {cB cL : Nat}

theorem box_later {w1 w2 : World} {v2 : Value} {ob : Obj} {k : Nat} (hb : w1.heap[k]? = some ob) (st : Step pv w1 v w2 v2) (hm : ∀ i, Mine pv v i → i ≠ k) : w2.heap[k]? = some ob := st.touch.keep hb (fun h => hm k h rfl)

set_option maxRecDepth 100000 in
set_option maxHeartbeats 1000000 in
theorem lay3_uint (h : Duo w0 w pv v l long va la) (hi : OpIn w0 o aB cB aL cL) (hk : o.kind = 0) (hr1 : l.length + 20 + o.bs.length + 10 * o.ls.length ≤ 140737488355328) (hr2 : la.length + 20 + o.bs.length + 10 * o.ls.length ≤ 140737488355328) :
    Calls Try.prog 11 #[pv, va, opv o aB cB aL cL] w fun e w' => ∃ v' va', e = .returned va' ∧ Duo w0 w' pv v' (wLaid long l o) (wLong long o) va' (la ++ encOp o) ∧ Touch (fun k => Mine pv v k ∨ va.ownBlock = some k) w w' := by
  have hw1 : Below w.heap.size w (w.alloc (.cells #[.int .i64 0, .int .u64 (o.n : Nat), .int .i64 o.i, .bool o.is, .slice aB o.bs.length cB, .slice aL o.ls.length cL] 30)) := (Below.refl _ _).alloc (Nat.le_refl _) _
  have hbx := heap_new w (.cells #[.int .i64 0, .int .u64 (o.n : Nat), .int .i64 o.i, .bool o.is, .slice aB o.bs.length cB, .slice aL o.ls.length cL] 30)
  have HM : Hid (∀ i, Mine pv v i → i ≠ w.heap.size) := fun i hi' => by have := h.wr.mine i hi'; omega
  have D1 := hide (h.later hw1)
  have TW := hide (Touch.of_below (S := fun k => Mine pv v k ∨ va.ownBlock = some k) hw1)
  have HI := hide hi
  have hf := hi.fits
  have EO : Hid (encOp o = enc o.n) := by show encOp o = _; unfold encOp; rw [if_pos hk]
  have hno : ¬ (o.kind = 4 ∧ 4096 < o.bs.length) := by rintro ⟨h4, _⟩; rw [hk] at h4; cases h4
  have EL := hide (wLaid_no (long := long) (l := l) hno)
  have EG := hide (wLong_no (long := long) hno)
  clear h hi
  unfold opv
  have HBX := hide hbx
  clear hbx hw1
  obtain ⟨va0, van, vac, rfl⟩ := (unhide D1).row.shape
  rw [hk]
  go_enter Try.func11, Try.ntmps11
  go_wp2_with fail
  refine (wuint_any pv v l long o.n _ (unhide D1).wr hf.n (by omega)).mono ?_
  rintro e w2 ⟨rfl, v2, h2, s2⟩
  have D2 := hide ((unhide D1).step h2 s2)
  have TW2 := hide ((unhide TW).trans (s2.touch.mono (fun k hk => .inl hk)))
  have hbx2 := box_later (unhide HBX) s2 (unhide HM)
  have cy : w2.cell? ⟨w.heap.size, 1, none⟩ = some (.int .u64 (o.n : Nat)) := by rw [cell_of hbx2]; rfl
  clear h2 s2 hbx2 D1
  go_wp2_with fail
  refine (euint_any o.n _ hf.n).mono ?_
  rintro e w3 ⟨v3, rfl, f3⟩
  obtain ⟨X, hX⟩ : ∃ X, X = enc o.n := ⟨_, rfl⟩
  have hXr : la.length + X.length ≤ 140737488355328 := by rw [hX]; have := enc_len10 hf.n; omega
  have HX := hide hX
  rw [← hX] at f3
  clear hX
  have D3 := hide ((unhide D2).later f3.2.2)
  have TW3 := hide ((unhide TW2).trans (Touch.of_below f3.2.2))
  obtain ⟨a3, c3, rfl, l3, _, _, n3, _⟩ := f3.1.parts
  have L3 := hide l3
  clear f3 l3 D2 cy
  go_wp2_with (at_builtin; refine wpList_row _ rfl (.tmp 15) (.tmp 18) rfl _ la rfl (unhide D3).row a3 c3 X rfl (unhide L3) n3 hXr ?_)
  intro v4 w4 r4 t4 m4
  have D4 := (unhide D3).app r4 t4 m4
  have TW4 := hide ((unhide TW3).trans (t4.mono (fun k hk => .inr hk)))
  obtain ⟨x4, y4, z4, rfl⟩ := r4.shape
  have FF : Hid (Duo w0 w4 pv v2 (wLaid long l o) (wLong long o) (.slice x4 y4 z4) (la ++ encOp o)) := by
    show Duo _ _ _ _ _ _ _ _
    rw [unhide EL, unhide EG, unhide EO]
    rw [unhide HX] at D4
    exact D4
  clear r4 t4 m4 D4 D3 L3
  go_wp2
  go_returns
  exact ⟨_, _, rfl, unhide FF, unhide TW4⟩

set_option maxRecDepth 100000 in
set_option maxHeartbeats 1000000 in
theorem lay3_int (h : Duo w0 w pv v l long va la) (hi : OpIn w0 o aB cB aL cL) (hk : o.kind = 1) (hr1 : l.length + 20 + o.bs.length + 10 * o.ls.length ≤ 140737488355328) (hr2 : la.length + 20 + o.bs.length + 10 * o.ls.length ≤ 140737488355328) :
    Calls Try.prog 11 #[pv, va, opv o aB cB aL cL] w fun e w' => ∃ v' va', e = .returned va' ∧ Duo w0 w' pv v' (wLaid long l o) (wLong long o) va' (la ++ encOp o) ∧ Touch (fun k => Mine pv v k ∨ va.ownBlock = some k) w w' := by
  have hw1 : Below w.heap.size w (w.alloc (.cells #[.int .i64 1, .int .u64 (o.n : Nat), .int .i64 o.i, .bool o.is, .slice aB o.bs.length cB, .slice aL o.ls.length cL] 30)) := (Below.refl _ _).alloc (Nat.le_refl _) _
  have hbx := heap_new w (.cells #[.int .i64 1, .int .u64 (o.n : Nat), .int .i64 o.i, .bool o.is, .slice aB o.bs.length cB, .slice aL o.ls.length cL] 30)
  have HM : Hid (∀ i, Mine pv v i → i ≠ w.heap.size) := fun i hi' => by have := h.wr.mine i hi'; omega
  have D1 := hide (h.later hw1)
  have TW := hide (Touch.of_below (S := fun k => Mine pv v k ∨ va.ownBlock = some k) hw1)
  have HI := hide hi
  have hf := hi.fits
  have EO : Hid (encOp o = enc (zig o.i)) := by show encOp o = _; unfold encOp; rw [if_neg (by rw [hk]; decide), if_pos hk]
  have hno : ¬ (o.kind = 4 ∧ 4096 < o.bs.length) := by rintro ⟨h4, _⟩; rw [hk] at h4; cases h4
  have EL := hide (wLaid_no (long := long) (l := l) hno)
  have EG := hide (wLong_no (long := long) hno)
  clear h hi
  unfold opv
  have HBX := hide hbx
  clear hbx hw1
  obtain ⟨va0, van, vac, rfl⟩ := (unhide D1).row.shape
  rw [hk]
  go_enter Try.func11, Try.ntmps11
  go_wp2_with fail
  refine (wint_any pv v l long o.i _ (unhide D1).wr hf.i1 hf.i2 (by omega)).mono ?_
  rintro e w2 ⟨rfl, v2, h2, s2⟩
  have D2 := hide ((unhide D1).step h2 s2)
  have TW2 := hide ((unhide TW).trans (s2.touch.mono (fun k hk => .inl hk)))
  have hbx2 := box_later (unhide HBX) s2 (unhide HM)
  have cy : w2.cell? ⟨w.heap.size, 2, none⟩ = some (.int .i64 o.i) := by rw [cell_of hbx2]; rfl
  clear h2 s2 hbx2 D1
  go_wp2_with fail
  refine (eint_any o.i _ hf.i1 hf.i2).mono ?_
  rintro e w3 ⟨v3, rfl, f3⟩
  obtain ⟨X, hX⟩ : ∃ X, X = enc (zig o.i) := ⟨_, rfl⟩
  have hXr : la.length + X.length ≤ 140737488355328 := by rw [hX]; have := enc_len10 (zig_lt hf.i1 hf.i2); omega
  have HX := hide hX
  rw [← hX] at f3
  clear hX
  have D3 := hide ((unhide D2).later f3.2.2)
  have TW3 := hide ((unhide TW2).trans (Touch.of_below f3.2.2))
  obtain ⟨a3, c3, rfl, l3, _, _, n3, _⟩ := f3.1.parts
  have L3 := hide l3
  clear f3 l3 D2 cy
  go_wp2_with (at_builtin; refine wpList_row _ rfl (.tmp 26) (.tmp 29) rfl _ la rfl (unhide D3).row a3 c3 X rfl (unhide L3) n3 hXr ?_)
  intro v4 w4 r4 t4 m4
  have D4 := (unhide D3).app r4 t4 m4
  have TW4 := hide ((unhide TW3).trans (t4.mono (fun k hk => .inr hk)))
  obtain ⟨x4, y4, z4, rfl⟩ := r4.shape
  have FF : Hid (Duo w0 w4 pv v2 (wLaid long l o) (wLong long o) (.slice x4 y4 z4) (la ++ encOp o)) := by
    show Duo _ _ _ _ _ _ _ _
    rw [unhide EL, unhide EG, unhide EO]
    rw [unhide HX] at D4
    exact D4
  clear r4 t4 m4 D4 D3 L3
  go_wp2
  go_returns
  exact ⟨_, _, rfl, unhide FF, unhide TW4⟩

set_option maxRecDepth 100000 in
set_option maxHeartbeats 1000000 in
theorem lay3_flag (h : Duo w0 w pv v l long va la) (hi : OpIn w0 o aB cB aL cL) (hk : o.kind = 2) (hr1 : l.length + 20 + o.bs.length + 10 * o.ls.length ≤ 140737488355328) (hr2 : la.length + 20 + o.bs.length + 10 * o.ls.length ≤ 140737488355328) :
    Calls Try.prog 11 #[pv, va, opv o aB cB aL cL] w fun e w' => ∃ v' va', e = .returned va' ∧ Duo w0 w' pv v' (wLaid long l o) (wLong long o) va' (la ++ encOp o) ∧ Touch (fun k => Mine pv v k ∨ va.ownBlock = some k) w w' := by
  have hw1 : Below w.heap.size w (w.alloc (.cells #[.int .i64 2, .int .u64 (o.n : Nat), .int .i64 o.i, .bool o.is, .slice aB o.bs.length cB, .slice aL o.ls.length cL] 30)) := (Below.refl _ _).alloc (Nat.le_refl _) _
  have hbx := heap_new w (.cells #[.int .i64 2, .int .u64 (o.n : Nat), .int .i64 o.i, .bool o.is, .slice aB o.bs.length cB, .slice aL o.ls.length cL] 30)
  have HM : Hid (∀ i, Mine pv v i → i ≠ w.heap.size) := fun i hi' => by have := h.wr.mine i hi'; omega
  have D1 := hide (h.later hw1)
  have TW := hide (Touch.of_below (S := fun k => Mine pv v k ∨ va.ownBlock = some k) hw1)
  have HI := hide hi
  have hf := hi.fits
  have EO : Hid (encOp o = [o.is.toNat]) := by show encOp o = _; unfold encOp; rw [if_neg (by rw [hk]; decide), if_neg (by rw [hk]; decide), if_pos hk]
  have hno : ¬ (o.kind = 4 ∧ 4096 < o.bs.length) := by rintro ⟨h4, _⟩; rw [hk] at h4; cases h4
  have EL := hide (wLaid_no (long := long) (l := l) hno)
  have EG := hide (wLong_no (long := long) hno)
  clear h hi
  unfold opv
  have HBX := hide hbx
  clear hbx hw1
  obtain ⟨va0, van, vac, rfl⟩ := (unhide D1).row.shape
  rw [hk]
  go_enter Try.func11, Try.ntmps11
  go_wp2_with fail
  refine (wflag_any pv v l long o.is _ (unhide D1).wr (by omega)).mono ?_
  rintro e w2 ⟨rfl, v2, h2, s2⟩
  have D2 := hide ((unhide D1).step h2 s2)
  have TW2 := hide ((unhide TW).trans (s2.touch.mono (fun k hk => .inl hk)))
  have hbx2 := box_later (unhide HBX) s2 (unhide HM)
  have cy : w2.cell? ⟨w.heap.size, 3, none⟩ = some (.bool o.is) := by rw [cell_of hbx2]; rfl
  clear h2 s2 hbx2 D1
  go_wp2_with fail
  refine (eflag_any o.is _).mono ?_
  rintro e w3 ⟨v3, rfl, f3⟩
  obtain ⟨X, hX⟩ : ∃ X, X = [o.is.toNat] := ⟨_, rfl⟩
  have hXr : la.length + X.length ≤ 140737488355328 := by rw [hX]; simp; omega
  have HX := hide hX
  rw [← hX] at f3
  clear hX
  have D3 := hide ((unhide D2).later f3.2.2)
  have TW3 := hide ((unhide TW2).trans (Touch.of_below f3.2.2))
  obtain ⟨a3, c3, rfl, l3, _, _, n3, _⟩ := f3.1.parts
  have L3 := hide l3
  clear f3 l3 D2 cy
  go_wp2_with (at_builtin; refine wpList_row _ rfl (.tmp 37) (.tmp 40) rfl _ la rfl (unhide D3).row a3 c3 X rfl (unhide L3) n3 hXr ?_)
  intro v4 w4 r4 t4 m4
  have D4 := (unhide D3).app r4 t4 m4
  have TW4 := hide ((unhide TW3).trans (t4.mono (fun k hk => .inr hk)))
  obtain ⟨x4, y4, z4, rfl⟩ := r4.shape
  have FF : Hid (Duo w0 w4 pv v2 (wLaid long l o) (wLong long o) (.slice x4 y4 z4) (la ++ encOp o)) := by
    show Duo _ _ _ _ _ _ _ _
    rw [unhide EL, unhide EG, unhide EO]
    rw [unhide HX] at D4
    exact D4
  clear r4 t4 m4 D4 D3 L3
  go_wp2
  go_returns
  exact ⟨_, _, rfl, unhide FF, unhide TW4⟩

set_option maxRecDepth 100000 in
set_option maxHeartbeats 1000000 in
theorem lay3_fix (h : Duo w0 w pv v l long va la) (hi : OpIn w0 o aB cB aL cL) (hk : o.kind = 3) (hr1 : l.length + 20 + o.bs.length + 10 * o.ls.length ≤ 140737488355328) (hr2 : la.length + 20 + o.bs.length + 10 * o.ls.length ≤ 140737488355328) :
    Calls Try.prog 11 #[pv, va, opv o aB cB aL cL] w fun e w' => ∃ v' va', e = .returned va' ∧ Duo w0 w' pv v' (wLaid long l o) (wLong long o) va' (la ++ encOp o) ∧ Touch (fun k => Mine pv v k ∨ va.ownBlock = some k) w w' := by
  have hw1 : Below w.heap.size w (w.alloc (.cells #[.int .i64 3, .int .u64 (o.n : Nat), .int .i64 o.i, .bool o.is, .slice aB o.bs.length cB, .slice aL o.ls.length cL] 30)) := (Below.refl _ _).alloc (Nat.le_refl _) _
  have hbx := heap_new w (.cells #[.int .i64 3, .int .u64 (o.n : Nat), .int .i64 o.i, .bool o.is, .slice aB o.bs.length cB, .slice aL o.ls.length cL] 30)
  have HM : Hid (∀ i, Mine pv v i → i ≠ w.heap.size) := fun i hi' => by have := h.wr.mine i hi'; omega
  have D1 := hide (h.later hw1)
  have TW := hide (Touch.of_below (S := fun k => Mine pv v k ∨ va.ownBlock = some k) hw1)
  have HI := hide hi
  have hf := hi.fits
  obtain ⟨y, hye⟩ : ∃ y : Nat, o.n % 4294967296 = y := ⟨_, rfl⟩
  have hy : y < 4294967296 := by omega
  have hcv : (o.n : Int) % 4294967296 = (y : Int) := by omega
  have EO : Hid (encOp o = fix y) := by show encOp o = _; unfold encOp; rw [if_neg (by rw [hk]; decide), if_neg (by rw [hk]; decide), if_neg (by rw [hk]; decide), if_pos hk, hye]
  have hno : ¬ (o.kind = 4 ∧ 4096 < o.bs.length) := by rintro ⟨h4, _⟩; rw [hk] at h4; cases h4
  have EL := hide (wLaid_no (long := long) (l := l) hno)
  have EG := hide (wLong_no (long := long) hno)
  clear h hi
  unfold opv
  have HBX := hide hbx
  clear hbx hw1
  obtain ⟨va0, van, vac, rfl⟩ := (unhide D1).row.shape
  rw [hk]
  go_enter Try.func11, Try.ntmps11
  go_wp2_with fail
  refine (wfix_any pv v l long y _ (unhide D1).wr hy (by omega)).mono ?_
  rintro e w2 ⟨rfl, v2, h2, s2⟩
  have D2 := hide ((unhide D1).step h2 s2)
  have TW2 := hide ((unhide TW).trans (s2.touch.mono (fun k hk => .inl hk)))
  have hbx2 := box_later (unhide HBX) s2 (unhide HM)
  have cy : w2.cell? ⟨w.heap.size, 1, none⟩ = some (.int .u64 (o.n : Nat)) := by rw [cell_of hbx2]; rfl
  clear h2 s2 hbx2 D1
  go_wp2_with fail
  refine (efix_any y _ hy).mono ?_
  rintro e w3 ⟨v3, rfl, f3⟩
  obtain ⟨X, hX⟩ : ∃ X, X = fix y := ⟨_, rfl⟩
  have hXr : la.length + X.length ≤ 140737488355328 := by rw [hX]; simp [fix]; omega
  have HX := hide hX
  rw [← hX] at f3
  clear hX
  have D3 := hide ((unhide D2).later f3.2.2)
  have TW3 := hide ((unhide TW2).trans (Touch.of_below f3.2.2))
  obtain ⟨a3, c3, rfl, l3, _, _, n3, _⟩ := f3.1.parts
  have L3 := hide l3
  clear f3 l3 D2 cy
  go_wp2_with (at_builtin; refine wpList_row _ rfl (.tmp 49) (.tmp 53) rfl _ la rfl (unhide D3).row a3 c3 X rfl (unhide L3) n3 hXr ?_)
  intro v4 w4 r4 t4 m4
  have D4 := (unhide D3).app r4 t4 m4
  have TW4 := hide ((unhide TW3).trans (t4.mono (fun k hk => .inr hk)))
  obtain ⟨x4, y4, z4, rfl⟩ := r4.shape
  have FF : Hid (Duo w0 w4 pv v2 (wLaid long l o) (wLong long o) (.slice x4 y4 z4) (la ++ encOp o)) := by
    show Duo _ _ _ _ _ _ _ _
    rw [unhide EL, unhide EG, unhide EO]
    rw [unhide HX] at D4
    exact D4
  clear r4 t4 m4 D4 D3 L3
  go_wp2
  go_returns
  exact ⟨_, _, rfl, unhide FF, unhide TW4⟩

set_option maxRecDepth 100000 in
set_option maxHeartbeats 1000000 in
theorem lay3_bytes (h : Duo w0 w pv v l long va la) (hi : OpIn w0 o aB cB aL cL) (hk : o.kind = 4) (h4 : o.bs.length ≤ 4096) (hr1 : l.length + 20 + o.bs.length + 10 * o.ls.length ≤ 140737488355328) (hr2 : la.length + 20 + o.bs.length + 10 * o.ls.length ≤ 140737488355328) :
    Calls Try.prog 11 #[pv, va, opv o aB cB aL cL] w fun e w' => ∃ v' va', e = .returned va' ∧ Duo w0 w' pv v' (wLaid long l o) (wLong long o) va' (la ++ encOp o) ∧ Touch (fun k => Mine pv v k ∨ va.ownBlock = some k) w w' := by
  have hw1 : Below w.heap.size w (w.alloc (.cells #[.int .i64 4, .int .u64 (o.n : Nat), .int .i64 o.i, .bool o.is, .slice aB o.bs.length cB, .slice aL o.ls.length cL] 30)) := (Below.refl _ _).alloc (Nat.le_refl _) _
  have hbx := heap_new w (.cells #[.int .i64 4, .int .u64 (o.n : Nat), .int .i64 o.i, .bool o.is, .slice aB o.bs.length cB, .slice aL o.ls.length cL] 30)
  have HM : Hid (∀ i, Mine pv v i → i ≠ w.heap.size) := fun i hi' => by have := h.wr.mine i hi'; omega
  have D1 := hide (h.later hw1)
  have TW := hide (Touch.of_below (S := fun k => Mine pv v k ∨ va.ownBlock = some k) hw1)
  have HI := hide hi
  have hf := hi.fits
  have EO : Hid (encOp o = enc o.bs.length ++ o.bs) := by show encOp o = _; unfold encOp; rw [if_neg (by rw [hk]; decide), if_neg (by rw [hk]; decide), if_neg (by rw [hk]; decide), if_neg (by rw [hk]; decide), if_pos hk]
  have hno : ¬ (o.kind = 4 ∧ 4096 < o.bs.length) := by rintro ⟨_, h'⟩; omega
  have EL := hide (wLaid_no (long := long) (l := l) hno)
  have EG := hide (wLong_no (long := long) hno)
  clear h hi
  unfold opv
  have HBX := hide hbx
  clear hbx hw1
  obtain ⟨va0, van, vac, rfl⟩ := (unhide D1).row.shape
  rw [hk]
  go_enter Try.func11, Try.ntmps11
  go_wp2_with fail
  refine (wbytes_any pv v l long aB cB o.bs _ (unhide D1).wr ((unhide HI).bs.later (unhide D1).below) (unhide HI).nB (fun h0 x hx hm => by have := (unhide D1).mine _ hm; have := mem_lt3 (unhide HI).bs h0 hx; omega) h4 (by omega)).mono ?_
  rintro e w2 ⟨rfl, v2, h2, s2⟩
  have D2 := hide ((unhide D1).step h2 s2)
  have TW2 := hide ((unhide TW).trans (s2.touch.mono (fun k hk => .inl hk)))
  have hbx2 := box_later (unhide HBX) s2 (unhide HM)
  have cy : w2.cell? ⟨w.heap.size, 4, none⟩ = some (.slice aB o.bs.length cB) := by rw [cell_of hbx2]; rfl
  clear h2 s2 hbx2 D1
  go_wp2_with fail
  refine (ebytes_any aB cB o.bs _ ((unhide HI).bs.later (unhide D2).below) (unhide HI).nB (by omega)).mono ?_
  rintro e w3 ⟨v3, rfl, f3⟩
  obtain ⟨X, hX⟩ : ∃ X, X = enc o.bs.length ++ o.bs := ⟨_, rfl⟩
  have hXr : la.length + X.length ≤ 140737488355328 := by rw [hX]; have := enc_len10 (n := o.bs.length) (by omega); rw [List.length_append]; omega
  have HX := hide hX
  rw [← hX] at f3
  clear hX
  have D3 := hide ((unhide D2).later f3.2.2)
  have TW3 := hide ((unhide TW2).trans (Touch.of_below f3.2.2))
  obtain ⟨a3, c3, rfl, l3, _, _, n3, _⟩ := f3.1.parts
  have L3 := hide l3
  clear f3 l3 D2 cy
  go_wp2_with (at_builtin; refine wpList_row _ rfl (.tmp 61) (.tmp 64) rfl _ la rfl (unhide D3).row a3 c3 X rfl (unhide L3) n3 hXr ?_)
  intro v4 w4 r4 t4 m4
  have D4 := (unhide D3).app r4 t4 m4
  have TW4 := hide ((unhide TW3).trans (t4.mono (fun k hk => .inr hk)))
  obtain ⟨x4, y4, z4, rfl⟩ := r4.shape
  have FF : Hid (Duo w0 w4 pv v2 (wLaid long l o) (wLong long o) (.slice x4 y4 z4) (la ++ encOp o)) := by
    show Duo _ _ _ _ _ _ _ _
    rw [unhide EL, unhide EG, unhide EO]
    rw [unhide HX] at D4
    exact D4
  clear r4 t4 m4 D4 D3 L3
  go_wp2
  go_returns
  exact ⟨_, _, rfl, unhide FF, unhide TW4⟩

set_option maxRecDepth 100000 in
set_option maxHeartbeats 1000000 in
theorem lay3_long (h : Duo w0 w pv v l long va la) (hi : OpIn w0 o aB cB aL cL) (hk : o.kind = 4) (h4 : 4096 < o.bs.length) (hr1 : l.length + 20 + o.bs.length + 10 * o.ls.length ≤ 140737488355328) (hr2 : la.length + 20 + o.bs.length + 10 * o.ls.length ≤ 140737488355328) :
    Calls Try.prog 11 #[pv, va, opv o aB cB aL cL] w fun e w' => ∃ v' va', e = .returned va' ∧ Duo w0 w' pv v' (wLaid long l o) (wLong long o) va' (la ++ encOp o) ∧ Touch (fun k => Mine pv v k ∨ va.ownBlock = some k) w w' := by
  have hw1 : Below w.heap.size w (w.alloc (.cells #[.int .i64 4, .int .u64 (o.n : Nat), .int .i64 o.i, .bool o.is, .slice aB o.bs.length cB, .slice aL o.ls.length cL] 30)) := (Below.refl _ _).alloc (Nat.le_refl _) _
  have hbx := heap_new w (.cells #[.int .i64 4, .int .u64 (o.n : Nat), .int .i64 o.i, .bool o.is, .slice aB o.bs.length cB, .slice aL o.ls.length cL] 30)
  have HM : Hid (∀ i, Mine pv v i → i ≠ w.heap.size) := fun i hi' => by have := h.wr.mine i hi'; omega
  have D1 := hide (h.later hw1)
  have TW := hide (Touch.of_below (S := fun k => Mine pv v k ∨ va.ownBlock = some k) hw1)
  have HI := hide hi
  have hf := hi.fits
  have EO : Hid (encOp o = enc o.bs.length ++ o.bs) := by show encOp o = _; unfold encOp; rw [if_neg (by rw [hk]; decide), if_neg (by rw [hk]; decide), if_neg (by rw [hk]; decide), if_neg (by rw [hk]; decide), if_pos hk]
  have EL : Hid (wLaid long l o = []) := by show wLaid long l o = []; unfold wLaid; rw [if_pos ⟨hk, h4⟩]
  have EG : Hid (wLong long o = true) := by show wLong long o = true; unfold wLong; simp [hk, h4]
  clear h hi
  unfold opv
  have HBX := hide hbx
  clear hbx hw1
  obtain ⟨va0, van, vac, rfl⟩ := (unhide D1).row.shape
  rw [hk]
  go_enter Try.func11, Try.ntmps11
  go_wp2_with fail
  refine (wbytes_long pv v l long aB o.bs.length cB _ (unhide D1).wr h4).mono ?_
  rintro e w2 ⟨rfl, h2, s2⟩
  have D2 := hide ((unhide D1).step h2 s2)
  have TW2 := hide ((unhide TW).trans (s2.touch.mono (fun k hk => .inl hk)))
  have hbx2 := box_later (unhide HBX) s2 (unhide HM)
  have cy : w2.cell? ⟨w.heap.size, 4, none⟩ = some (.slice aB o.bs.length cB) := by rw [cell_of hbx2]; rfl
  clear h2 s2 hbx2 D1
  go_wp2_with fail
  refine (ebytes_any aB cB o.bs _ ((unhide HI).bs.later (unhide D2).below) (unhide HI).nB (by omega)).mono ?_
  rintro e w3 ⟨v3, rfl, f3⟩
  obtain ⟨X, hX⟩ : ∃ X, X = enc o.bs.length ++ o.bs := ⟨_, rfl⟩
  have hXr : la.length + X.length ≤ 140737488355328 := by rw [hX]; have := enc_len10 (n := o.bs.length) (by omega); rw [List.length_append]; omega
  have HX := hide hX
  rw [← hX] at f3
  clear hX
  have D3 := hide ((unhide D2).later f3.2.2)
  have TW3 := hide ((unhide TW2).trans (Touch.of_below f3.2.2))
  obtain ⟨a3, c3, rfl, l3, _, _, n3, _⟩ := f3.1.parts
  have L3 := hide l3
  clear f3 l3 D2 cy
  go_wp2_with (at_builtin; refine wpList_row _ rfl (.tmp 61) (.tmp 64) rfl _ la rfl (unhide D3).row a3 c3 X rfl (unhide L3) n3 hXr ?_)
  intro v4 w4 r4 t4 m4
  have D4 := (unhide D3).app r4 t4 m4
  have TW4 := hide ((unhide TW3).trans (t4.mono (fun k hk => .inr hk)))
  obtain ⟨x4, y4, z4, rfl⟩ := r4.shape
  have FF : Hid (Duo w0 w4 pv (.slice none 0 0) (wLaid long l o) (wLong long o) (.slice x4 y4 z4) (la ++ encOp o)) := by
    show Duo _ _ _ _ _ _ _ _
    rw [unhide EL, unhide EG, unhide EO]
    rw [unhide HX] at D4
    exact D4
  clear r4 t4 m4 D4 D3 L3
  go_wp2
  go_returns
  exact ⟨_, _, rfl, unhide FF, unhide TW4⟩

set_option maxRecDepth 100000 in
set_option maxHeartbeats 1000000 in
theorem lay3_ints (h : Duo w0 w pv v l long va la) (hi : OpIn w0 o aB cB aL cL) (hk : ¬ o.kind = 0 ∧ ¬ o.kind = 1 ∧ ¬ o.kind = 2 ∧ ¬ o.kind = 3 ∧ ¬ o.kind = 4) (hr1 : l.length + 20 + o.bs.length + 10 * o.ls.length ≤ 140737488355328) (hr2 : la.length + 20 + o.bs.length + 10 * o.ls.length ≤ 140737488355328) :
    Calls Try.prog 11 #[pv, va, opv o aB cB aL cL] w fun e w' => ∃ v' va', e = .returned va' ∧ Duo w0 w' pv v' (wLaid long l o) (wLong long o) va' (la ++ encOp o) ∧ Touch (fun k => Mine pv v k ∨ va.ownBlock = some k) w w' := by
  have hw1 : Below w.heap.size w (w.alloc (.cells #[.int .i64 o.kind, .int .u64 (o.n : Nat), .int .i64 o.i, .bool o.is, .slice aB o.bs.length cB, .slice aL o.ls.length cL] 30)) := (Below.refl _ _).alloc (Nat.le_refl _) _
  have hbx := heap_new w (.cells #[.int .i64 o.kind, .int .u64 (o.n : Nat), .int .i64 o.i, .bool o.is, .slice aB o.bs.length cB, .slice aL o.ls.length cL] 30)
  have HM : Hid (∀ i, Mine pv v i → i ≠ w.heap.size) := fun i hi' => by have := h.wr.mine i hi'; omega
  have D1 := hide (h.later hw1)
  have TW := hide (Touch.of_below (S := fun k => Mine pv v k ∨ va.ownBlock = some k) hw1)
  have HI := hide hi
  have hf := hi.fits
  have EO : Hid (encOp o = enc o.ls.length ++ encL o.ls) := by show encOp o = _; unfold encOp; rw [if_neg hk.1, if_neg hk.2.1, if_neg hk.2.2.1, if_neg hk.2.2.2.1, if_neg hk.2.2.2.2]
  have hno : ¬ (o.kind = 4 ∧ 4096 < o.bs.length) := by rintro ⟨h4, _⟩; exact hk.2.2.2.2 h4
  have EL := hide (wLaid_no (long := long) (l := l) hno)
  have EG := hide (wLong_no (long := long) hno)
  clear h hi
  unfold opv
  have HBX := hide hbx
  clear hbx hw1
  obtain ⟨va0, van, vac, rfl⟩ := (unhide D1).row.shape
  obtain ⟨k0, k1, k2, k3, k4⟩ := hk
  go_enter Try.func11, Try.ntmps11
  go_wp2_with fail
  refine (wints_any pv v l long aL cL o.ls _ (unhide D1).wr ((unhide HI).ls.later (unhide D1).below) (fun h0 x hx hm => by have := (unhide D1).mine _ hm; have := imem_lt3 (unhide HI).ls h0 hx; omega) hf.ls (by omega) (.inl (by omega))).mono ?_
  rintro e w2 ⟨rfl, v2, h2, s2⟩
  have D2 := hide ((unhide D1).step h2 s2)
  have TW2 := hide ((unhide TW).trans (s2.touch.mono (fun k hk => .inl hk)))
  have hbx2 := box_later (unhide HBX) s2 (unhide HM)
  have cy : w2.cell? ⟨w.heap.size, 5, none⟩ = some (.slice aL o.ls.length cL) := by rw [cell_of hbx2]; rfl
  clear h2 s2 hbx2 D1
  go_wp2_with fail
  refine (eints_any aL cL o.ls _ ((unhide HI).ls.later (unhide D2).below) hf.ls (by omega)).mono ?_
  rintro e w3 ⟨v3, rfl, f3⟩
  obtain ⟨X, hX⟩ : ∃ X, X = enc o.ls.length ++ encL o.ls := ⟨_, rfl⟩
  have hXr : la.length + X.length ≤ 140737488355328 := by rw [hX]; have := enc_len10 (n := o.ls.length) (by omega); have := encL_len o.ls hf.ls; rw [List.length_append]; omega
  have HX := hide hX
  rw [← hX] at f3
  clear hX
  have D3 := hide ((unhide D2).later f3.2.2)
  have TW3 := hide ((unhide TW2).trans (Touch.of_below f3.2.2))
  obtain ⟨a3, c3, rfl, l3, _, _, n3, _⟩ := f3.1.parts
  have L3 := hide l3
  clear f3 l3 D2 cy
  go_wp2_with (at_builtin; refine wpList_row _ rfl (.tmp 70) (.tmp 73) rfl _ la rfl (unhide D3).row a3 c3 X rfl (unhide L3) n3 hXr ?_)
  intro v4 w4 r4 t4 m4
  have D4 := (unhide D3).app r4 t4 m4
  have TW4 := hide ((unhide TW3).trans (t4.mono (fun k hk => .inr hk)))
  obtain ⟨x4, y4, z4, rfl⟩ := r4.shape
  have FF : Hid (Duo w0 w4 pv v2 (wLaid long l o) (wLong long o) (.slice x4 y4 z4) (la ++ encOp o)) := by
    show Duo _ _ _ _ _ _ _ _
    rw [unhide EL, unhide EG, unhide EO]
    rw [unhide HX] at D4
    exact D4
  clear r4 t4 m4 D4 D3 L3
  go_wp2
  go_returns
  exact ⟨_, _, rfl, unhide FF, unhide TW4⟩

theorem lay3_any (h : Duo w0 w pv v l long va la) (hi : OpIn w0 o aB cB aL cL) (hr1 : l.length + 20 + o.bs.length + 10 * o.ls.length ≤ 140737488355328) (hr2 : la.length + 20 + o.bs.length + 10 * o.ls.length ≤ 140737488355328) :
    Calls Try.prog 11 #[pv, va, opv o aB cB aL cL] w fun e w' => ∃ v' va', e = .returned va' ∧ Duo w0 w' pv v' (wLaid long l o) (wLong long o) va' (la ++ encOp o) ∧ Touch (fun k => Mine pv v k ∨ va.ownBlock = some k) w w' := by
  by_cases k0 : o.kind = 0
  · exact lay3_uint h hi k0 hr1 hr2
  by_cases k1 : o.kind = 1
  · exact lay3_int h hi k1 hr1 hr2
  by_cases k2 : o.kind = 2
  · exact lay3_flag h hi k2 hr1 hr2
  by_cases k3 : o.kind = 3
  · exact lay3_fix h hi k3 hr1 hr2
  by_cases k4 : o.kind = 4
  · by_cases h4 : o.bs.length ≤ 4096
    · exact lay3_bytes h hi k4 h4 hr1 hr2
    · exact lay3_long h hi k4 (by omega) hr1 hr2
  · exact lay3_ints h hi ⟨k0, k1, k2, k3, k4⟩ hr1 hr2
end
end Go.Proofs.Ytnhociggoagpoaa
