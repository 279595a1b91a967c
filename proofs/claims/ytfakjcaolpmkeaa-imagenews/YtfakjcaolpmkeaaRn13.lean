/-
  The document's image, as New makes it. Conditions: numbers that may be.
-/
import Derived.Test.YtfakjcaolpmkeaaOn13
import Derived.Test.YtfakjcaolpmkeaaIg6
import Derived.Deep.CutBlock
namespace Go.Proofs.Ytfakjcaolpmkeaa
open Go.RowKit Go.Maps
set_option linter.unusedVariables false

theorem bool_info : ∃ i z, Try.prog.info? 4 = some i ∧ i.zero = some z ∧ i.size = 1 ∧ i.bytes = 1 ∧ z.cells = #[.bool false] := by
  have h : (Try.prog.info? 4).map (fun i => (i.zero.map (fun z => z.cells), i.size, i.bytes)) = some (some #[.bool false], 1, 1) := by kernel_rfl
  cases hi : Try.prog.info? 4 with
  | none => rw [hi] at h; simp at h
  | some i =>
    rw [hi] at h
    simp only [Option.map_some, Option.some.injEq, Prod.mk.injEq] at h
    obtain ⟨h1, h2, h3⟩ := h
    cases hz : i.zero with
    | none => rw [hz] at h1; simp at h1
    | some z => rw [hz] at h1; exact ⟨i, z, rfl, hz, h2, h3, by simpa using h1⟩
theorem int_info : ∃ i z, Try.prog.info? 3 = some i ∧ i.zero = some z ∧ i.size = 1 ∧ i.bytes = 8 ∧ z.cells = #[.int .i64 0] := by
  have h : (Try.prog.info? 3).map (fun i => (i.zero.map (fun z => z.cells), i.size, i.bytes)) = some (some #[.int .i64 0], 1, 8) := by kernel_rfl
  cases hi : Try.prog.info? 3 with
  | none => rw [hi] at h; simp at h
  | some i =>
    rw [hi] at h
    simp only [Option.map_some, Option.some.injEq, Prod.mk.injEq] at h
    obtain ⟨h1, h2, h3⟩ := h
    cases hz : i.zero with
    | none => rw [hz] at h1; simp at h1
    | some z => rw [hz] at h1; exact ⟨i, z, rfl, hz, h2, h3, by simpa using h1⟩
theorem u64_info : ∃ i z, Try.prog.info? 35 = some i ∧ i.zero = some z ∧ i.size = 1 ∧ i.bytes = 8 ∧ z.cells = #[.int .u64 0] := by
  have h : (Try.prog.info? 35).map (fun i => (i.zero.map (fun z => z.cells), i.size, i.bytes)) = some (some #[.int .u64 0], 1, 8) := by kernel_rfl
  cases hi : Try.prog.info? 35 with
  | none => rw [hi] at h; simp at h
  | some i =>
    rw [hi] at h
    simp only [Option.map_some, Option.some.injEq, Prod.mk.injEq] at h
    obtain ⟨h1, h2, h3⟩ := h
    cases hz : i.zero with
    | none => rw [hz] at h1; simp at h1
    | some z => rw [hz] at h1; exact ⟨i, z, rfl, hz, h2, h3, by simpa using h1⟩
/-- make([]T, n) of things of one cell. -/
theorem made_one {t e : TypeId} {i : TypeInfo} {z x : Value} {b : Nat} (hu : Try.prog.underlying t = some (.slice e)) (hi : Try.prog.info? e = some i) (hz : i.zero = some z) (hs : i.size = 1) (hb : i.bytes = b) (hb8 : b ≤ 8) (hc : z.cells = #[x]) {n : Nat} (h1 : 1 ≤ n) (h2 : n ≤ 5) : ∃ NA : Array Value, (∀ j, j < n → NA[j]? = some x) ∧
    ∀ W : World, (Instr.makeSlice t (.int .i64 (n : Int)) (.int .i64 (n : Int))).run Try.prog W = .ok (.slice (some ⟨W.heap.size, 0, none⟩) n n) (W.alloc (.cells NA e)) := by
  refine ⟨madeCells z.cells (n * 1), ?_, fun W => ?_⟩
  · rw [hc]
    intro j hj
    have : n = 1 ∨ n = 2 ∨ n = 3 ∨ n = 4 ∨ n = 5 := by omega
    have hj' : j = 0 ∨ j = 1 ∨ j = 2 ∨ j = 3 ∨ j = 4 := by omega
    rcases this with rfl | rfl | rfl | rfl | rfl <;> rcases hj' with rfl | rfl | rfl | rfl | rfl <;> first | omega | (simp [madeCells]; done) | rfl
  · have h8 : ((b * n : Nat) : Int) ≤ 40 := by have : b * n ≤ 8 * 5 := Nat.mul_le_mul hb8 h2; omega
    have h9 : (b : Int) * (n : Int) ≤ 281474976710656 := by rw [← Int.natCast_mul]; omega
    have := run_makeSlice (P := Try.prog) W t e i z hu hi hz .i64 .i64 n n (by omega) (Int.le_refl _) (by rw [hs, Int.toNat_natCast]; omega) (by rw [hb]; exact h9) (by omega)
    rw [hs, Int.toNat_natCast] at this
    exact this
/-- A part of the document's: its two lists are one. -/
structure DPt (W : World) (p : Pm) : Prop where
  li : IL W p.vi p.q.is
  vr : p.vr = p.vi
  rs : p.q.rs = p.q.is
  vt : p.vt = .slice none 0 0
  ts : p.q.ts = []
/-- The document's image of n nodes, none of which is there, with these partitions. -/
structure DN (w W : World) (rb n : Nat) (pv : Value) (ps : List Pm) : Prop where
  ex : ∃ ab cb bb, W.heap[rb]? = some (.cells #[.slice (some ⟨ab, 0, none⟩) n n, .slice (some ⟨cb, 0, none⟩) n n, .slice (some ⟨bb, 0, none⟩) n n, pv, .int .u64 1, .int .i64 0] 46) ∧
    (∃ cs, W.heap[ab]? = some (.cells cs 4) ∧ ∀ j, j < n → cs[j]? = some (.bool false)) ∧
    (∃ cs, W.heap[cb]? = some (.cells cs 3) ∧ ∀ j, j < n → cs[j]? = some (.int .i64 0)) ∧
    (∃ cs, W.heap[bb]? = some (.cells cs 35) ∧ ∀ j, j < n → cs[j]? = some (.int .u64 0))
  row : Wide W 42 6 pv ps.length (ps.flatMap pmC)
  new : New w pv
  each : ∀ p ∈ ps, DPt W p
  rbn : w.heap.size ≤ rb
  below : Below w.heap.size w W
theorem DPt.later {W W' : World} {p : Pm} (h : DPt W p) (b : Below W.heap.size W W') : DPt W' p := ⟨h.li.later b, h.vr, h.rs, h.vt, h.ts⟩
theorem DPt.keep {W W' : World} {p : Pm} {S : Nat → Prop} (h : DPt W p) (t : Touch S W W') (hs : ∀ k, p.vi.ownBlock = some k → ¬ S k) : DPt W' p := ⟨h.li.keep t hs, h.vr, h.rs, h.vt, h.ts⟩
theorem DN.later {w W W' : World} {rb n : Nat} {pv : Value} {ps : List Pm} (h : DN w W rb n pv ps) (b : Below W.heap.size W W') : DN w W' rb n pv ps := by
  obtain ⟨ab, cb, bb, h1, ⟨c1, h2, h3⟩, ⟨c2, h4, h5⟩, ⟨c3, h6, h7⟩⟩ := h.ex
  exact ⟨⟨ab, cb, bb, below_keep b h1, ⟨c1, below_keep b h2, h3⟩, ⟨c2, below_keep b h4, h5⟩, ⟨c3, below_keep b h6, h7⟩⟩, h.row.later b, h.new, fun p hp => (h.each p hp).later b, h.rbn, h.below.trans (b.mono h.below.size)⟩
theorem DN.push {w W W2 W3 : World} {rb n : Nat} {pv : Value} {ps : List Pm} (h0 : DN w W rb n pv ps) (b : Below W.heap.size W W2) {p : Pm} (hp : DPt W2 p) {pv' : Value}
    (hw : Wide W3 42 6 pv' (ps.length + 1) (ps.flatMap pmC ++ pmC p)) (t : Touch (fun k => pv.ownBlock = some k) W2 W3) (mv : Moved W2 pv pv') : DN w (W3.setCell ⟨rb, 3, none⟩ pv') rb n pv' (ps ++ [p]) := by
  have h := h0.later b
  obtain ⟨ab, cb, bb, h1, ⟨c1, h2, h3⟩, ⟨c2, h4, h5⟩, ⟨c3, h6, h7⟩⟩ := h.ex
  have nt : ∀ {k : Nat} {cs : Array Value} {T : TypeId}, W2.heap[k]? = some (.cells cs T) → T ≠ 42 → ¬ pv.ownBlock = some k := fun hk hT e => by
    obtain ⟨cs', e'⟩ := h.row.heap e
    exact hT (ty_ne hk e')
  have t2 := touch_set W3 rb 3 pv'
  have o3 := t.keep h1 (nt h1 (by decide))
  have a3 := t.keep h2 (nt h2 (by decide))
  have b3 := t.keep h4 (nt h4 (by decide))
  have d3 := t.keep h6 (nt h6 (by decide))
  have e4 : ∀ {q : Pm}, DPt W2 q → DPt (W3.setCell ⟨rb, 3, none⟩ pv') q := fun hq => by
    have q3 := hq.keep t (fun k hk e => by
      obtain ⟨cs', e'⟩ := hq.li.heap hk
      exact nt e' (by decide) e)
    exact q3.keep t2 (fun k hk e => by
      obtain ⟨cs', e'⟩ := q3.li.heap hk
      rw [e] at e'
      exact absurd (ty_ne e' o3) (by decide))
  refine ⟨⟨ab, cb, bb, by rw [heap_set o3]; rfl, ⟨c1, t2.keep a3 (fun e => ?_), h3⟩, ⟨c2, t2.keep b3 (fun e => ?_), h5⟩, ⟨c3, t2.keep d3 (fun e => ?_), h7⟩⟩, ?_, fun k hk => ?_, fun q hq => ?_, h.rbn, ?_⟩
  · rw [e] at a3; exact absurd (ty_ne a3 o3) (by decide)
  · rw [e] at b3; exact absurd (ty_ne b3 o3) (by decide)
  · rw [e] at d3; exact absurd (ty_ne d3 o3) (by decide)
  · have := hw.keep t2 (fun k hk e => by
      obtain ⟨cs', e'⟩ := hw.heap hk
      rw [e] at e'
      exact absurd (ty_ne e' o3) (by decide))
    simpa using this
  · rcases mv k hk with e | e
    · exact h.new k e
    · exact Nat.le_trans h.below.size e
  · rcases List.mem_append.1 hq with hq | hq
    · exact e4 (h.each q hq)
    · simp at hq; rw [hq]; exact e4 hp
  · have q1 := below_touch h.below t h.below.size (fun k hk => h.new k hk)
    exact below_touch q1 t2 q1.size (fun k hk => by rw [hk]; exact h.rbn)
theorem dn0 {w W : World} {rb n ab cb bb : Nat} {c1 c2 c3 : Array Value} (h1 : W.heap[rb]? = some (.cells #[.slice (some ⟨ab, 0, none⟩) n n, .slice (some ⟨cb, 0, none⟩) n n, .slice (some ⟨bb, 0, none⟩) n n, .slice none 0 0, .int .u64 1, .int .i64 0] 46))
    (h2 : W.heap[ab]? = some (.cells c1 4)) (h3 : ∀ j, j < n → c1[j]? = some (.bool false)) (h4 : W.heap[cb]? = some (.cells c2 3)) (h5 : ∀ j, j < n → c2[j]? = some (.int .i64 0)) (h6 : W.heap[bb]? = some (.cells c3 35)) (h7 : ∀ j, j < n → c3[j]? = some (.int .u64 0))
    (hr : w.heap.size ≤ rb) (hb : Below w.heap.size w W) : DN w W rb n (.slice none 0 0) [] :=
  ⟨⟨ab, cb, bb, h1, ⟨c1, h2, h3⟩, ⟨c2, h4, h5⟩, ⟨c3, h6, h7⟩⟩, Wide.nil _ _ _, New.nil _, (fun p hp => by cases hp), hr, hb⟩
/-- What the document's New leaves. -/
def DNewP (w : World) (n p c : Nat) (e : Ending) (w' : World) : Prop := ∃ rb pv ps, e = .returned (.tuple #[.pointer (some ⟨rb, 0, none⟩), .int .i64 0]) ∧ DN w w' rb n pv ps ∧ ps.map Pm.q = (List.range p).map (newP n c)
end Go.Proofs.Ytfakjcaolpmkeaa
