/-
  seglog's Put of a batch of three empty values into a log without a segment. Conditions: what the log and its disk are.
-/
import Derived.Test.YtkcoeofbobkaoabGreatDoorOp9
import Derived.Test.YtkcoeofbobkaoabGreatDoorEn7

/-
  seglog's fits, mend and lay of a log without a segment. Conditions: what the log is.
-/
namespace Go.Proofs.YtkcoeofbobkaoabGreatDoor
open Go.RowKit
set_option linter.unusedVariables false

theorem Lg0.went' {B : Nat} {w w' : World} {lb db : Nat} {S : Nat → Prop} {d d' : Dk} {nm : ByteArray} (h : Lg0 B w lb db S d nm) (g : Went w w' db S d') : ∃ S', Lg0 B w' lb db S' d' nm ∧ Below B w w' ∧ Touch S w w' ∧ ∀ k, S' k → S k ∨ w.heap.size ≤ k := by
  obtain ⟨S', d1, t1, m1⟩ := g
  have hlb := h.ready.lt
  refine ⟨S', ⟨h.ready.keep t1 h.ne, d1, fun hk => ?_, fun k hk => ?_, h.lB, Nat.le_trans h.le t1.size⟩, below_touch (Below.refl _ _) t1 h.le h.sB, t1, m1⟩
  · rcases m1 _ hk with e | e
    · exact h.ne e
    · omega
  · rcases m1 _ hk with e | e
    · exact h.sB k e
    · exact Nat.le_trans h.le e
section
variable {B : Nat} {w : World} {lb db : Nat} {S : Nat → Prop} {d : Dk}
set_option maxRecDepth 100000 in
set_option maxHeartbeats 1000000 in
theorem fits0 (h : Lg0 B w lb db S d p0) (hE : findE d.dead d.fs f0 = 4) :
    Calls Tryz.prog 85 #[.pointer (some ⟨lb, 0, none⟩)] w fun e w' => AnsPost w (.bool true) e w' := by
  obtain ⟨x0, x1, x2⟩ := h.ready.outer
  simp only at x0 x1 x2
  have hlb := h.ready.lt
  have X0 := hide x0
  have EN : Hid (∀ W, Below w.heap.size w W → Calls Tryz.prog 14 #[.pointer (some ⟨lb, 0, none⟩)] W fun e w' => e = .returned (.int .i64 0) ∧ Below w.heap.size w w') := fun W hb => (end0 (h.later hb)).mono fun e w' h => ⟨h.1, by rw [h.2]; exact hb⟩
  have FI : Hid (∀ W, Below w.heap.size w W → Calls Tryz.prog 86 #[.pointer (some ⟨lb, 0, none⟩), .int .i64 0] W fun e w' => e = .returned (.string f0) ∧ Below w.heap.size w w') := fun W hb => by
    have := file_any (i := 0) (h.later hb).ready.outer.2.1 (by decide) (h.later hb).ready.lt (by omega)
    rw [fileN_zero] at this
    exact this.mono fun e w' h => ⟨h.1, hb.trans (h.2.mono hb.size)⟩
  have SI : Hid (∀ W, Below w.heap.size w W → Calls Tryz.prog 13 #[.pointer (some ⟨db, 0, none⟩), .string f0] W fun e w' => e = .returned (.tuple #[.int .i64 0, .int .i64 0, .int .i64 4]) ∧ Below w.heap.size w w') := fun W hb => by
    have := dsize_any (s := f0) (h.later hb).disk (by decide)
    rw [hE] at this
    have e0 : rdF d f0 = ⟨f0, [], 0⟩ := by unfold rdF; rw [hE, if_neg (by omega)]
    rw [e0] at this
    exact this.mono fun e w' h => ⟨h.1, by obtain ⟨n, hn⟩ := h.2; rw [hn]; exact below_drewN3 hb n⟩
  clear h
  go_enter Tryz.func85, Tryz.ntmps85
  go_wp2_with fail
  go_region_held3 (fun w' => w'.cell? ⟨lb, 0, none⟩ = some (.pointer (some ⟨db, 0, none⟩))) (first | exact unhide X0 | exact (Below.cell (p := ⟨lb, 0, none⟩) (by first | assumption | go_grown) hlb).trans (unhide X0)) (first
    | (go_at_call 13; refine (unhide SI _ (by first | assumption | go_grown)).mono ?_; rintro e w3 ⟨rfl, b3'⟩)
    | (go_at_call 86; refine (unhide FI _ (by first | assumption | go_grown)).mono ?_; rintro e w2 ⟨rfl, b2⟩)
    | (go_at_call 14; refine (unhide EN _ (by first | assumption | go_grown)).mono ?_; rintro e w1 ⟨rfl, b1⟩))
  all_goals
    have B3 := hide b3'
    clear b3'
    go_wp2
    go_returns
    exact AnsPost.mk rfl (unhide B3)
theorem mend0 (h : Lg0 B w lb db S d p0) (hdd : d.dead = false) (hE : findE d.dead d.fs f0 = 4) :
    Calls Tryz.prog 53 #[.pointer (some ⟨lb, 0, none⟩)] w fun e w' => AnsPost w (.int .i64 0) e w' := by
  obtain ⟨x0, x1, x2⟩ := h.ready.outer
  simp only at x0 x1 x2
  have DD := ddead_any h.disk
  rw [hdd] at DD
  have D1 := hide DD
  have FT := hide (fits0 h hE)
  clear h DD
  go_enter Tryz.func53, Tryz.ntmps53
  go_wp2_with fail
  refine (unhide D1).mono ?_
  rintro e w1 ⟨rfl, rfl⟩
  go_wp2_with fail
  refine (unhide FT).mono ?_
  rintro e w1 ⟨rfl, b1⟩
  have B1 := hide b1
  clear b1
  go_wp2
  go_returns
  exact AnsPost.mk rfl (unhide B1)
/-- What lay leaves of a log without a segment. -/
def LaPost (B : Nat) (w : World) (lb db : Nat) (S : Nat → Prop) (d : Dk) (e : Ending) (w' : World) : Prop := e = .returned (.int .i64 0) ∧ ∃ S' gs cap, Lg1 B w' lb db S' d p0 gs cap s0 ∧ Below B w w' ∧ Touch (fun k => S k ∨ k = lb) w w' ∧ ∀ k, S' k → S k ∨ w.heap.size ≤ k
set_option maxRecDepth 100000 in
set_option maxHeartbeats 1000000 in
theorem lay0 (h : Lg0 B w lb db S d p0) {a : Option Addr} {cap : Nat} {t : List Nat} (ht : LAt w a t) (hn : a = none → cap = 0) (hc : t.length ≤ cap) (hs : 0 < t.length → ∀ x, a = some x → ¬ S x.block) (hA : apE d f0 t.length = 0) :
    Calls Tryz.prog 54 #[.pointer (some ⟨lb, 0, none⟩), .int .i64 0, .slice a t.length cap] w fun e w' => LaPost B w lb db S (apD d f0 t) e w' := by
  obtain ⟨x0, x1, x2⟩ := h.ready.outer
  simp only at x0 x1 x2
  have hlb := h.ready.lt
  have X0 := hide x0
  have FI : Hid (∀ W, Below w.heap.size w W → Calls Tryz.prog 86 #[.pointer (some ⟨lb, 0, none⟩), .int .i64 0] W fun e w' => e = .returned (.string f0) ∧ Below w.heap.size w w') := fun W hb => by
    have := file_any (i := 0) (h.later hb).ready.outer.2.1 (by decide) (h.later hb).ready.lt (by omega)
    rw [fileN_zero] at this
    exact this.mono fun e w' h => ⟨h.1, hb.trans (h.2.mono hb.size)⟩
  have AP : Hid (∀ W, Below w.heap.size w W → Calls Tryz.prog 11 #[.pointer (some ⟨db, 0, none⟩), .string f0, .slice a t.length cap] W fun e w' => e = .returned (.int .i64 0) ∧ ∃ S', Lg0 B w' lb db S' (apD d f0 t) p0 ∧ Below B w w' ∧ Touch S w w' ∧ ∀ k, S' k → S k ∨ w.heap.size ≤ k) := fun W hb => by
    have := dappend_any (s := f0) (h.later hb).disk (by decide) (ht.later hb) hn hc hs
    rw [hA] at this
    exact this.mono fun e w' hh => ⟨hh.1, by
      obtain ⟨S', l1, bl, tt, mm⟩ := (h.later hb).went' hh.2
      exact ⟨S', l1, (hb.mono h.le).trans bl, (Touch.of_below (S := S) hb).trans tt, fun k hk => (mm k hk).imp id (fun e => Nat.le_trans hb.size e)⟩⟩
  clear h ht
  generalize t.length = L at *
  go_enter Tryz.func54, Tryz.ntmps54
  go_wp2_with fail
  go_region_held3 (fun w' => w'.cell? ⟨lb, 0, none⟩ = some (.pointer (some ⟨db, 0, none⟩))) (first | exact unhide X0 | exact (unhide L2).ready.outer.1 | exact (Below.cell (p := ⟨lb, 0, none⟩) (by first | assumption | go_grown) hlb).trans (unhide X0)) (first
    | (go_at_call 11; refine (unhide AP _ (by first | assumption | go_grown)).mono ?_; rintro e w2 ⟨rfl, S2, l2, bl2, tt2, mm2⟩; have L2 := hide l2; have BL2 := hide bl2; have TT2 := hide tt2; have MM2 := hide mm2; clear l2 bl2 tt2 mm2)
    | (go_at_call 86; refine (unhide FI _ (by first | assumption | go_grown)).mono ?_; rintro e w1 ⟨rfl, b1⟩))
  all_goals
    obtain ⟨y0, y1, y2⟩ := (unhide L2).ready.outer
    simp only at y0 y1 y2
    have hl2 : lb < w2.heap.size := (unhide L2).ready.lt
    obtain ⟨lcs, lh⟩ := (unhide L2).ready.heap
    have LH := hide lh
    clear lh AP FI X0
    obtain ⟨si, sz, hi, hz, hsz, hby, hzs⟩ := seg_info
    have HI := hide hi
    have HZ := hide hz
    clear hi hz
    have SRC : Hid (∀ j u, ([.int .i64 0, .slice none 0 0, .int .i64 0] : List Value)[j]? = some u → (w2.alloc (.cells #[.int .i64 0, .slice none 0 0, .int .i64 0] 104)).cell? ⟨w2.heap.size, 0 + j, none⟩ = some u) := fun j u hj => by
      rw [cell_of (heap_new _ _), Nat.zero_add, ← Array.getElem?_toList]
      exact hj
    have ONE : Hid (∀ u ∈ ([.int .i64 0, .slice none 0 0, .int .i64 0] : List Value), u.oneCell' = true) := by intro u hu; simp at hu; rcases hu with rfl | rfl | rfl <;> rfl
    go_wp2_with (at_builtin; refine wpList_wide _ rfl (.tmp 63) (.tmp 66) 95 rfl 104 si sz 3 40 Tryz.underlying95 (unhide HI) (unhide HZ) hsz hby hzs (by omega) (.slice none 0 0) 0 [] rfl (Wide.nil _ _ _) w2.heap.size 0 1 [.int .i64 0, .slice none 0 0, .int .i64 0] rfl rfl (unhide SRC) (unhide ONE) (by decide) (by decide) ?_)
    intro v4 w4 o4 t4 m4
    have hA : Below w2.heap.size w2 (w2.alloc (.cells #[.int .i64 0, .slice none 0 0, .int .i64 0] 104)) := (Below.refl _ _).alloc (Nat.le_refl _) _
    have b4 : Below w2.heap.size w2 w4 := below_touch hA t4 (by simp) (fun k hk => by simp [Value.ownBlock] at hk)
    have q4 : w4.cell? ⟨lb, 261, none⟩ = some (.slice none 0 0) := (b4.cell (p := ⟨lb, 261, none⟩) hl2).trans y2
    have z4 : w4.frozen? ⟨lb, 261, none⟩ = false := ((unhide L2).later b4).ready.frozen 261
    obtain ⟨a11, c11, e11, _, _, _, _, hp11⟩ := o4.parts
    obtain ⟨gs, ha11, hgl, _, _⟩ := hp11 (by omega)
    subst e11
    subst ha11
    have hgs : w2.heap.size ≤ gs := by
      rcases m4 gs rfl with e | e
      · simp [Value.ownBlock] at e
      · simp at e; omega
    have l2 := unhide L2
    have LG : Hid (Lg1 B (w4.setCell ⟨lb, 261, none⟩ (.slice (some ⟨gs, 0, none⟩) 1 c11)) lb db S2 (apD d f0 t) p0 gs c11 s0) :=
      lg1_of (u := w2) (l2.later b4).ready (l2.later b4).disk l2.ne l2.sB l2.lB l2.le o4 hgs (fun k hk => l2.disk.lt k hk) hl2 b4.size (Wide.nil _ _ _) (fun x hx => by cases hx) (by simp) (by simp) (fun k hk => by simp [Value.ownBlock] at hk) (fun x hx => by cases hx)
    have F : Hid (LaPost B w lb db S (apD d f0 t) (.returned (.int .i64 0)) (w4.setCell ⟨lb, 261, none⟩ (.slice (some ⟨gs, 0, none⟩) 1 c11))) := ⟨rfl, S2, gs, c11, unhide LG, below_touch ((unhide BL2).trans (b4.mono l2.le)) (touch_set w4 lb 261 (.slice (some ⟨gs, 0, none⟩) 1 c11)) (Nat.le_trans (Nat.le_trans l2.le b4.size) (Nat.le_refl _)) (fun k hk => by rw [hk]; exact l2.lB), touch_new (touch_new ((unhide TT2).mono (fun k hk => .inl hk)) (Touch.of_below (S := fun _ => False) b4) (fun k hk => hk.elim)) (touch_set w4 lb 261 (.slice (some ⟨gs, 0, none⟩) 1 c11)) (fun k hk => .inl (.inr hk)), unhide MM2⟩
    clear l2 LG o4 t4 m4 b4 hA hp11 L2 BL2 TT2 MM2 SRC ONE HI HZ LH y0 y1 y2
    go_wp2
    go_returns
    exact unhide F
end
end Go.Proofs.YtkcoeofbobkaoabGreatDoor


namespace Go.Proofs.YtkcoeofbobkaoabGreatDoor
open Go.RowKit
set_option linter.unusedVariables false

section
variable {B : Nat} {w w' : World} {lb db : Nat} {S : Nat → Prop} {d : Dk} {nm : ByteArray} {gs cap : Nat} {s : Sg}
theorem Lg1.heapG (h : Lg1 B w lb db S d nm gs cap s) : ∃ cs, w.heap[gs]? = some (.cells cs 104) := h.row.heap rfl
theorem Lg1.added (h : Lg1 B w lb db S d nm gs cap s) {x : Ld} {v' : Value} {cs : Array Value} (h1 : SgP w' gs 0 ⟨s.base, v', s.ls ++ [x], s.last⟩) (hH : w.heap[gs]? = some (.cells cs 104)) (h2 : w'.heap[gs]? = some (.cells (cs.setIfInBounds 1 v') 104)) (t : Touch (fun k => k = gs ∨ s.v.ownBlock = some k) w w') (m : Moved w s.v v') (hx : Held S w (.slice x.a x.b.vs.length x.cap) x.b.vs) :
    Lg1 B w' lb db S d nm gs cap ⟨s.base, v', s.ls ++ [x], s.last⟩ ∧ Below B w w' := by
  obtain ⟨lcs, hlh⟩ := h.ready.heap
  have hS : ∀ k, S k → ¬ (k = gs ∨ s.v.ownBlock = some k) := fun k hk e => by
    rcases e with e | e
    · exact h.neg (e ▸ hk)
    · exact h.nev k e hk
  have hlbn : ¬ (lb = gs ∨ s.v.ownBlock = some lb) := fun e => by
    rcases e with e | e
    · rw [e, hH] at hlh; exact absurd (Obj.cells.inj (Option.some.inj hlh)).2.1 (by decide)
    · exact wide_not h.sg.row hlh (by decide) lb e rfl
  have hheld : ∀ y : Ld, Held S w (.slice y.a y.b.vs.length y.cap) y.b.vs → Held S w' (.slice y.a y.b.vs.length y.cap) y.b.vs := fun y hy => by
    obtain ⟨us, sp, hv⟩ := hy
    have hw : Wide w 23 1 (.slice y.a y.b.vs.length y.cap) us.length us := sp.own
    refine ⟨us, (sp.keep t (fun k hk e => ?_)).imp (fun u l hu => ⟨hu.1.keep t (fun k hk e => ?_), hu.2⟩), hv⟩
    · rcases e with e | e
      · exact wide_not hw hH (by decide) k hk e
      · obtain ⟨cs', h'⟩ := h.sg.row.heap e
        exact wide_not hw h' (by decide) k hk rfl
    · rcases e with e | e
      · exact row_not hu.1 hH (by decide) k hk e
      · obtain ⟨cs', h'⟩ := h.sg.row.heap e
        exact row_not hu.1 h' (by decide) k hk rfl
  refine ⟨⟨h.ready.keep t hlbn, h.disk.keep t hS, ?_, h1, fun y hy => ?_, h.ne, h.neg, fun k hk => ?_, h.sB, h.lB, h.gB, fun k hk => ?_, Nat.le_trans h.le t.size⟩, below_touch (Below.refl _ _) t h.le (fun k hk => ?_)⟩
  · obtain ⟨hl, hr⟩ := h.row
    rcases hr with ⟨e, _⟩ | ⟨g', cap', cur, e, hb, hgg, hn, hm, hs, ht⟩
    · cases e
    · cases e
      rw [hH] at hgg
      cases hgg
      refine ⟨rfl, .inr ⟨gs, cap, _, rfl, Nat.zero_le _, h2, hn, hm, by simpa using hs, ?_⟩⟩
      rw [Array.toList_setIfInBounds, List.take_set, ht]
      rfl
  · rcases List.mem_append.1 hy with e | e
    · exact hheld y (h.vals y e)
    · rw [List.mem_singleton] at e; rw [e]; exact hheld x hx
  · rcases m k hk with e | e
    · exact h.nev k e
    · intro hk'; have := h.disk.lt k hk'; omega
  · rcases m k hk with e | e
    · exact h.vB k e
    · exact Nat.le_trans h.le e
  · rcases hk with e | e
    · rw [e]; exact h.gB
    · exact h.vB k e
end
def PuPost (B : Nat) (w : World) (lb db : Nat) (e : Ending) (w' : World) : Prop := e = .returned (.int .i64 0) ∧ ∃ S' gs cap v a c, Lg1 B w' lb db S' (one f0 t3 0) p0 gs cap ⟨0, v, [⟨b3, 20, a, c⟩], 0⟩ ∧ Below B w w'
theorem nils_at {w : World} {vb : Nat} (h : w.heap[vb]? = some (.cells #[.slice none 0 0, .slice none 0 0, .slice none 0 0] 23)) : RAt w (some ⟨vb, 0, none⟩) b3.vs := by
  intro i hi
  have hi' : i < 3 := hi
  refine ⟨vb, 0, .slice none 0 0, rfl, lt_of_heap h, ?_, ⟨none, 0, ?_, fun j hj => ?_, fun _ => rfl⟩⟩
  · rw [cell_of h, Nat.zero_add]
    match i, hi' with
    | 0, _ => rfl
    | 1, _ => rfl
    | 2, _ => rfl
  · match i, hi' with
    | 0, _ => rfl
    | 1, _ => rfl
    | 2, _ => rfl
  · match i, hi' with
    | 0, _ => cases hj
    | 1, _ => cases hj
    | 2, _ => cases hj
section
variable {B : Nat} {w : World} {lb db : Nat} {S : Nat → Prop} {vb : Nat}
set_option maxRecDepth 100000 in
set_option maxHeartbeats 2000000 in
theorem put0 (h : Lg0 B w lb db S noneD p0) (hv : w.heap[vb]? = some (.cells #[.slice none 0 0, .slice none 0 0, .slice none 0 0] 23)) (hvS : ¬ S vb) (hvl : vb ≠ lb) :
    Calls Tryz.prog 18 #[.pointer (some ⟨lb, 0, none⟩), .agg #[.int .i64 0, .int .i64 0, .int .u64 0, .int .i64 0, .int .i64 0, .bool false, .bool false, .bool false, .slice (some ⟨vb, 0, none⟩) 3 3]] w fun e w' => PuPost B w lb db e w' := by
  have hlb := h.ready.lt
  have hA : Below w.heap.size w (w.alloc (.cells #[.int .i64 0, .int .i64 0, .int .u64 0, .int .i64 0, .int .i64 0, .bool false, .bool false, .bool false, .slice (some ⟨vb, 0, none⟩) 3 3] 29)) := (Below.refl _ _).alloc (Nat.le_refl _) _
  have BX : Hid (Box (w.alloc (.cells #[.int .i64 0, .int .i64 0, .int .u64 0, .int .i64 0, .int .i64 0, .bool false, .bool false, .bool false, .slice (some ⟨vb, 0, none⟩) 3 3] 29)) w.heap.size b3 (some ⟨vb, 0, none⟩) 3) := Box.new w b3 (some ⟨vb, 0, none⟩) 3
  obtain ⟨k0, k1, k2, k3, k4, k5, k6, k7, k8⟩ := (unhide BX).cells
  simp only [b3] at k0 k1 k2 k3 k4 k5 k6 k7 k8
  have L0 := hide (h.later hA)
  have BA := hide (hA.mono h.le)
  have hvb : vb < w.heap.size := lt_of_heap hv
  have V0 : Hid ((w.alloc (.cells #[.int .i64 0, .int .i64 0, .int .u64 0, .int .i64 0, .int .i64 0, .bool false, .bool false, .bool false, .slice (some ⟨vb, 0, none⟩) 3 3] 29)).heap[vb]? = some (.cells #[.slice none 0 0, .slice none 0 0, .slice none 0 0] 23)) := by rw [hA.block vb hvb]; exact hv
  have UO := hide (unopened_no (h.later hA).ready)
  have EN : Hid (Calls Tryz.prog 51 #[.agg #[.int .i64 0, .int .i64 0, .int .u64 0, .int .i64 0, .int .i64 0, .bool false, .bool false, .bool false, .slice (some ⟨vb, 0, none⟩) 3 3]] (w.alloc (.cells #[.int .i64 0, .int .i64 0, .int .u64 0, .int .i64 0, .int .i64 0, .bool false, .bool false, .bool false, .slice (some ⟨vb, 0, none⟩) 3 3] 29)) fun e w' => ∃ vo, e = .returned (.tuple #[vo, .int .i64 0]) ∧ Fresh (w.alloc (.cells #[.int .i64 0, .int .i64 0, .int .u64 0, .int .i64 0, .int .i64 0, .bool false, .bool false, .bool false, .slice (some ⟨vb, 0, none⟩) 3 3] 29)) w' vo (encB b3)) := (encode_any b3 (some ⟨vb, 0, none⟩) 3 (w.alloc (.cells #[.int .i64 0, .int .i64 0, .int .u64 0, .int .i64 0, .int .i64 0, .bool false, .bool false, .bool false, .slice (some ⟨vb, 0, none⟩) 3 3] 29)) (nils_at (unhide V0)) b3_fits).mono fun e w' h => by
    obtain ⟨vo, h1, h2⟩ := h
    rw [b3_chk] at h1
    rw [outE_ok b3_chk] at h2
    exact ⟨vo, h1, h2⟩
  have hbx : Hid (w.heap.size < (w.alloc (.cells #[.int .i64 0, .int .i64 0, .int .u64 0, .int .i64 0, .int .i64 0, .bool false, .bool false, .bool false, .slice (some ⟨vb, 0, none⟩) 3 3] 29)).heap.size) := by show _ < _; simp
  have hvS0 : Hid (∀ k, S k → k < w.heap.size) := fun k hk => h.disk.lt k hk
  clear h hv
  go_enter Tryz.func18, Tryz.ntmps18
  go_wp2_with fail
  generalize hW : (w.alloc (.cells #[.int .i64 0, .int .i64 0, .int .u64 0, .int .i64 0, .int .i64 0, .bool false, .bool false, .bool false, .slice (some ⟨vb, 0, none⟩) 3 3] 29)) = W at *
  refine (unhide UO).mono ?_
  rintro e w0 ⟨rfl, rfl⟩
  clear hW UO
  have hlb0 : lb < w0.heap.size := Nat.lt_trans hlb (unhide hbx)
  go_wp2_with fail
  refine (unhide EN).mono ?_
  rintro e w1 ⟨vo, rfl, r1, n1, b1⟩
  have hel : (encB b3).length = 12 := by rw [b3_enc]; rfl
  obtain ⟨ao, co, rfl, lo, _, _, hno, hoo, _⟩ := r1.parts
  have FE := fencode_any ((unhide L0).later b1).ready lo hno (fun _ x hx e => by have := n1 _ (hoo x hx); omega) (by rw [hel]; omega)
  rw [hel] at FE ⊢
  have FEH := hide FE
  have L1 := hide ((unhide L0).later b1)
  have V1 : Hid (w1.heap[vb]? = some (.cells #[.slice none 0 0, .slice none 0 0, .slice none 0 0] 23)) := by rw [b1.block vb (lt_of_heap (unhide V0))]; exact unhide V0
  have BX1 := hide ((unhide BX).later b1)
  have BA1 := hide ((unhide BA).trans (b1.mono (unhide L0).le))
  have hw1 : w0.heap.size ≤ w1.heap.size := b1.size
  clear r1 n1 b1 lo FE EN k0 k1 k2 k3 k4 k5 k6 k7 k8
  go_wp2_with fail
  refine (unhide FEH).mono ?_
  rintro e w2 ⟨vt, rfl, r2, n2, fd⟩
  obtain ⟨tp, ct, rfl, lt2, hct, _, hnt, hot, _⟩ := r2.parts
  change Row w2 (.slice tp t3.length ct) t3 at r2
  change LAt w2 tp t3 at lt2
  change t3.length ≤ ct at hct
  have L2 : Hid (Lg0 B w2 lb db S noneD p0) := ⟨fd.ready, (unhide L1).disk.keep fd.touch (fun k hk e => (unhide L1).ne (e ▸ hk)), (unhide L1).ne, (unhide L1).sB, (unhide L1).lB, Nat.le_trans (unhide L1).le fd.touch.size⟩
  have V2 : Hid (w2.heap[vb]? = some (.cells #[.slice none 0 0, .slice none 0 0, .slice none 0 0] 23)) := by rw [fd.touch.block vb (lt_of_heap (unhide V1)) hvl]; exact unhide V1
  have BX2 := hide ((unhide BX1).keep fd.touch (by omega))
  have BA2 := hide (below_touch (unhide BA1) fd.touch (Nat.le_trans (unhide L0).le hw1) (fun k hk => by rw [hk]; exact (unhide L1).lB))
  have N2 := hide n2
  have LT2 := hide lt2
  have ME := hide (mend0 (unhide L2) rfl (find_no.2 ⟨rfl, f0_ok, rfl⟩))
  have hs2 : w1.heap.size ≤ w2.heap.size := fd.touch.size
  have hfl : (fenc (encB b3)).length = 20 := t3_len
  rw [hfl]
  rw [t3_len] at hct
  clear r2 n2 fd lt2 FEH L1 V1 BX1 BA1
  go_wp2_with fail
  refine (unhide ME).mono ?_
  rintro e w3 ⟨rfl, b3'⟩
  have L3 := hide ((unhide L2).later b3')
  have V3 : Hid (w3.heap[vb]? = some (.cells #[.slice none 0 0, .slice none 0 0, .slice none 0 0] 23)) := by rw [b3'.block vb (lt_of_heap (unhide V2))]; exact unhide V2
  have BX3 := hide ((unhide BX2).later b3')
  have BA3 := hide ((unhide BA2).trans (b3'.mono (unhide L2).le))
  have LT3 := hide ((unhide LT2).later b3')
  have hw3 : w2.heap.size ≤ w3.heap.size := b3'.size
  clear b3' ME L2 V2 BX2 BA2 LT2
  generalize w.heap.size = bx at *
  have hb3 : bx < w3.heap.size := by have := unhide hbx; omega
  have K0 : Hid (w3.cell? ⟨bx, 0, none⟩ = some (.int .i64 0)) := (unhide BX3).cells.1
  have EN3 : Hid (∀ W, Below w3.heap.size w3 W → Calls Tryz.prog 14 #[.pointer (some ⟨lb, 0, none⟩)] W fun e w' => e = .returned (.int .i64 0) ∧ Below w3.heap.size w3 w') := fun W hb => (end0 ((unhide L3).later hb)).mono fun e w' h => ⟨h.1, by rw [h.2]; exact hb⟩
  go_wp2_with fail
  go_region_held3 (fun w' => w'.cell? ⟨bx, 0, none⟩ = some (.int .i64 0)) (first | exact unhide K0 | exact (Below.cell (p := ⟨bx, 0, none⟩) (by first | assumption | (go_grown; done) | exact below_drewN3 (Below.refl _ _) _ | exact below_drewN3 (by assumption) _ | exact (below_drewN3 (Below.refl _ _) _).drew | exact Below.refl _ _) hb3).trans (unhide K0)) (first
    | (go_at_call 14; refine (unhide EN3 _ (by first | assumption | (go_grown; done) | exact below_drewN3 (Below.refl _ _) _ | exact below_drewN3 (by assumption) _ | exact (below_drewN3 (Below.refl _ _) _).drew | exact Below.refl _ _)).mono ?_; rintro e w4 ⟨rfl, b4⟩))
  all_goals
    have L4 := hide ((unhide L3).later b4)
    have V4 : Hid (w4.heap[vb]? = some (.cells #[.slice none 0 0, .slice none 0 0, .slice none 0 0] 23)) := by rw [b4.block vb (lt_of_heap (unhide V3))]; exact unhide V3
    have BX4 := hide ((unhide BX3).later b4)
    have BA4 := hide ((unhide BA3).trans (b4.mono (unhide L3).le))
    have k0 : w4.cell? ⟨bx, 0, none⟩ = some (.int .i64 0) := (unhide BX4).cells.1
    have LA := lay0 (unhide L4) (cap := ct) (t := t3) ((unhide LT3).later b4) hnt (by rw [t3_len]; exact hct) (fun _ x hx e => by have := unhide N2 _ (hot x hx); have := unhide hvS0 _ e; have := unhide hbx; omega) (by rw [t3_len]; rfl)
    rw [t3_len] at LA
    have LAH := hide LA
    have hb4 : bx < w4.heap.size := Nat.lt_of_lt_of_le hb3 b4.size
    clear b4 LA L3 V3 BX3 BA3 LT3 EN3 K0
    go_wp2_with fail
    refine (unhide LAH).mono ?_
    rintro e w5 ⟨rfl, S5, gs, cap5, lg5, bl5, tt5, mm5⟩
    have hdk : apD noneD f0 t3 = one f0 t3 0 := (none_ap (b := t3) f0_ok (by rw [t3_len]; omega)).2
    rw [hdk] at lg5
    have L5 := hide lg5
    have V5 : Hid (w5.heap[vb]? = some (.cells #[.slice none 0 0, .slice none 0 0, .slice none 0 0] 23)) := by rw [tt5.block vb (lt_of_heap (unhide V4)) (fun e => e.elim hvS hvl)]; exact unhide V4
    have BX5 : Hid (Box w5 bx b3 (some ⟨vb, 0, none⟩) 3) := (unhide BX4).keep tt5 (fun e => by rcases e with e | e; exact absurd (unhide hvS0 _ e) (by omega); omega)
    have BA5 := hide ((unhide BA4).trans bl5)
    have hb5 : bx < w5.heap.size := Nat.lt_of_lt_of_le hb4 tt5.size
    have hgb : Hid (gs ≠ bx) := fun e => by
      obtain ⟨cs, hc⟩ := lg5.heapG
      have hb := unhide BX5
      rw [e] at hc
      unfold Box at hb
      rw [hc] at hb
      exact absurd (Obj.cells.inj (Option.some.inj hb)).2.1 (by decide)
    have K9 : Hid (w5.cell? ⟨bx, 0, none⟩ = some (.int .i64 0) ∧ w5.cell? ⟨bx, 1, none⟩ = some (.int .i64 0) ∧ w5.cell? ⟨bx, 2, none⟩ = some (.int .u64 0) ∧ w5.cell? ⟨bx, 3, none⟩ = some (.int .i64 0) ∧ w5.cell? ⟨bx, 4, none⟩ = some (.int .i64 0) ∧ w5.cell? ⟨bx, 5, none⟩ = some (.bool false) ∧ w5.cell? ⟨bx, 6, none⟩ = some (.bool false) ∧ w5.cell? ⟨bx, 7, none⟩ = some (.bool false) ∧ w5.cell? ⟨bx, 8, none⟩ = some (.slice (some ⟨vb, 0, none⟩) 3 3)) := (unhide BX5).cells
    have LA5 : Hid (∀ W, Below w5.heap.size w5 W → Calls Tryz.prog 42 #[.pointer (some ⟨lb, 0, none⟩)] W fun e w' => e = .returned (.pointer (some ⟨gs, 0, none⟩)) ∧ ∃ n, w' = W.drewN n) := fun W hb => by
      have lg := (unhide L5).later hb
      exact last_any (ss := [s0]) (k := 0) lg.ready.outer.2.2 lg.row rfl rfl
    have CO5 : Hid (∀ W, Below w5.heap.size w5 W → Calls Tryz.prog 48 #[.agg #[.int .i64 0, .int .i64 0, .int .u64 0, .int .i64 0, .int .i64 0, .bool false, .bool false, .bool false, .slice (some ⟨vb, 0, none⟩) 3 3]] W fun e w' => ∃ a c, e = .returned (.agg #[.int .i64 0, .int .i64 0, .int .u64 0, .int .i64 0, .int .i64 0, .bool false, .bool false, .bool false, .slice a 3 c]) ∧ Held S5 w' (.slice a 3 c) b3.vs ∧ Below w5.heap.size w5 w') := fun W hb => (copied8_any b3 (some ⟨vb, 0, none⟩) 3 W (nils_at (by rw [hb.block vb (lt_of_heap (unhide V5))]; exact unhide V5)) (fun h => by cases h) (by decide) (by decide)).mono fun e w' h => by
      obtain ⟨a, c, h1, h2⟩ := h
      exact ⟨a, c, h1, Held.of h2 (fun k hk => Nat.lt_of_lt_of_le ((unhide L5).disk.lt k hk) hb.size), hb.trans (h2.2.2.mono hb.size)⟩
    have AD5 : Hid (∀ a c W, Below w5.heap.size w5 W → Held S5 W (.slice a 3 c) b3.vs → Calls Tryz.prog 55 #[.pointer (some ⟨gs, 0, none⟩), .agg #[.int .i64 0, .int .i64 0, .int .u64 0, .int .i64 0, .int .i64 0, .bool false, .bool false, .bool false, .slice a 3 c], .int .i64 20] W fun e w' => e = .returned (.tuple #[]) ∧ ∃ v, Lg1 B w' lb db S5 (one f0 t3 0) p0 gs cap5 ⟨0, v, [⟨b3, 20, a, c⟩], 0⟩ ∧ Below B w5 w' ∧ Box w' bx b3 (some ⟨vb, 0, none⟩) 3) := fun a c W hb hh => by
      have lg := (unhide L5).later hb
      obtain ⟨cs, hc⟩ := lg.heapG
      refine (sadd_any lg.sg hc (by simp [Value.ownBlock]) b3 a c 20 20 (x3_low a c) (by simp [sizeS_nil]) (by simp) (by simp [sizeS_nil])).mono fun e w' h => ?_
      obtain ⟨h1, v', h2, h3, h4, h5⟩ := h
      obtain ⟨g1, g2⟩ := lg.added (x := ⟨b3, 20, a, c⟩) h2 hc h3 h4 h5 hh
      refine ⟨h1, v', g1, (hb.mono (unhide L5).le).trans g2, ((unhide BX5).later hb).keep h4 (fun e => ?_)⟩
      rcases e with e | e
      · exact unhide hgb e.symm
      · simp [Value.ownBlock] at e
    clear lg5 bl5 tt5 mm5 L4 V4 BX4 BA4 LAH k0 V5
    obtain ⟨k0, k1, k2, k3, k4, k5, k6, k7, k8⟩ := unhide K9
    go_wp2_with fail
    go_region_held3 (fun w' => w'.cell? ⟨bx, 0, none⟩ = some (.int .i64 0) ∧ w'.cell? ⟨bx, 1, none⟩ = some (.int .i64 0) ∧ w'.cell? ⟨bx, 2, none⟩ = some (.int .u64 0) ∧ w'.cell? ⟨bx, 3, none⟩ = some (.int .i64 0) ∧ w'.cell? ⟨bx, 4, none⟩ = some (.int .i64 0) ∧ w'.cell? ⟨bx, 5, none⟩ = some (.bool false) ∧ w'.cell? ⟨bx, 6, none⟩ = some (.bool false) ∧ w'.cell? ⟨bx, 7, none⟩ = some (.bool false) ∧ w'.cell? ⟨bx, 8, none⟩ = some (.slice (some ⟨vb, 0, none⟩) 3 3)) (first | exact unhide K9 | exact (unhide B8).cells | exact ((unhide BX5).later (by first | assumption | (go_grown; done) | exact below_drewN3 (Below.refl _ _) _ | exact below_drewN3 (by assumption) _ | exact (below_drewN3 (Below.refl _ _) _).drew | exact Below.refl _ _)).cells) (first
      | (go_at_call 55; refine (unhide AD5 a6 c6 _ (by first | assumption | (go_grown; done) | exact below_drewN3 (Below.refl _ _) _ | exact below_drewN3 (by assumption) _ | exact (below_drewN3 (Below.refl _ _) _).drew | exact Below.refl _ _) (Held.later (unhide H6) (by first | assumption | (go_grown; done) | exact below_drewN3 (Below.refl _ _) _ | exact below_drewN3 (by assumption) _ | exact (below_drewN3 (Below.refl _ _) _).drew | exact Below.refl _ _))).mono ?_; rintro e w8 ⟨rfl, v8, lg8, bl8, bx8⟩; have L8 := hide lg8; have BL8 := hide bl8; have B8 := hide bx8; clear lg8 bl8 bx8)
      | (go_at_call 48; refine (unhide CO5 _ (by first | assumption | (go_grown; done) | exact below_drewN3 (Below.refl _ _) _ | exact below_drewN3 (by assumption) _ | exact (below_drewN3 (Below.refl _ _) _).drew | exact Below.refl _ _)).mono ?_; rintro e w6 ⟨a6, c6, rfl, h6, b6⟩; have H6 := hide h6; clear h6)
      | (go_at_call 42; refine (unhide LA5 _ (by first | assumption | (go_grown; done) | exact below_drewN3 (Below.refl _ _) _ | exact below_drewN3 (by assumption) _ | exact (below_drewN3 (Below.refl _ _) _).drew | exact Below.refl _ _)).mono ?_; rintro e w7 ⟨rfl, n7, rfl⟩))
    all_goals
      have F : Hid (PuPost B w lb db (.returned (.int .i64 0)) w8) := ⟨rfl, S5, gs, cap5, v8, a6, c6, unhide L8, (unhide BA5).trans (unhide BL8)⟩
      clear L8 BL8 B8
      go_wp2
      go_returns
      exact unhide F
end
end Go.Proofs.YtkcoeofbobkaoabGreatDoor
