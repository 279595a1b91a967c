/-
  seglog's decode. Conditions: what the log is; at most 2^40 bytes.
-/
import Derived.Test.YtkcoeofbobkaoabGreatDoorAd8
import Derived.Test.YtkcoeofbobkaoabGreatDoorFl8
import Derived.Test.YtkcoeofbobkaoabGreatDoorCt5
import Derived.Test.YtkcoeofbobkaoabGreatDoorAw5

/-
  A log in memory, without a segment or with one, on its disk; seglog's End, Start, unopened; calls on a log that there isn't. Conditions: what the log is.
-/
namespace Go.Proofs.YtkcoeofbobkaoabGreatDoor
open Go.RowKit
set_option linter.unusedVariables false

/-- A list of rows, none of whose blocks is in T. -/
def Held (T : Nat → Prop) (w : World) (v : Value) (ls : List (List Nat)) : Prop := ∃ vs, Spine (fun u l => Row w u l ∧ ∀ k, u.ownBlock = some k → ¬ T k) w v vs ls ∧ ∀ k, v.ownBlock = some k → ¬ T k
theorem Held.step {T T' : Nat → Prop} {w w' : World} {v : Value} {ls : List (List Nat)} (h : Held T w v ls) (t : Touch T w w') (hg : ∀ k, T' k → T k ∨ w.heap.size ≤ k) : Held T' w' v ls := by
  obtain ⟨vs, h1, h2⟩ := h
  refine ⟨vs, (h1.keep t h2).imp (fun u l hu => ⟨hu.1.keep t hu.2, fun k hk hT => ?_⟩), fun k hk hT => ?_⟩
  · rcases hg k hT with e | e
    · exact hu.2 k hk e
    · have := hu.1.lt k hk; omega
  · rcases hg k hT with e | e
    · exact h2 k hk e
    · have := h1.own.lt k hk; omega
theorem Held.later {T : Nat → Prop} {w w' : World} {v : Value} {ls : List (List Nat)} (h : Held T w v ls) (hb : Below w.heap.size w w') : Held T w' v ls := h.step (Touch.of_below (S := T) hb) (fun k hk => .inl hk)
theorem Held.parts {T : Nat → Prop} {w : World} {v : Value} {ls : List (List Nat)} (h : Held T w v ls) : ∃ a cap, v = .slice a ls.length cap ∧ RAt w a ls ∧ ls.length ≤ cap ∧ cap ≤ maxLen ∧ (a = none → cap = 0) ∧ (∀ x, a = some x → v.ownBlock = some x.block) := by
  obtain ⟨vs, h1, _⟩ := h; exact h1.parts (fun u l h => h.1.elem)
/-- What was made since w holds nothing of before. -/
theorem Held.of {T : Nat → Prop} {w w' : World} {v : Value} {ls : List (List Nat)} (h : Copied w w' v ls) (hT : ∀ k, T k → k < w.heap.size) : Held T w' v ls := by
  obtain ⟨⟨vs, hs⟩, hn, _⟩ := h
  exact ⟨vs, hs.imp (fun u l hu => ⟨hu.1, fun k hk e => by have := hu.2 k hk; have := hT k e; omega⟩), fun k hk e => by have := hn k hk; have := hT k e; omega⟩

theorem Ready.outer {Xo : Outer} {w : World} {b : Nat} (h : Ready Xo w b) : w.cell? ⟨b, 0, none⟩ = some Xo.d ∧ w.cell? ⟨b, 1, none⟩ = some Xo.n ∧ w.cell? ⟨b, 261, none⟩ = some Xo.s := by
  rcases h with ⟨T, h⟩ | h <;> exact h.outer
theorem Ready.frozen {Xo : Outer} {w : World} {b : Nat} (h : Ready Xo w b) (i : Nat) : w.frozen? ⟨b, i, none⟩ = false := by
  rcases h with ⟨T, h⟩ | h <;> exact h.frozen i
theorem Ready.setSize {Xo : Outer} {w : World} {b : Nat} (h : Ready Xo w b) (y : Value) : Ready { Xo with s := y } (w.setCell ⟨b, 261, none⟩ y) b := by
  rcases h with ⟨T, h⟩ | h
  · exact .inl ⟨T, h.setSize y⟩
  · exact .inr (h.setSize y)
theorem Ready.heap {Xo : Outer} {w : World} {b : Nat} (h : Ready Xo w b) : ∃ cs, w.heap[b]? = some (.cells cs 97) := by
  rcases h with ⟨T, h⟩ | h <;> (obtain ⟨cs, h1, _⟩ := h.ex; exact ⟨cs, h1⟩)

abbrev Ot (db : Nat) (nm : ByteArray) (sv : Value) : Outer := ⟨.pointer (some ⟨db, 0, none⟩), .string nm, sv⟩
/-- A log without a segment, on the disk at db; all that is theirs lies from block B on. -/
structure Lg0 (B : Nat) (w : World) (lb db : Nat) (S : Nat → Prop) (d : Dk) (nm : ByteArray) : Prop where
  ready : Ready (Ot db nm (.slice none 0 0)) w lb
  disk : Disky w db S d
  ne : ¬ S lb
  sB : ∀ k, S k → B ≤ k
  lB : B ≤ lb
  le : B ≤ w.heap.size
/-- .. with one segment, whose row is at gs. -/
structure Lg1 (B : Nat) (w : World) (lb db : Nat) (S : Nat → Prop) (d : Dk) (nm : ByteArray) (gs cap : Nat) (s : Sg) : Prop where
  ready : Ready (Ot db nm (.slice (some ⟨gs, 0, none⟩) 1 cap)) w lb
  disk : Disky w db S d
  row : Wide w 104 3 (.slice (some ⟨gs, 0, none⟩) 1 cap) 1 (sgC s)
  sg : SgP w gs 0 s
  vals : ∀ x ∈ s.ls, Held S w (.slice x.a x.b.vs.length x.cap) x.b.vs
  ne : ¬ S lb
  neg : ¬ S gs
  nev : ∀ k, s.v.ownBlock = some k → ¬ S k
  sB : ∀ k, S k → B ≤ k
  lB : B ≤ lb
  gB : B ≤ gs
  vB : ∀ k, s.v.ownBlock = some k → B ≤ k
  le : B ≤ w.heap.size

section
variable {B : Nat} {w w' : World} {lb db : Nat} {S : Nat → Prop} {d d' : Dk} {nm : ByteArray} {gs cap : Nat} {s : Sg}
theorem SgP.keep {T : Nat → Prop} {g o : Nat} (h : SgP w g o s) (t : Touch T w w') (hg : g < w.heap.size) (h1 : ¬ T g) (h2 : ∀ k, s.v.ownBlock = some k → ¬ T k) : SgP w' g o s := by
  have hc : ∀ j, w'.cell? ⟨g, j, none⟩ = w.cell? ⟨g, j, none⟩ := fun j => World.cell?_of_block (a := ⟨g, j, none⟩) (t.block g hg h1)
  exact ⟨(hc _).trans h.c0, (hc _).trans h.c1, (hc _).trans h.c2, h.row.keep t h2, h.low, h.blo, h.bhi⟩
theorem Lg1.glt (h : Lg1 B w lb db S d nm gs cap s) : gs < w.heap.size := h.row.lt gs rfl
theorem Lg0.later (h : Lg0 B w lb db S d nm) (hb : Below w.heap.size w w') : Lg0 B w' lb db S d nm :=
  ⟨h.ready.keep (Touch.of_below (S := fun _ => False) hb) (fun h => h), h.disk.keep (Touch.of_below (S := fun _ => False) hb) (fun _ _ h => h), h.ne, h.sB, h.lB, Nat.le_trans h.le hb.size⟩
theorem Lg1.later (h : Lg1 B w lb db S d nm gs cap s) (hb : Below w.heap.size w w') : Lg1 B w' lb db S d nm gs cap s :=
  ⟨h.ready.keep (Touch.of_below (S := fun _ => False) hb) (fun h => h), h.disk.keep (Touch.of_below (S := fun _ => False) hb) (fun _ _ h => h), h.row.later hb, h.sg.keep (Touch.of_below (S := fun _ => False) hb) h.glt (fun h => h) (fun _ _ h => h), fun x hx => (h.vals x hx).later hb, h.ne, h.neg, h.nev, h.sB, h.lB, h.gB, h.vB, Nat.le_trans h.le hb.size⟩
theorem Lg0.went (h : Lg0 B w lb db S d nm) (g : Went w w' db S d') : ∃ S', Lg0 B w' lb db S' d' nm ∧ Below B w w' := by
  obtain ⟨S', d1, t1, m1⟩ := g
  have hlb := h.ready.lt
  refine ⟨S', ⟨h.ready.keep t1 h.ne, d1, fun hk => ?_, fun k hk => ?_, h.lB, Nat.le_trans h.le t1.size⟩, below_touch (Below.refl _ _) t1 h.le h.sB⟩
  · rcases m1 _ hk with e | e
    · exact h.ne e
    · omega
  · rcases m1 _ hk with e | e
    · exact h.sB k e
    · exact Nat.le_trans h.le e
theorem Lg1.went (h : Lg1 B w lb db S d nm gs cap s) (g : Went w w' db S d') : ∃ S', Lg1 B w' lb db S' d' nm gs cap s ∧ Below B w w' := by
  obtain ⟨S', d1, t1, m1⟩ := g
  have hlb := h.ready.lt
  have hgs := h.glt
  have hn : ∀ k, k < w.heap.size → ¬ S k → ¬ S' k := fun k hk h1 h2 => by
    rcases m1 _ h2 with e | e
    · exact h1 e
    · omega
  refine ⟨S', ⟨h.ready.keep t1 h.ne, d1, h.row.keep t1 (fun k hk => by cases hk; exact h.neg), h.sg.keep t1 hgs h.neg h.nev, fun x hx => (h.vals x hx).step t1 m1, hn _ hlb h.ne, hn _ hgs h.neg, fun k hk => hn k (h.sg.row.lt k hk) (h.nev k hk), fun k hk => ?_, h.lB, h.gB, h.vB, Nat.le_trans h.le t1.size⟩, below_touch (Below.refl _ _) t1 h.le h.sB⟩
  rcases m1 _ hk with e | e
  · exact h.sB k e
  · exact Nat.le_trans h.le e

theorem end_nil (w : World) : Calls Tryz.prog 14 #[.pointer none] w fun e w' => e = .returned (.int .i64 0) ∧ w' = w := by
  go_enter Tryz.func14, Tryz.ntmps14
  go_wp2
  go_returns
  exact ⟨rfl, rfl⟩
theorem end0 (h : Lg0 B w lb db S d nm) : Calls Tryz.prog 14 #[.pointer (some ⟨lb, 0, none⟩)] w fun e w' => e = .returned (.int .i64 0) ∧ w' = w := by
  obtain ⟨x0, x1, x2⟩ := h.ready.outer
  simp only at x0 x1 x2
  clear h
  go_enter Tryz.func14, Tryz.ntmps14
  go_wp2
  go_returns
  exact ⟨rfl, rfl⟩
set_option maxRecDepth 100000 in
theorem end1 (h : Lg1 B w lb db S d nm gs cap s) : Calls Tryz.prog 14 #[.pointer (some ⟨lb, 0, none⟩)] w fun e w' => AnsPost w (.int .i64 (endS s.base s.ls)) e w' := by
  obtain ⟨x0, x1, x2⟩ := h.ready.outer
  simp only at x0 x1 x2
  have hgs := h.glt
  have LA := hide (last_any (ss := [s]) (k := 0) x2 h.row rfl rfl)
  have SE : Hid (∀ n, Calls Tryz.prog 43 #[.pointer (some ⟨gs, 0 * 3, none⟩)] (w.drewN n) fun e w' => AnsPost (w.drewN n) (.int .i64 (endS s.base s.ls)) e w') := fun n => segEnd_any (w := w.drewN n) (o := 0) ⟨h.sg.c0, h.sg.c1, h.sg.c2, h.sg.row.later (below_drewN3 (Below.refl _ _) n), h.sg.low, h.sg.blo, h.sg.bhi⟩ hgs
  clear h
  go_enter Tryz.func14, Tryz.ntmps14
  go_wp2_with fail
  refine (unhide LA).mono ?_
  rintro e w1 ⟨rfl, n, rfl⟩
  go_wp2_with fail
  refine (unhide SE n).mono ?_
  rintro e w1 ⟨rfl, b1⟩
  have B1 : Hid (Below w.heap.size w w1) := (below_drewN3 (Below.refl _ _) n).trans b1
  clear b1
  go_wp2
  go_returns
  exact AnsPost.mk rfl (unhide B1)
theorem unopened_nil (w : World) : Calls Tryz.prog 50 #[.pointer none] w fun e w' => e = .returned (.bool true) ∧ w' = w := by
  go_enter Tryz.func50, Tryz.ntmps50
  go_wp2
  go_returns
  exact ⟨rfl, rfl⟩
theorem unopened_no {sv : Value} (h : Ready (Ot db nm sv) w lb) : Calls Tryz.prog 50 #[.pointer (some ⟨lb, 0, none⟩)] w fun e w' => e = .returned (.bool false) ∧ w' = w := by
  obtain ⟨x0, x1, x2⟩ := h.outer
  simp only at x0 x1 x2
  clear h
  go_enter Tryz.func50, Tryz.ntmps50
  go_wp2
  go_returns
  exact ⟨rfl, rfl⟩
end
end Go.Proofs.YtkcoeofbobkaoabGreatDoor


namespace Go.Proofs.YtkcoeofbobkaoabGreatDoor
open Go.RowKit
set_option linter.unusedVariables false

def DcPost (Xo : Outer) (w : World) (lb : Nat) (b : Bt) (n : Nat) (e : Ending) (w' : World) : Prop := ∃ a cap, e = .returned (.tuple #[bv b a cap, .int .i64 (n : Nat), .int .i64 0]) ∧ Paid w w' (.slice a b.vs.length cap) b.vs ∧ New w (.slice a b.vs.length cap) ∧ Ready Xo w' lb ∧ Touch (· = lb) w w'
theorem Paid.keep {S : Nat → Prop} {w0 w w' : World} {v : Value} {ls : List (List Nat)} (h : Paid w0 w v ls) (hv : New w0 v) (t : Touch S w w') (hs : ∀ k, S k → k < w0.heap.size) : Paid w0 w' v ls := by
  obtain ⟨vs, h⟩ := h
  exact ⟨vs, (h.keep t (fun k hk e => by have := hv k hk; have := hs k e; omega)).imp (fun u l hu => ⟨hu.1.keep t (fun k hk e => by have := hu.2 k hk; have := hs k e; omega), hu.2⟩)⟩
section
variable {Xo : Outer} {w : World} {lb : Nat} {a : Option Addr} {cap : Nat} {t : List Nat}
abbrev zc : Array Value := #[.int .i64 0, .int .i64 0, .int .u64 0, .int .i64 0, .int .i64 0, .bool false, .bool false, .bool false, .slice none 0 0]
set_option maxRecDepth 100000 in
set_option maxHeartbeats 2000000 in
theorem decode_err (hr : Ready Xo w lb) (hp : LAt w a t) (hn : a = none → cap = 0) (hc : t.length ≤ cap) (hs : 0 < t.length → ∀ x, a = some x → x.block ≠ lb) (hl : t.length ≤ 1099511627776) (E : Nat) (hE : (dec t).2.2 = E) (h0 : E ≠ 0) :
    Calls Tryz.prog 96 #[.pointer (some ⟨lb, 0, none⟩), .slice a t.length cap] w fun e w' => e = .returned (.tuple #[.agg zc, .int .i64 0, .int .i64 (E : Nat)]) ∧ Ready Xo w' lb ∧ Touch (· = lb) w w' := by
  have hlb := hr.lt
  have TA : Hid (Below w.heap.size w (w.alloc (.cells zc 29))) := (Below.refl _ _).alloc (Nat.le_refl _) _
  have FD := hide (fdecode_any (hr.keep (Touch.of_below (S := fun _ => False) (unhide TA)) (fun h => h)) (hp.later (unhide TA)) hn hc hs (by omega))
  have bz : (w.alloc (.cells zc 29)).heap[w.heap.size]? = some (.cells zc 29) := heap_new _ _
  have BZ := hide bz
  have hE2 : ((E : Int) != 0) = true := by rw [bne_iff_ne]; omega
  have hE3 : ¬ (E : Int) = 0 := by omega
  rw [hE] at FD
  clear hr hp hE bz
  generalize (dec t).1 = P at *
  generalize (dec t).2.1 = N at *
  go_enter Tryz.func96, Tryz.ntmps96
  go_wp2_with fail
  generalize w.alloc (.cells zc 29) = W at *
  refine (unhide FD).mono ?_
  rintro e w1 ⟨v1, rfl, r1, n1, d1⟩
  have bz1 : w1.heap[w.heap.size]? = some (.cells zc 29) := d1.touch.keep (unhide BZ) (by omega)
  have z1 : ∀ i, w1.frozen? ⟨w.heap.size, i, none⟩ = false := frozen_of bz1
  have Y := hide bz1
  obtain ⟨y0, y1, y2, y3, y4, y5, y6, y7, y8⟩ := Box.cells (g := w.heap.size) (b := zeroB) (a := none) (cap := 0) (w := w1) bz1
  simp only [zeroB] at y0 y1 y2 y3 y4 y5 y6 y7 y8
  have T9 := hide (set9 bz1 rfl (.int .i64 0) (.int .i64 0) (.int .u64 0) (.int .i64 0) (.int .i64 0) (.bool false) (.bool false) (.bool false) (.slice none 0 0))
  have RD := hide d1.ready
  have TW : Hid (Touch (· = lb) w w1) := touch_new ((Touch.of_below (S := fun _ => False) (unhide TA)).mono (fun _ h => h.elim)) d1.touch (fun k hk => .inl hk)
  clear r1 n1 d1 FD bz1
  go_wp2
  clear y0 y1 y2 y3 y4 y5 y6 y7 y8 z1
  generalize (((((((((w1.setCell ⟨w.heap.size, 0, none⟩ (.int .i64 0)).setCell ⟨w.heap.size, 1, none⟩ (.int .i64 0)).setCell ⟨w.heap.size, 2, none⟩ (.int .u64 0)).setCell ⟨w.heap.size, 3, none⟩ (.int .i64 0)).setCell ⟨w.heap.size, 4, none⟩ (.int .i64 0)).setCell ⟨w.heap.size, 5, none⟩ (.bool false)).setCell ⟨w.heap.size, 6, none⟩ (.bool false)).setCell ⟨w.heap.size, 7, none⟩ (.bool false)).setCell ⟨w.heap.size, 8, none⟩ (.slice none 0 0)) = U at *
  obtain ⟨y0, y1, y2, y3, y4, y5, y6, y7, y8⟩ := Box.cells (g := w.heap.size) (b := zeroB) (a := none) (cap := 0) (w := U) (unhide T9).1
  simp only [zeroB] at y0 y1 y2 y3 y4 y5 y6 y7 y8
  refine bodyPost_ret (by simp [results, Tryz.results96, go_sem, y0, y1, y2, y3, y4, y5, y6, y7, y8]; try rfl) rfl ?_
  refine ⟨rfl, (unhide RD).keep (unhide T9).2 (by omega), touch_new (unhide TW) (unhide T9).2 (fun k hk => .inr (by omega))⟩

set_option maxRecDepth 100000 in
set_option maxHeartbeats 4000000 in
theorem decode_ok (hr : Ready Xo w lb) (hp : LAt w a t) (hn : a = none → cap = 0) (hc : t.length ≤ cap) (hs : 0 < t.length → ∀ x, a = some x → x.block ≠ lb) (hl : t.length ≤ 1099511627776) (p : List Nat) (n : Nat) (b : Bt) (hd : dec t = (p, n, 0)) (he : decE p = 0) (hb : decB p = b) (hpl : p.length ≤ 1099511627776) :
    Calls Tryz.prog 96 #[.pointer (some ⟨lb, 0, none⟩), .slice a t.length cap] w fun e w' => DcPost Xo w lb b n e w' := by
  have hlb := hr.lt
  have TA : Hid (Below w.heap.size w (w.alloc (.cells zc 29))) := (Below.refl _ _).alloc (Nat.le_refl _) _
  have FD := hide (fdecode_any (hr.keep (Touch.of_below (S := fun _ => False) (unhide TA)) (fun h => h)) (hp.later (unhide TA)) hn hc hs (by omega))
  have bz : (w.alloc (.cells zc 29)).heap[w.heap.size]? = some (.cells zc 29) := heap_new _ _
  have BZ := hide bz
  have hWs : (w.alloc (.cells zc 29)).heap.size = w.heap.size + 1 := by simp
  have HWS := hide hWs
  rw [hd] at FD
  simp only at FD
  have DE : Hid (∀ w' a' c', LAt w' a' p → (a' = none → c' = 0) → Calls Tryz.prog 122 #[.slice a' p.length c'] w' fun e w'' => ∃ a cap, e = .returned (.tuple #[bv b a cap, .int .i64 0]) ∧ Copied w' w'' (.slice a b.vs.length cap) b.vs) := fun w' a' c' h1 h2 => (decode_any w' h1 h2 (by omega)).mono fun e w'' h => by
    obtain ⟨x, y, h3, h4⟩ := h
    rw [he, hb] at h3
    rw [hb] at h4
    exact ⟨x, y, h3, h4⟩
  clear hr hp bz hd he hb hWs
  go_enter Tryz.func96, Tryz.ntmps96
  go_wp2_with fail
  generalize w.alloc (.cells zc 29) = W at *
  refine (unhide FD).mono ?_
  rintro e w1 ⟨v1, rfl, r1, n1, d1⟩
  obtain ⟨a1, c1, rfl, l1, _, _, hn1, _⟩ := r1.parts
  have D1 := hide (unhide DE w1 a1 c1 l1 hn1)
  have RD := hide d1.ready
  have TW : Hid (Touch (· = lb) w w1) := touch_new ((Touch.of_below (S := fun _ => False) (unhide TA)).mono (fun _ h => h.elim)) d1.touch (fun k hk => .inl hk)
  have BZ1 : Hid (w1.heap[w.heap.size]? = some (.cells zc 29)) := d1.touch.keep (unhide BZ) (by omega)
  have hw1 : w.heap.size + 1 ≤ w1.heap.size := by have := d1.touch.size; have := unhide HWS; omega
  clear r1 n1 d1 FD l1 DE BZ
  generalize p.length = PL at *
  go_wp2_with fail
  refine (unhide D1).mono ?_
  rintro e w2 ⟨a2, c2, rfl, cp⟩
  have CP := hide cp
  have BW2 := hide cp.2.2
  obtain ⟨base, epoch, pid, pep, seq, txn, ctl, com, vs⟩ := b
  simp only at CP BW2 ⊢
  clear cp D1
  have hw2 : w1.heap.size ≤ w2.heap.size := (unhide BW2).size
  have hA : Hid (Below w2.heap.size w2 (w2.alloc (.cells #[.int .i64 base, .int .i64 epoch, .int .u64 (pid : Int), .int .i64 pep, .int .i64 seq, .bool txn, .bool ctl, .bool com, .slice a2 vs.length c2] 29))) := (Below.refl _ _).alloc (Nat.le_refl _) _
  have bz2 : (w2.alloc (.cells #[.int .i64 base, .int .i64 epoch, .int .u64 (pid : Int), .int .i64 pep, .int .i64 seq, .bool txn, .bool ctl, .bool com, .slice a2 vs.length c2] 29)).heap[w.heap.size]? = some (.cells zc 29) := by
    rw [(unhide hA).block _ (by omega), (unhide BW2).block _ (by omega)]
    exact unhide BZ1
  have hlt : Hid (w.heap.size < w2.heap.size) := by show _ < _; omega
  have HW1 := hide hw1
  have HW2 := hide hw2
  have HLB := hide hlb
  clear hw1 hw2 hlb
  have z2 : ∀ i, (w2.alloc (.cells #[.int .i64 base, .int .i64 epoch, .int .u64 (pid : Int), .int .i64 pep, .int .i64 seq, .bool txn, .bool ctl, .bool com, .slice a2 vs.length c2] 29)).frozen? ⟨w.heap.size, i, none⟩ = false := frozen_of bz2
  obtain ⟨x0, x1, x2, x3, x4, x5, x6, x7, x8⟩ := Box.cells (g := w.heap.size) (b := zeroB) (a := none) (cap := 0) (w := (w2.alloc (.cells #[.int .i64 base, .int .i64 epoch, .int .u64 (pid : Int), .int .i64 pep, .int .i64 seq, .bool txn, .bool ctl, .bool com, .slice a2 vs.length c2] 29))) bz2
  simp only [zeroB] at x0 x1 x2 x3 x4 x5 x6 x7 x8
  have V9 := hide (set9 bz2 rfl (.int .i64 base) (.int .i64 epoch) (.int .u64 (pid : Int)) (.int .i64 pep) (.int .i64 seq) (.bool txn) (.bool ctl) (.bool com) (.slice a2 vs.length c2))
  clear bz2
  go_wp2
  clear z2 x0 x1 x2 x3 x4 x5 x6 x7 x8
  generalize ((((((((((w2.alloc (.cells #[.int .i64 base, .int .i64 epoch, .int .u64 (pid : Int), .int .i64 pep, .int .i64 seq, .bool txn, .bool ctl, .bool com, .slice a2 vs.length c2] 29)).setCell ⟨w.heap.size, 0, none⟩ (.int .i64 base)).setCell ⟨w.heap.size, 1, none⟩ (.int .i64 epoch)).setCell ⟨w.heap.size, 2, none⟩ (.int .u64 (pid : Int))).setCell ⟨w.heap.size, 3, none⟩ (.int .i64 pep)).setCell ⟨w.heap.size, 4, none⟩ (.int .i64 seq)).setCell ⟨w.heap.size, 5, none⟩ (.bool txn)).setCell ⟨w.heap.size, 6, none⟩ (.bool ctl)).setCell ⟨w.heap.size, 7, none⟩ (.bool com)).setCell ⟨w.heap.size, 8, none⟩ (.slice a2 vs.length c2)) = V at *
  obtain ⟨y0, y1, y2, y3, y4, y5, y6, y7, y8⟩ := Box.cells (g := w.heap.size) (b := ⟨base, epoch, pid, pep, seq, txn, ctl, com, vs⟩) (a := a2) (cap := c2) (w := V) (unhide V9).1
  simp only at y0 y1 y2 y3 y4 y5 y6 y7 y8
  refine bodyPost_ret (by simp [results, Tryz.results96, go_sem, y0, y1, y2, y3, y4, y5, y6, y7, y8]; try rfl) rfl ?_
  have hw1 := unhide HW1
  have hw2 := unhide HW2
  have hlb := unhide HLB
  have tA : Touch (fun k => k = w.heap.size) w2 V := ((Touch.of_below (S := fun _ => False) (unhide hA)).mono (fun _ h => h.elim)).trans (unhide V9).2
  obtain ⟨⟨us, sp⟩, nw, bl⟩ := unhide CP
  have hnew : ∀ u : Value, New w1 u → ∀ k, u.ownBlock = some k → ¬ (k = w.heap.size) := fun u hu k hk e => by
    have := hu k hk; omega
  refine ⟨a2, c2, rfl, ⟨us, (sp.keep tA (hnew _ nw)).imp (fun u l h => ⟨h.1.keep tA (hnew u h.2), h.2.mono (by omega)⟩)⟩, nw.mono (by omega), ?_, ?_⟩
  · exact ((unhide RD).keep (Touch.of_below (S := fun _ => False) bl) (fun h => h)).keep tA (by omega)
  · exact touch_new (touch_new (unhide TW) (Touch.of_below (S := fun _ => False) bl) (fun k hk => hk.elim)) tA (fun k hk => .inr (by omega))
end
end Go.Proofs.YtkcoeofbobkaoabGreatDoor
