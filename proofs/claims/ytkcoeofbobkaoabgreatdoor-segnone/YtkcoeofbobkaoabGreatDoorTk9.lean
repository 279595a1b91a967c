/-
  seglog's take of a file that holds the frame of one batch of three empty values. Conditions: what the log is.
-/
import Derived.Test.YtkcoeofbobkaoabGreatDoorDc8
import Derived.Test.YtkcoeofbobkaoabGreatDoorOn8
import Derived.Test.YtkcoeofbobkaoabGreatDoorBs8

/-
  seglog's take of a file that holds the frame of one batch of three empty values. Conditions: what the log is.
-/
namespace Go.Proofs.YtkcoeofbobkaoabGreatDoor
open Go.RowKit
set_option linter.unusedVariables false

/-- The batch that awake lays; its frame. -/
def b3 : Bt := ⟨0, 0, 0, 0, 0, false, false, false, [[], [], []]⟩
def t3 : List Nat := fenc (encB b3)
theorem b3_chk : chk b3 = 0 := by decide
theorem b3_fits : b3.Fits := ⟨by unfold I64 b3; simp, by unfold I64 b3; simp, by unfold b3; simp, by unfold I64 b3; simp, by unfold I64 b3; simp⟩
theorem b3_enc : encB b3 = [0, 0, 0, 0, 0, 0, 0, 0, 3, 0, 0, 0] := by
  have h0 : enc 0 = [0] := by rw [enc]; rfl
  have h3 : enc 3 = [3] := by rw [enc]; rfl
  have z0 : zig 0 = 0 := rfl
  simp [encB, b3, encVs, h0, h3, z0]
theorem t3_len : t3.length = 20 := by unfold t3; rw [fenc_len, b3_enc]; rfl
theorem t3_dec : dec t3 = (encB b3, 20, 0) := by
  have := dec_fenc (p := encB b3) (by rw [b3_enc]; decide) []
  rw [List.append_nil] at this
  unfold t3
  rw [this, b3_enc]; rfl
theorem nil_dec : dec [] = ([], 0, 6) := rfl
theorem f0_ok : okName f0 = true := by decide
theorem x3_low (a : Option Addr) (cap : Nat) : Low ⟨b3, 20, a, cap⟩ := ⟨by unfold b3; simp, by unfold b3; simp, by unfold b3 szB; simp, by simp⟩

/-- While take reads. -/
structure TkS (B : Nat) (w wr : World) (lb db : Nat) (S : Nat → Prop) (d : Dk) (sb : Nat) (tv : Value) (s : Sg) : Prop where
  lg : Lg0 B wr lb db S d p0
  sg : SgP wr sb 0 s
  hh : wr.heap[sb]? = some (.cells #[.int .i64 s.base, s.v, .int .i64 (s.last : Nat)] 104)
  tx : Row wr tv t3
  vals : ∀ x ∈ s.ls, Held S wr (.slice x.a x.b.vs.length x.cap) x.b.vs
  nv : New w s.v
  nb : w.heap.size ≤ sb
  nt : New w tv
  sl : ∀ k, S k → k < w.heap.size
  ll : lb < w.heap.size
  bl : Below B w wr
theorem row_not {w : World} {v : Value} {l : List Nat} (r : Row w v l) {g : Nat} {cs : Array Value} {t : TypeId} (h : w.heap[g]? = some (.cells cs t)) (ht : t ≠ 5) : ∀ k, v.ownBlock = some k → k ≠ g := fun k hk e => by
  obtain ⟨cs', h'⟩ := row_heap r hk
  rw [e, h] at h'
  cases h'
  exact ht rfl
theorem wide_not {w : World} {e : TypeId} {sz n : Nat} {v : Value} {xs : List Value} (r : Wide w e sz v n xs) {g : Nat} {cs : Array Value} {t : TypeId} (h : w.heap[g]? = some (.cells cs t)) (ht : t ≠ e) : ∀ k, v.ownBlock = some k → k ≠ g := fun k hk e' => by
  obtain ⟨cs', h'⟩ := r.heap hk
  rw [e', h] at h'
  cases h'
  exact ht rfl
section
variable {B : Nat} {w wr w' : World} {lb db : Nat} {S : Nat → Prop} {d : Dk} {sb : Nat} {tv : Value} {s : Sg}
theorem TkS.later (h : TkS B w wr lb db S d sb tv s) (hb : Below wr.heap.size wr w') : TkS B w w' lb db S d sb tv s :=
  ⟨h.lg.later hb, h.sg.keep (Touch.of_below (S := fun _ => False) hb) (lt_of_heap h.hh) (fun h => h) (fun _ _ h => h), by rw [hb.block sb (lt_of_heap h.hh)]; exact h.hh, h.tx.later hb, fun x hx => (h.vals x hx).later hb, h.nv, h.nb, h.nt, h.sl, h.ll, h.bl.trans (hb.mono h.lg.le)⟩
/-- The framer has worked. -/
theorem TkS.framed (h : TkS B w wr lb db S d sb tv s) (t : Touch (· = lb) wr w') (hr : Ready (Ot db p0 (.slice none 0 0)) w' lb) : TkS B w w' lb db S d sb tv s := by
  have hlb := h.ll
  have hS : ∀ k, S k → ¬ (k = lb) := fun k hk e => h.lg.ne (e ▸ hk)
  have hnew : ∀ u : Value, New w u → ∀ k, u.ownBlock = some k → ¬ (k = lb) := fun u hu k hk e => by have := hu k hk; omega
  refine ⟨⟨hr, h.lg.disk.keep t hS, h.lg.ne, h.lg.sB, h.lg.lB, Nat.le_trans h.lg.le t.size⟩, h.sg.keep t (lt_of_heap h.hh) (by have := h.nb; omega) (hnew _ h.nv), by rw [t.block sb (lt_of_heap h.hh) (by have := h.nb; omega)]; exact h.hh, h.tx.keep t (hnew _ h.nt), fun x hx => ?_, h.nv, h.nb, h.nt, h.sl, h.ll, below_touch h.bl t h.lg.le (fun k hk => by rw [hk]; exact h.lg.lB)⟩
  obtain ⟨cs, hl⟩ := h.lg.ready.heap
  obtain ⟨us, sp, hv⟩ := h.vals x hx
  refine ⟨us, (sp.keep t (fun k hk e => ?_)).imp (fun u l hu => ⟨hu.1.keep t (fun k hk e => row_not hu.1 hl (by decide) k hk e), hu.2⟩), hv⟩
  have : Wide wr 23 1 (.slice x.a x.b.vs.length x.cap) us.length us := sp.own
  exact wide_not this hl (by decide) k hk e
/-- A batch has been added. -/
theorem TkS.added (h : TkS B w wr lb db S d sb tv s) {x : Ld} {v' : Value} (h1 : SgP w' sb 0 ⟨s.base, v', s.ls ++ [x], s.last⟩) (h2 : w'.heap[sb]? = some (.cells ((#[.int .i64 s.base, s.v, .int .i64 (s.last : Nat)] : Array Value).setIfInBounds 1 v') 104)) (t : Touch (fun k => k = sb ∨ s.v.ownBlock = some k) wr w') (m : Moved wr s.v v') (hx : Held S wr (.slice x.a x.b.vs.length x.cap) x.b.vs) (hw : w.heap.size ≤ wr.heap.size) : TkS B w w' lb db S d sb tv ⟨s.base, v', s.ls ++ [x], s.last⟩ := by
  have hnb := h.nb
  have hll := h.ll
  have hS : ∀ k, S k → ¬ (k = sb ∨ s.v.ownBlock = some k) := fun k hk e => by
    have := h.sl k hk
    rcases e with e | e
    · omega
    · have := h.nv k e; omega
  have hlbn : ¬ (lb = sb ∨ s.v.ownBlock = some lb) := fun e => by
    rcases e with e | e
    · omega
    · have := h.nv lb e; omega
  have hrow : ∀ (u : Value) (l : List Nat), Row wr u l → ∀ k, u.ownBlock = some k → ¬ (k = sb ∨ s.v.ownBlock = some k) := fun u l hu k hk e => by
    rcases e with e | e
    · exact row_not hu h.hh (by decide) k hk e
    · obtain ⟨cs', h'⟩ := h.sg.row.heap e
      exact row_not hu h' (by decide) k hk rfl
  have hheld : ∀ y : Ld, Held S wr (.slice y.a y.b.vs.length y.cap) y.b.vs → Held S w' (.slice y.a y.b.vs.length y.cap) y.b.vs := fun y hy => by
    obtain ⟨us, sp, hv⟩ := hy
    refine ⟨us, (sp.keep t (fun k hk e => ?_)).imp (fun u l hu => ⟨hu.1.keep t (hrow u l hu.1), hu.2⟩), hv⟩
    have hw : Wide wr 23 1 (.slice y.a y.b.vs.length y.cap) us.length us := sp.own
    rcases e with e | e
    · exact wide_not hw h.hh (by decide) k hk e
    · obtain ⟨cs', h'⟩ := h.sg.row.heap e
      exact wide_not hw h' (by decide) k hk rfl
  refine ⟨⟨h.lg.ready.keep t hlbn, h.lg.disk.keep t hS, h.lg.ne, h.lg.sB, h.lg.lB, Nat.le_trans h.lg.le t.size⟩, h1, h2, h.tx.keep t (hrow _ _ h.tx), fun y hy => ?_, fun k hk => ?_, h.nb, h.nt, h.sl, h.ll, below_touch h.bl t h.lg.le (fun k hk => ?_)⟩
  · rcases List.mem_append.1 hy with e | e
    · exact hheld y (h.vals y e)
    · rw [List.mem_singleton] at e; rw [e]; exact hheld x hx
  · rcases m k hk with e | e
    · exact h.nv k e
    · omega
  · have hBw : B ≤ w.heap.size := by have := h.lg.lB; omega
    rcases hk with e | e
    · omega
    · have := h.nv k e; omega
end
end Go.Proofs.YtkcoeofbobkaoabGreatDoor


namespace Go.Proofs.YtkcoeofbobkaoabGreatDoor
open Go.RowKit
set_option linter.unusedVariables false

def TkPost (B : Nat) (w : World) (lb db : Nat) (la : Nat) (e : Ending) (w' : World) : Prop :=
  e = .returned (.tuple #[.bool true, .int .i64 0]) ∧ ∃ S' gs cap v a c, Lg1 B w' lb db S' (one f0 t3 la) p0 gs cap ⟨0, v, [⟨b3, 20, a, c⟩], la⟩ ∧ Below B w w'
/-- How many batches are still to come. -/
def tkM (sb : Nat) (w : World) : Nat := match w.cell? ⟨sb, 1, none⟩ with | some (.slice _ n _) => 1 - n | _ => 0
theorem tkM_of {sb : Nat} {w : World} {s : Sg} (h : SgP w sb 0 s) : tkM sb w = 1 - s.ls.length := by
  obtain ⟨a, cap, e⟩ := h.row.shape
  have := h.c1
  unfold tkM
  rw [show (0 + 1 : Nat) = 1 from rfl, e] at this
  rw [this]
theorem cut_block8 {a : Option Addr} {k cap : Nat} {x : Addr} (h : cut a k cap = some x) : ∃ y, a = some y ∧ x.block = y.block := by
  unfold cut at h
  split at h
  · exact ⟨x, h, rfl⟩
  · cases a with
    | none => cases h
    | some y =>
      simp at h
      refine ⟨y, rfl, ?_⟩
      rw [← h]
      unfold Addr.add
      split <;> rfl
theorem cut_none8 {a : Option Addr} {k cap : Nat} (h : cut a k cap = none) : a = none := by
  unfold cut at h
  split at h
  · exact h
  · cases a with
    | none => rfl
    | some y => simp at h
theorem Held.ofPaid {T : Nat → Prop} {w w' : World} {v : Value} {ls : List (List Nat)} (h : Paid w w' v ls) (hn : New w v) (hT : ∀ k, T k → k < w.heap.size) : Held T w' v ls := by
  obtain ⟨vs, hs⟩ := h
  exact ⟨vs, hs.imp (fun u l hu => ⟨hu.1, fun k hk e => by have := hu.2 k hk; have := hT k e; omega⟩), fun k hk e => by have := hn k hk; have := hT k e; omega⟩
abbrev s0 : Sg := ⟨0, .slice none 0 0, [], 0⟩
theorem drop_none : t3.drop 0 = t3 := rfl
theorem drop_all : t3.drop 20 = [] := by rw [List.drop_eq_nil_iff, t3_len]; omega

/-- Nothing of the log's values lies in a block of another type. -/
theorem Held.not {T : Nat → Prop} {w w' : World} {v : Value} {ls : List (List Nat)} (h : Held T w v ls) {g : Nat} {cs : Array Value} {t : TypeId} (hg : w.heap[g]? = some (.cells cs t)) (h1 : t ≠ 5) (h2 : t ≠ 23) (tc : Touch (· = g) w w') : Held T w' v ls := by
  obtain ⟨us, sp, hv⟩ := h
  have hw : Wide w 23 1 v us.length us := sp.own
  exact ⟨us, (sp.keep tc (fun k hk e => wide_not hw hg h2 k hk e)).imp (fun u l hu => ⟨hu.1.keep tc (fun k hk e => row_not hu.1 hg h1 k hk e), hu.2⟩), hv⟩
theorem seg_info : ∃ i z, Tryz.prog.info? 104 = some i ∧ i.zero = some z ∧ i.size = 3 ∧ i.bytes = 40 ∧ z.cells.size = 3 := by
  have h : (Tryz.prog.info? 104).map (fun i => (i.zero.map (fun z => z.cells.size), i.size, i.bytes)) = some (some 3, 3, 40) := by kernel_rfl
  cases hi : Tryz.prog.info? 104 with
  | none => rw [hi] at h; cases h
  | some i =>
    rw [hi] at h
    simp only [Option.map_some, Option.some.injEq, Prod.mk.injEq] at h
    obtain ⟨h1, h2, h3⟩ := h
    cases hz : i.zero with
    | none => rw [hz] at h1; cases h1
    | some z => rw [hz] at h1; exact ⟨i, z, rfl, hz, h2, h3, by simpa using h1⟩
theorem step_seg {ops : Array Oper} {o : Oper} {a : Act} {w : World} {K : Act → World → Prop} {Q : Exit → Act → World → Prop} {E : Prop}
    (hg : o.guard = none) (s x : Operand) (hop : o.op = Op.call { callee := Callee.builtin Builtin.append, args := #[s, x], argTypes := #[95, 95] })
    (v : Value) (n : Nat) (xs : List Value) (hs : a.eval s = v) (hr : Wide w 104 3 v n xs) (g : Nat) (cs : Array Value) (news : List Value) (hx : a.eval x = .slice (some ⟨g, 0, none⟩) 1 1) (hu : w.heap[g]? = some (.cells cs 104)) (hcs : cs.toList = news) (hl : news.length = 3) (h1 : ∀ u ∈ news, u.oneCell' = true) (hlen : n ≤ 1099511627776)
    (hK : ∀ v' w', Wide w' 104 3 v' (n + 1) (xs ++ news) → Touch (fun k => v.ownBlock = some k) w w' → Moved w v v' → K (a.put o.dst v') w') :
    if Region.wanted o (yielded ops a.tmps) = true then Oper.wp Tryz.prog o a w K Q else E := by
  have hw : Region.wanted o (yielded ops a.tmps) = true := by simp [Region.wanted, hg]
  rw [if_pos hw]
  obtain ⟨i, z, hi, hz, hsz, hby, hzs⟩ := seg_info
  obtain ⟨v', w', hrun, r1, r2, r3⟩ := run_wide (P := Tryz.prog) w 95 o.type 104 i z 3 40 Tryz.underlying95 hi hz hsz hby hzs (by omega) v n xs hr g 0 1 news hl (fun j u hj => by rw [cell_of hu, Nat.zero_add, ← Array.getElem?_toList, hcs]; exact hj) h1 (by unfold maxLen; omega) (by omega)
  unfold Oper.wp
  simp [execOp, hop, resolve, invoke, builtin, hs, hx, hrun, Result.andThen]
  exact hK v' w' r1 r2 r3
/-- The row of segments stands: a log with one. -/
theorem lg1_of {B : Nat} {u w10 : World} {lb db : Nat} {S : Nat → Prop} {d : Dk} {nm : ByteArray} {s : Sg} {gs cap : Nat} (hr : Ready (Ot db nm (.slice none 0 0)) w10 lb) (hd : Disky w10 db S d) (hn : ¬ S lb) (hsB : ∀ k, S k → B ≤ k) (hlB : B ≤ lb) (hle : B ≤ u.heap.size)
    (hrow : Wide w10 104 3 (.slice (some ⟨gs, 0, none⟩) 1 cap) 1 (sgC s)) (hg : u.heap.size ≤ gs) (hS : ∀ k, S k → k < u.heap.size) (hlu : lb < u.heap.size) (hu : u.heap.size ≤ w10.heap.size)
    (hlr : Wide w10 107 10 s.v s.ls.length (s.ls.flatMap ldC)) (hlow : ∀ x ∈ s.ls, Low x) (h1 : 0 ≤ s.base) (h2 : s.base ≤ 1099511627776) (hv : ∀ k, s.v.ownBlock = some k → ¬ S k ∧ B ≤ k ∧ k ≠ lb) (hvals : ∀ x ∈ s.ls, Held S w10 (.slice x.a x.b.vs.length x.cap) x.b.vs) :
    Lg1 B (w10.setCell ⟨lb, 261, none⟩ (.slice (some ⟨gs, 0, none⟩) 1 cap)) lb db S d nm gs cap s := by
  have ts := touch_set w10 lb 261 (.slice (some ⟨gs, 0, none⟩) 1 cap)
  have hrow' := hrow.keep ts (fun k hk e => by have hk' : gs = k := by simpa [Value.ownBlock] using hk
                                               omega)
  obtain ⟨_, _, e, _, _, _, _, hp⟩ := hrow'.parts
  obtain ⟨g, ha, hgl, hc, _⟩ := hp (by omega)
  cases e
  cases ha
  obtain ⟨cs, hlh⟩ := hr.heap
  refine ⟨hr.setSize _, hd.keep ts (fun k hk e => hn (e ▸ hk)), hrow', ⟨?_, ?_, ?_, hlr.keep ts (fun k hk => (hv k hk).2.2), hlow, h1, h2⟩, fun x hx => (hvals x hx).not hlh (by decide) (by decide) ts, hn, fun e => by have := hS _ e; omega, fun k hk => (hv k hk).1, hsB, hlB, by omega, fun k hk => (hv k hk).2.1, by simp; omega⟩
  · exact hc 0 (by omega)
  · exact hc 1 (by omega)
  · exact hc 2 (by omega)
/-- When take has cut the file. -/
structure TkE (B : Nat) (w wr : World) (lb db : Nat) (S : Nat → Prop) (d : Dk) (sb : Nat) (s : Sg) : Prop where
  lg : Lg0 B wr lb db S d p0
  sg : SgP wr sb 0 s
  hh : wr.heap[sb]? = some (.cells #[.int .i64 s.base, s.v, .int .i64 (s.last : Nat)] 104)
  vals : ∀ x ∈ s.ls, Held S wr (.slice x.a x.b.vs.length x.cap) x.b.vs
  ns : ¬ S sb
  nev : ∀ k, s.v.ownBlock = some k → ¬ S k ∧ B ≤ k ∧ k ≠ sb ∧ k ≠ lb
  sB : B ≤ sb
  sl : sb ≠ lb
  bl : Below B w wr
theorem TkS.cutted {B : Nat} {w wr w' : World} {lb db : Nat} {S : Nat → Prop} {d d' : Dk} {sb : Nat} {tv : Value} {s : Sg} (h : TkS B w wr lb db S d sb tv s) (g : Went wr w' db S d') : ∃ S', TkE B w w' lb db S' d' sb s := by
  obtain ⟨S', d1, t1, m1⟩ := g
  have hsb := lt_of_heap h.hh
  have hnb := h.nb
  have hll := h.ll
  have hBw : B ≤ w.heap.size := by have := h.lg.lB; omega
  have hn : ∀ k, k < wr.heap.size → ¬ S k → ¬ S' k := fun k hk h1 h2 => by
    rcases m1 _ h2 with e | e
    · exact h1 e
    · omega
  have hS : ∀ k, w.heap.size ≤ k → ¬ S k := fun k hk e => by have := h.sl k e; omega
  refine ⟨S', ⟨h.lg.ready.keep t1 h.lg.ne, d1, hn _ (by have := h.lg.ready.lt; omega) h.lg.ne, fun k hk => ?_, h.lg.lB, Nat.le_trans h.lg.le t1.size⟩, h.sg.keep t1 hsb (hS _ hnb) (fun k hk => hS k (h.nv k hk)), by rw [t1.block sb hsb (hS _ hnb)]; exact h.hh, fun x hx => (h.vals x hx).step t1 m1, hn _ hsb (hS _ hnb), fun k hk => ⟨hn k (h.sg.row.lt k hk) (hS k (h.nv k hk)), ?_, ?_, ?_⟩, by omega, by omega, below_touch h.bl t1 h.lg.le h.lg.sB⟩
  · rcases m1 _ hk with e | e
    · exact h.lg.sB k e
    · exact Nat.le_trans h.lg.le e
  · have := h.nv k hk; omega
  · exact wide_not h.sg.row h.hh (by decide) k hk
  · have := h.nv k hk; omega
theorem TkE.later {B : Nat} {w wr w' : World} {lb db : Nat} {S : Nat → Prop} {d : Dk} {sb : Nat} {s : Sg} (h : TkE B w wr lb db S d sb s) (hb : Below wr.heap.size wr w') : TkE B w w' lb db S d sb s :=
  ⟨h.lg.later hb, h.sg.keep (Touch.of_below (S := fun _ => False) hb) (lt_of_heap h.hh) (fun h => h) (fun _ _ h => h), by rw [hb.block sb (lt_of_heap h.hh)]; exact h.hh, fun x hx => (h.vals x hx).later hb, h.ns, h.nev, h.sB, h.sl, h.bl.trans (hb.mono h.lg.le)⟩
theorem TkE.lasts {B : Nat} {w wr : World} {lb db : Nat} {S : Nat → Prop} {d : Dk} {sb : Nat} {s : Sg} (h : TkE B w wr lb db S d sb s) (n : Nat) : TkE B w (wr.setCell ⟨sb, 2, none⟩ (.int .i64 (n : Nat))) lb db S d sb ⟨s.base, s.v, s.ls, n⟩ := by
  have ts := touch_set wr sb 2 (.int .i64 (n : Nat))
  have hh := heap_set h.hh 2 (.int .i64 (n : Nat))
  have hrow := h.sg.row.keep ts (fun k hk => (h.nev k hk).2.2.1)
  exact ⟨⟨h.lg.ready.keep ts (fun e => h.sl e.symm), h.lg.disk.keep ts (fun k hk e => h.ns (e ▸ hk)), h.lg.ne, h.lg.sB, h.lg.lB, by simpa using h.lg.le⟩, ⟨cell_of hh 0, cell_of hh 1, cell_of hh 2, hrow, h.sg.low, h.sg.blo, h.sg.bhi⟩, hh, fun x hx => (h.vals x hx).not h.hh (by decide) (by decide) ts, h.ns, h.nev, h.sB, h.sl, below_touch h.bl ts h.lg.le (fun k hk => by rw [hk]; exact h.sB)⟩
section
variable {B : Nat} {w : World} {lb db : Nat} {S : Nat → Prop} {la : Nat}
set_option maxRecDepth 100000 in
set_option maxHeartbeats 4000000 in
theorem take1 (h : Lg0 B w lb db S (one f0 t3 la) p0) (hla : la ≤ 20) :
    Calls Tryz.prog 69 #[.pointer (some ⟨lb, 0, none⟩), .int .i64 0] w fun e w' => TkPost B w lb db la e w' := by
  obtain ⟨x0, x1, x2⟩ := h.ready.outer
  simp only at x0 x1 x2
  have hlb := h.ready.lt
  have FI := hide (file_any (i := 0) x1 (by decide) hlb (by omega))
  rw [fileN_zero] at FI
  have HL := hide h
  clear h
  go_enter Tryz.func69, Tryz.ntmps69
  go_wp2_with fail
  refine (unhide FI).mono ?_
  rintro e w1 ⟨rfl, b1⟩
  have L1 := hide ((unhide HL).later b1)
  have B1 := hide (b1.mono (unhide HL).le)
  have hw1 : w.heap.size ≤ w1.heap.size := b1.size
  have y0 : w1.cell? ⟨lb, 0, none⟩ = some (.pointer (some ⟨db, 0, none⟩)) := (b1.cell (p := ⟨lb, 0, none⟩) hlb).trans x0
  have RD := dread_any (s := f0) (unhide L1).disk (by decide)
  rw [one_find f0_ok, one_rd f0_ok] at RD
  simp only at RD
  have RDH := hide RD
  have HX := hide hw1
  have HLB := hide hlb
  clear b1 FI x0 x1 x2 RD hw1
  go_wp2_with fail
  refine (unhide RDH).mono ?_
  rintro e w2 ⟨tv, rfl, r2, n2, b2⟩
  obtain ⟨a2, c2, rfl, l2, hc2, hm2, hn2, ho2, _⟩ := r2.parts
  rw [t3_len] at hc2
  have hb2 : Below w2.heap.size w2 (w2.alloc (.cells #[.int .i64 0, .slice none 0 0, .int .i64 0] 104)) := (Below.refl _ _).alloc (Nat.le_refl _) _
  have hw2 : w.heap.size ≤ w2.heap.size := Nat.le_trans (unhide HX) b2.size
  have hst : (w2.alloc (.cells #[.int .i64 0, .slice none 0 0, .int .i64 0] 104)).heap[w2.heap.size]? = some (.cells #[.int .i64 0, .slice none 0 0, .int .i64 0] 104) := heap_new _ _
  have TS : Hid (TkS B w (w2.alloc (.cells #[.int .i64 0, .slice none 0 0, .int .i64 0] 104)) lb db S (one f0 t3 la) w2.heap.size (.slice a2 t3.length c2) s0) :=
    ⟨((unhide L1).later b2).later hb2, ⟨cell_of hst 0, cell_of hst 1, cell_of hst 2, Wide.nil _ _ _, fun x hx => (by cases hx), by simp, by simp⟩, hst, r2.later hb2, fun x hx => (by cases hx), New.nil _, hw2, n2.mono (unhide HX), fun k hk => (unhide HL).disk.lt k hk, hlb, (unhide B1).trans ((b2.mono (unhide L1).le).trans (hb2.mono (Nat.le_trans (unhide L1).le b2.size)))⟩
  have HC2 := hide hc2
  have HN2 := hide hn2
  have HM2 := hide hm2
  have HW2 := hide hw2
  have HLT : Hid (w2.heap.size < (w2.alloc (.cells #[.int .i64 0, .slice none 0 0, .int .i64 0] 104)).heap.size) := lt_of_heap hst
  rw [t3_len] at TS ⊢
  clear r2 n2 b2 l2 ho2 hb2 hst RDH L1 B1 hc2 hn2 hm2 hw2 y0
  go_wp2_with fail
  generalize w2.alloc (.cells #[.int .i64 0, .slice none 0 0, .int .i64 0] 104) = W at *
  generalize w2.heap.size = sb at *
  go_loopw [12] (fun _ wr => ∃ s, TkS B w wr lb db S (one f0 t3 la) sb (.slice a2 20 c2) s ∧ (s = s0 ∨ ∃ v a c, s = ⟨0, v, [⟨b3, 20, a, c⟩], 0⟩)) (fun _ wr => tkM sb wr)
  case atStart => exact ⟨_, unhide TS, .inl rfl⟩
  case round =>
    obtain ⟨s, tk, hs⟩ := hrel
    have hsb : sb < wr.heap.size := lt_of_heap tk.hh
    obtain ⟨a', cp', e', l2, _, _, _, ho2, _⟩ := tk.tx.parts
    injection e' with e1 e2 e3
    subst e1
    subst e3
    clear e2
    have hwl : w.heap.size ≤ wr.heap.size := Nat.le_of_lt (Nat.lt_of_le_of_lt tk.nb hsb)
    have SZ : Hid (∀ W, Below wr.heap.size wr W → Calls Tryz.prog 63 #[.pointer (some ⟨sb, 0, none⟩)] W fun e w' => e = .returned (.int .i64 (sizeS s.ls : Nat)) ∧ ∃ n, w' = W.drewN n) := fun W hb => segSize_any (tk.later hb).sg
    have TX : ∀ k, t3.length = 20 → k ≤ 20 → ∀ W, Below wr.heap.size wr W → LAt W (cut a2 k c2) (t3.drop k) := fun k _ _ W hb => (l2.later hb).drop (by rw [t3_len]; exact unhide HC2) k
    rcases hs with rfl | ⟨v, a, c, rfl⟩
    · -- the first batch
      have hsl : ∀ W : World, (Instr.slice 23 (.slice a2 20 c2) (some (.int .i64 0)) none none).run Tryz.prog W = .ok (.slice (cut a2 0 c2) 20 (c2 - 0)) W := fun W => slice_l a2 20 c2 0 (by omega) W
      have DC : Hid (∀ n, Calls Tryz.prog 96 #[.pointer (some ⟨lb, 0, none⟩), .slice (cut a2 0 c2) 20 (c2 - 0)] (wr.drewN n) fun e w' => ∃ a4 c4, e = .returned (.tuple #[.agg #[.int .i64 0, .int .i64 0, .int .u64 0, .int .i64 0, .int .i64 0, .bool false, .bool false, .bool false, .slice a4 3 c4], .int .i64 20, .int .i64 0]) ∧ Paid (wr.drewN n) w' (.slice a4 3 c4) b3.vs ∧ New (wr.drewN n) (.slice a4 3 c4) ∧ Ready (Ot db p0 (.slice none 0 0)) w' lb ∧ Touch (· = lb) (wr.drewN n) w') := fun n => by
        have hb := below_drewN3 (Below.refl wr.heap.size wr) n
        have := decode_ok (cap := c2 - 0) ((tk.later hb).lg.ready) (TX 0 t3_len (by omega) _ hb) (fun h => by have := unhide HN2 (cut_none8 h); omega) (by rw [drop_none, t3_len]; have := unhide HC2; omega) (fun _ x hx e => by obtain ⟨y, hy, e2⟩ := cut_block8 hx; have := tk.nt _ (ho2 y hy); have := tk.ll; omega) (by rw [drop_none, t3_len]; omega) (encB b3) 20 b3 (by rw [drop_none]; exact t3_dec) (there b3_fits b3_chk).1 (there b3_fits b3_chk).2 (by rw [b3_enc]; decide)
        rw [drop_none, t3_len] at this
        exact this
      have SZ0 : Hid (Calls Tryz.prog 63 #[.pointer (some ⟨sb, 0, none⟩)] wr fun e w' => e = .returned (.int .i64 0) ∧ ∃ n, w' = wr.drewN n) := unhide SZ wr (Below.refl _ _)
      have TK := hide tk
      have M0 : Hid (tkM sb wr = 1) := tkM_of tk.sg
      clear tk l2 ho2 TX SZ
      go_wp2_with fail
      refine (unhide SZ0).mono ?_
      rintro e w3 ⟨rfl, n, rfl⟩
      go_wp2_with fail
      refine (unhide DC n).mono ?_
      rintro e w4 ⟨a4, c4, rfl, pd, nw, rdy, tch⟩
      have TK4 := hide (((unhide TK).later (below_drewN3 (Below.refl _ _) n)).framed tch rdy)
      have X4 : Hid (Held S w4 (.slice a4 3 c4) b3.vs) := Held.ofPaid pd nw (fun k hk => Nat.lt_of_lt_of_le ((unhide TK).sl k hk) hwl)
      have C4 : Hid (a4 = none → c4 = 0) := by obtain ⟨_, _, e1, _, _, _, h3, _⟩ := pd.parts; cases e1; exact h3
      have hb5 : Hid (Below w4.heap.size w4 (w4.alloc (.cells #[.int .i64 0, .int .i64 0, .int .u64 0, .int .i64 0, .int .i64 0, .bool false, .bool false, .bool false, .slice a4 3 c4] 29))) := (Below.refl _ _).alloc (Nat.le_refl _) _
      have BX5 : Hid (Box (w4.alloc (.cells #[.int .i64 0, .int .i64 0, .int .u64 0, .int .i64 0, .int .i64 0, .bool false, .bool false, .bool false, .slice a4 3 c4] 29)) w4.heap.size b3 a4 c4) := Box.new w4 b3 a4 c4
      have T5 := hide ((unhide TK4).later (unhide hb5))
      have H5 := hide ((unhide X4).later (unhide hb5))
      have KE : Hid (∀ W, Below (w4.alloc (.cells #[.int .i64 0, .int .i64 0, .int .u64 0, .int .i64 0, .int .i64 0, .bool false, .bool false, .bool false, .slice a4 3 c4] 29)).heap.size (w4.alloc (.cells #[.int .i64 0, .int .i64 0, .int .u64 0, .int .i64 0, .int .i64 0, .bool false, .bool false, .bool false, .slice a4 3 c4] 29)) W → Calls Tryz.prog 43 #[.pointer (some ⟨sb, 0, none⟩)] W fun e w'' => e = .returned (.int .i64 0) ∧ Below (w4.alloc (.cells #[.int .i64 0, .int .i64 0, .int .u64 0, .int .i64 0, .int .i64 0, .bool false, .bool false, .bool false, .slice a4 3 c4] 29)).heap.size (w4.alloc (.cells #[.int .i64 0, .int .i64 0, .int .u64 0, .int .i64 0, .int .i64 0, .bool false, .bool false, .bool false, .slice a4 3 c4] 29)) w'') := fun W hb => by
        have tt := (unhide T5).later hb
        exact (segEnd_any tt.sg (lt_of_heap tt.hh)).mono fun e w'' h => ⟨h.1, hb.trans (h.2.mono hb.size)⟩
      have h58 : Hid (w4.heap.size < (w4.alloc (.cells #[.int .i64 0, .int .i64 0, .int .u64 0, .int .i64 0, .int .i64 0, .bool false, .bool false, .bool false, .slice a4 3 c4] 29)).heap.size) := by show _ < _; simp
      clear pd nw rdy tch DC SZ0 hb5 X4 TK4
      go_wp2_with fail
      generalize (w4.alloc (.cells #[.int .i64 0, .int .i64 0, .int .u64 0, .int .i64 0, .int .i64 0, .bool false, .bool false, .bool false, .slice a4 3 c4] 29)) = W5 at *
      generalize w4.heap.size = bx at *
      obtain ⟨k0, k1, k2, k3, k4, k5, k6, k7, k8⟩ := (unhide BX5).cells
      simp only [b3] at k0 k1 k2 k3 k4 k5 k6 k7 k8
      have K0 := hide k0
      go_region_held3 (fun w' => w'.cell? ⟨bx, 0, none⟩ = some (.int .i64 0)) (first | exact unhide K0 | exact (Below.cell (p := ⟨bx, 0, none⟩) (by go_grown) (unhide h58)).trans (unhide K0)) (first
        | (go_at_call 43; refine (unhide KE _ (by go_grown)).mono ?_; rintro e w6 ⟨rfl, b6⟩))
      all_goals
        have T6 := hide ((unhide T5).later b6)
        have H6 := hide ((unhide H5).later b6)
        obtain ⟨k0, k1, k2, k3, k4, k5, k6, k7, k8⟩ := ((unhide BX5).later b6).cells
        simp only [b3] at k0 k1 k2 k3 k4 k5 k6 k7 k8
        have AD : Hid (Calls Tryz.prog 55 #[.pointer (some ⟨sb, 0, none⟩), .agg #[.int .i64 0, .int .i64 0, .int .u64 0, .int .i64 0, .int .i64 0, .bool false, .bool false, .bool false, .slice a4 3 c4], .int .i64 20] w6 fun e w' => AdPost w6 sb 0 #[.int .i64 0, .slice none 0 0, .int .i64 0] 104 s0 ⟨b3, 20, a4, c4⟩ e w') := sadd_any (unhide T6).sg (unhide T6).hh (by simp [Value.ownBlock]) b3 a4 c4 20 20 (x3_low a4 c4) (by simp [sizeS_nil]) (by simp) (by simp [sizeS_nil])
        clear b6 KE BX5 T5 H5
        go_wp2_with fail
        refine (unhide AD).mono ?_
        rintro e w7 ⟨rfl, v7, g7, h7, t7, m7⟩
        have NX := hide ((unhide T6).added (x := ⟨b3, 20, a4, c4⟩) g7 h7 t7 m7 (unhide H6) (Nat.le_of_lt (Nat.lt_of_le_of_lt (unhide T6).nb (lt_of_heap (unhide T6).hh))))
        have M7 : Hid (tkM sb w7 = 0) := tkM_of g7
        clear g7 h7 t7 m7 AD
        go_wp2
        go_roundw
        case rel => exact ⟨_, unhide NX, .inr ⟨v7, a4, c4, rfl⟩⟩
        case measure => rw [unhide M7, unhide M0]; omega
    · have SZB : Hid (∀ W, Below wr.heap.size wr W → Calls Tryz.prog 63 #[.pointer (some ⟨sb, 0, none⟩)] W fun e w' => e = .returned (.int .i64 20) ∧ Below wr.heap.size wr w') := fun W hb => (unhide SZ W hb).mono fun e w' h => by
        obtain ⟨h1, n, rfl⟩ := h
        exact ⟨h1, below_drewN3 hb n⟩
      have hsl : ∀ W : World, (Instr.slice 23 (.slice a2 20 c2) (some (.int .i64 20)) none none).run Tryz.prog W = .ok (.slice (cut a2 20 c2) 0 (c2 - 20)) W := fun W => slice_l a2 20 c2 20 (by omega) W
      have DE : Hid (∀ W, Below wr.heap.size wr W → Calls Tryz.prog 96 #[.pointer (some ⟨lb, 0, none⟩), .slice (cut a2 20 c2) 0 (c2 - 20)] W fun e w' => e = .returned (.tuple #[.agg zc, .int .i64 0, .int .i64 6]) ∧ Ready (Ot db p0 (.slice none 0 0)) w' lb ∧ Touch (· = lb) W w') := fun W hb => by
        have h0 := TX 20 t3_len (by omega) W hb
        rw [drop_all] at h0
        exact decode_err (cap := c2 - 20) ((tk.later hb).lg.ready) h0 (fun h => by have := unhide HN2 (cut_none8 h); omega) (Nat.zero_le _) (fun h => by cases h) (by simp) 6 rfl (by omega)
      have TK := hide tk
      clear tk l2 ho2 TX SZ
      go_wp2_with fail
      refine (unhide SZB wr (Below.refl _ _)).mono ?_
      rintro e w3 ⟨rfl, b3'⟩
      have D3 := hide (unhide DE w3 b3')
      have TK3 := hide ((unhide TK).later b3')
      clear b3' DE
      go_wp2_with fail
      refine (unhide D3).mono ?_
      rintro e w4 ⟨rfl, rdy, tch⟩
      have TK4 := hide ((unhide TK3).framed tch rdy)
      clear rdy tch D3 TK3 TK SZB
      have hb5 : Hid (Below w4.heap.size w4 (w4.alloc (.cells zc 29))) := (Below.refl _ _).alloc (Nat.le_refl _) _
      have T5 := hide ((unhide TK4).later (unhide hb5))
      clear TK4 hb5
      go_wp2_with fail
      generalize w4.alloc (.cells zc 29) = W5 at *
      go_quiet (fail)
      go_wp2_with fail
      obtain ⟨x0, x1, x2⟩ := (unhide T5).lg.ready.outer
      simp only at x0 x1 x2
      have hlb5 : lb < W5.heap.size := (unhide T5).lg.ready.lt
      have X0 : Hid (W5.cell? ⟨lb, 0, none⟩ = some (.pointer (some ⟨db, 0, none⟩))) := x0
      have SZ5 : Hid (∀ W, Below W5.heap.size W5 W → Calls Tryz.prog 63 #[.pointer (some ⟨sb, 0, none⟩)] W fun e w' => e = .returned (.int .i64 20) ∧ Below W5.heap.size W5 w') := fun W hb => (segSize_any ((unhide T5).later hb).sg).mono fun e w' h => by
        obtain ⟨h1, n, rfl⟩ := h
        exact ⟨h1, below_drewN3 hb n⟩
      have CT : Hid (∀ W, Below W5.heap.size W5 W → Calls Tryz.prog 90 #[.pointer (some ⟨db, 0, none⟩), .string f0, .int .i64 20] W fun e w' => e = .returned (.int .i64 0) ∧ ∃ S', TkE B w w' lb db S' (one f0 t3 la) sb ⟨0, v, [⟨b3, 20, a, c⟩], 0⟩) := fun W hb => by
        have tt := (unhide T5).later hb
        have := dcut_ok (s := f0) tt.lg.disk (by decide) (one_find f0_ok) 20 (by rw [one_rd f0_ok]; rw [t3_len]; exact Nat.le_refl _)
        refine this.mono fun e w' h => ⟨h.1, ?_⟩
        have e20 : cutD (one f0 t3 la) f0 20 = one f0 t3 la := by have := one_cut (s := f0) (t := t3) (la := la) (by rw [t3_len]; exact hla); rw [t3_len] at this; exact this
        have g := h.2
        rw [e20] at g
        exact tt.cutted g
      clear T5 x1 x2 x0
      go_region_held3 (fun w' => w'.cell? ⟨lb, 0, none⟩ = some (.pointer (some ⟨db, 0, none⟩))) (first | exact unhide X0 | exact (unhide T7).lg.ready.outer.1 | exact (Below.cell (p := ⟨lb, 0, none⟩) (by first | assumption | (go_grown; done) | exact below_drewN3 (Below.refl _ _) _ | exact below_drewN3 (by assumption) _ | exact (below_drewN3 (Below.refl _ _) _).drew) hlb5).trans (unhide X0)) (first
        | (go_at_call 90; refine (unhide CT _ (by first | assumption | (go_grown; done) | exact below_drewN3 (Below.refl _ _) _ | exact below_drewN3 (by assumption) _ | exact (below_drewN3 (Below.refl _ _) _).drew)).mono ?_; rintro e w7 ⟨rfl, S7, t7⟩; have T7 := hide t7; clear t7)
        | (go_at_call 63; refine (unhide SZ5 _ (by first | assumption | (go_grown; done) | exact below_drewN3 (Below.refl _ _) _ | exact below_drewN3 (by assumption) _ | exact (below_drewN3 (Below.refl _ _) _).drew)).mono ?_; rintro e w6 ⟨rfl, b6⟩))
      all_goals
        have SI := dsize_any (s := f0) (unhide T7).lg.disk (by decide)
        rw [one_find f0_ok, one_rd f0_ok] at SI
        simp only [t3_len] at SI
        have SIH := hide SI
        have y0 := (unhide T7).lg.ready.outer.1
        simp only at y0
        clear SI CT SZ5 X0
        go_wp2_with fail
        refine (unhide SIH).mono ?_
        rintro e w8 ⟨rfl, n8, rfl⟩
        have T8 := hide ((unhide T7).later (below_drewN3 (Below.refl _ _) n8))
        have q2 : (w7.drewN n8).cell? ⟨sb, 2, none⟩ = some (.int .i64 0) := (unhide T8).sg.c2
        have z2 : (w7.drewN n8).frozen? ⟨sb, 2, none⟩ = false := frozen_of (unhide T8).hh 2
        have T9 := hide ((unhide T8).lasts la)
        clear SIH y0 T7
        go_wp2_with fail
        generalize (w7.drewN n8).setCell ⟨sb, 2, none⟩ (.int .i64 (la : Nat)) = U at *
        clear q2 z2 T8
        obtain ⟨u0, u1, u2⟩ := (unhide T9).lg.ready.outer
        simp only at u0 u1 u2
        have hlU : lb < U.heap.size := (unhide T9).lg.ready.lt
        have g0 := (unhide T9).sg.c0
        have g1 := (unhide T9).sg.c1
        have g2 := (unhide T9).sg.c2
        simp only [Nat.zero_add] at g0 g1 g2
        obtain ⟨av, capv, hv⟩ := (unhide T9).sg.row.shape
        simp only at hv
        subst hv
        have yA : ∀ (X : Obj), (U.drew.alloc X).cell? ⟨lb, 261, none⟩ = some (.slice none 0 0) := fun X => (((Below.refl U.drew.heap.size U.drew).alloc (Nat.le_refl _) X).cell (p := ⟨lb, 261, none⟩) hlU).trans u2
        obtain ⟨lcs, lh⟩ := (unhide T9).lg.ready.heap
        have LH := hide lh
        clear lh
        go_region_law (first
          | (refine step_seg rfl (.tmp 79) (.tmp 81) rfl (.slice none 0 0) 0 [] (by rfl) (Wide.nil _ _ _) _ _ _ (by rfl) (heap_new _ _) rfl rfl (by intro u hu; simp at hu; rcases hu with rfl | rfl | rfl <;> rfl) (by omega) ?_; intro v10 w10 o10 t10 m10; have y10 : w10.cell? ⟨lb, 261, none⟩ = some (.slice none 0 0) := keep_cell t10 (by simp [Value.ownBlock]) (by first | (go_grown; done) | exact ((Below.refl _ _).drew).alloc (Nat.le_refl _) _ | exact (Below.refl _ _).alloc (Nat.le_refl _) _) hlU u2; have H10 := hide (keep_heap t10 (by simp [Value.ownBlock]) (by first | (go_grown; done) | exact ((Below.refl _ _).drew).alloc (Nat.le_refl _) _ | exact (Below.refl _ _).alloc (Nat.le_refl _) _) (unhide LH)); have z10 : w10.frozen? ⟨lb, 261, none⟩ = false := frozen_of (unhide H10) 261; obtain ⟨a10, c10, rfl⟩ := o10.shape; have B10 : Hid (Below U.heap.size U w10) := below_touch (by first | (go_grown; done) | exact ((Below.refl _ _).drew).alloc (Nat.le_refl _) _ | exact (Below.refl _ _).alloc (Nat.le_refl _) _) t10 (by simp) (fun k hk => by simp [Value.ownBlock] at hk)))
        all_goals
          have t9 := unhide T9
          obtain ⟨a11, c11, e11, _, _, _, _, hp11⟩ := o10.parts
          obtain ⟨gs, ha11, hgl, _, _⟩ := hp11 (by omega)
          injection e11 with f1 f2 f3
          subst f1
          subst f3
          clear f2
          subst ha11
          have hgs : U.heap.size ≤ gs := by
            rcases m10 gs rfl with e | e
            · simp [Value.ownBlock] at e
            · simp at e; omega
          have b10 := unhide B10
          have LG : Hid (Lg1 B (w10.setCell ⟨lb, 261, none⟩ (.slice (some ⟨gs, 0, none⟩) 1 c10)) lb db S7 (one f0 t3 la) p0 gs c10 ⟨0, .slice av 1 capv, [⟨b3, 20, a, c⟩], la⟩) :=
            lg1_of (u := U) (t9.lg.later b10).ready (t9.lg.later b10).disk t9.lg.ne t9.lg.sB t9.lg.lB t9.lg.le o10 hgs (fun k hk => t9.lg.disk.lt k hk) hlU b10.size (t9.later b10).sg.row t9.sg.low t9.sg.blo t9.sg.bhi (fun k hk => ⟨(t9.nev k hk).1, (t9.nev k hk).2.1, (t9.nev k hk).2.2.2⟩) (t9.later b10).vals
          have ts := touch_set w10 lb 261 (.slice (some ⟨gs, 0, none⟩) 1 c10)
          have SZ9 : Hid (Calls Tryz.prog 63 #[.pointer (some ⟨sb, 0, none⟩)] (w10.setCell ⟨lb, 261, none⟩ (.slice (some ⟨gs, 0, none⟩) 1 c10)) fun e w' => e = .returned (.int .i64 20) ∧ ∃ n, w' = (w10.setCell ⟨lb, 261, none⟩ (.slice (some ⟨gs, 0, none⟩) 1 c10)).drewN n) := segSize_any ((t9.later b10).sg.keep ts (lt_of_heap (t9.later b10).hh) t9.sl (fun k hk => (t9.nev k hk).2.2.2))
          have BL : Hid (Below B w (w10.setCell ⟨lb, 261, none⟩ (.slice (some ⟨gs, 0, none⟩) 1 c10))) := below_touch (t9.bl.trans (b10.mono t9.lg.le)) ts (Nat.le_trans t9.lg.le b10.size) (fun k hk => by rw [hk]; exact t9.lg.lB)
          clear t9 o10 t10 m10 y10 z10 H10 B10 b10 ts hp11 u0 u1 u2 g0 g1 g2 yA LH T9
          generalize w10.setCell ⟨lb, 261, none⟩ (.slice (some ⟨gs, 0, none⟩) 1 c10) = V at *
          go_wp2_with fail
          refine (unhide SZ9).mono ?_
          rintro e w12 ⟨rfl, n12, rfl⟩
          have F : Hid (TkPost B w lb db la (.returned (.tuple #[.bool true, .int .i64 0])) (V.drewN n12)) := ⟨rfl, S7, gs, c10, _, a, c, (unhide LG).later (below_drewN3 (Below.refl _ _) n12), (unhide BL).trans ((below_drewN3 (Below.refl _ _) n12).mono (unhide LG).le)⟩
          clear LG SZ9 BL
          go_wp2
          go_returns
          exact unhide F
end
end Go.Proofs.YtkcoeofbobkaoabGreatDoor
