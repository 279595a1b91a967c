/-
  batch.Decode: the batch, or the first error. Conditions: the bytes are at most 2^47.
-/
import Derived.Test.YtkcoeofbobkaoabGreatDoorHd7
import Derived.Deep.RegionLaw

namespace Go.Proofs.YtkcoeofbobkaoabGreatDoor
open Go.RowKit
set_option linter.unusedVariables false

/-- What is read, in letters. -/
structure DecF (t : List Nat) (x1 x2 : Int) (x3 : Nat) (x4 x5 : Int) (x6 x7 x8 : Bool) (s8 : Rst) (n : Nat) (s9 : Rst) : Prop where
  hd : hdB t = ⟨x1, x2, x3, x4, x5, x6, x7, x8, []⟩
  st : (h8 t).2 = s8
  ct : rU t s8 = (n, s9)
  many : 16 < n → decE t = 2 ∧ decB t = zeroB
  ended : ¬ 16 < n → rE t (rVs t s9 n).2 ≠ 0 → decE t = rE t (rVs t s9 n).2 ∧ decB t = zeroB
  bad : ¬ 16 < n → rE t (rVs t s9 n).2 = 0 → chk ⟨x1, x2, x3, x4, x5, x6, x7, x8, (rVs t s9 n).1⟩ ≠ 0 → decE t = chk ⟨x1, x2, x3, x4, x5, x6, x7, x8, (rVs t s9 n).1⟩ ∧ decB t = zeroB
  ok : ¬ 16 < n → rE t (rVs t s9 n).2 = 0 → chk ⟨x1, x2, x3, x4, x5, x6, x7, x8, (rVs t s9 n).1⟩ = 0 → decE t = 0 ∧ decB t = ⟨x1, x2, x3, x4, x5, x6, x7, x8, (rVs t s9 n).1⟩
theorem decF (t : List Nat) : ∃ x1 x2 x3 x4 x5 x6 x7 x8 s8 n s9, DecF t x1 x2 x3 x4 x5 x6 x7 x8 s8 n s9 := by
  refine ⟨(h1 t).1, (h2 t).1, (h3 t).1, (h4 t).1, (h5 t).1, (h6 t).1, (h7 t).1, (h8 t).1, (h8 t).2, (h9 t).1, (h9 t).2, rfl, rfl, by rw [← h9_eq], ?_, ?_, ?_, ?_⟩
  · intro h
    have e := decE_many h
    exact ⟨e, decB_no (by rw [e]; omega)⟩
  · intro h k
    have e := decE_end h k
    exact ⟨e, decB_no (by rw [e]; exact k)⟩
  · intro h k c
    have e := decE_chk h k
    exact ⟨e, decB_no (by rw [e]; exact c)⟩
  · intro h k c
    have e := decE_chk h k
    have e2 : decE t = 0 := by rw [e]; exact c
    exact ⟨e2, decB_ok e2⟩
def DePost (w : World) (t : List Nat) (e : Ending) (w' : World) : Prop := ∃ a cap, e = .returned (.tuple #[bv (decB t) a cap, .int .i64 (decE t : Nat)]) ∧ Copied w w' (.slice a (decB t).vs.length cap) (decB t).vs
theorem DePost.no {w w' : World} {t : List Nat} {c : Nat} (hc : decE t = c) (hb : decB t = zeroB) (hw : Below w.heap.size w w') : DePost w t (.returned (.tuple #[.agg #[.int .i64 0, .int .i64 0, .int .u64 0, .int .i64 0, .int .i64 0, .bool false, .bool false, .bool false, .slice none 0 0], .int .i64 (c : Nat)])) w' := by
  refine ⟨none, 0, ?_, ?_⟩
  · rw [hc, hb]; rfl
  · rw [hb]; exact ⟨⟨[], Spine.nil _ _⟩, New.nil _, hw⟩

/-- What the loop has: the reader, the box, the values so far. -/
structure Dl (R : TypeId) (W wr : World) (g b : Nat) (a : Option Addr) (cap : Nat) (t : List Nat) (s : Rst) (ls : List (List Nat)) (hd : Array Value) (v : Value) (vs : List Value) : Prop where
  sp : Spine (Mine4 W wr) wr v vs ls
  nw : New W v
  rd : RdAt R wr b a cap t s
  bx : Blk wr g (hd.push v)
  tc : Touch (fun k => k = b ∨ k = g) W wr

theorem Blk.drewN {w : World} {g : Nat} {cs : Array Value} (h : Blk w g cs) (n : Nat) : Blk (w.drewN n) g cs := h
section
variable {R : TypeId} {W wr : World} {g b : Nat} {a : Option Addr} {cap : Nat} {t : List Nat} {s : Rst} {ls : List (List Nat)} {hd : Array Value} {v : Value} {vs : List Value}
theorem Dl.drewN (h : Dl R W wr g b a cap t s ls hd v vs) (n : Nat) : Dl R W (wr.drewN n) g b a cap t s ls hd v vs :=
  ⟨(h.sp.drewN n).imp (fun u l e => ⟨e.1.keep (touch_drewN (S := fun _ => False) wr n) (fun _ _ h => h), e.2⟩), h.nw, h.rd.drewN n, h.bx, h.tc.trans (touch_drewN wr n)⟩
theorem Dl.later {w' : World} (h : Dl R W wr g b a cap t s ls hd v vs) (hb : Below wr.heap.size wr w') : Dl R W w' g b a cap t s ls hd v vs :=
  ⟨(h.sp.later hb).imp (fun u l e => ⟨e.1.later hb, e.2⟩), h.nw, h.rd.later hb, h.bx.keep (Touch.of_below (S := fun _ => False) hb) (fun h => h), h.tc.trans (Touch.of_below hb)⟩
end
theorem check7 (b : Bt) (a : Option Addr) (cap : Nat) (w : World) (hp : RAt w a b.vs) (m : Nat) (hm : b.vs.length = m) :
    Calls Tryz.prog 76 #[.agg #[.int .i64 b.base, .int .i64 b.epoch, .int .u64 (b.pid : Int), .int .i64 b.pep, .int .i64 b.seq, .bool b.txn, .bool b.ctl, .bool b.com, .slice a m cap]] w fun e w' => IntPost w (chk b) e w' := by
  subst hm; exact check_any b a cap w hp

theorem own_shape {w : World} {e : TypeId} {v : Value} {xs : List Value} (h : Own w e v xs) : ∃ a n c, v = .slice a n c := by
  obtain ⟨a, cap, e, _⟩ := h.parts; exact ⟨a, _, cap, e⟩
/-- What a call of Bytes leaves. -/
structure AftB (R : TypeId) (W wr w' : World) (g b : Nat) (a : Option Addr) (cap : Nat) (t : List Nat) (s : Rst) (l : List Nat) (old v : Value) : Prop where
  row : Row w' v l
  nw : New W v
  rd : RdAt R w' b a cap t s
  tc : Touch (· = b) wr w'
  cell : w'.cell? ⟨g, 8, none⟩ = some old
theorem aft_touch {R : TypeId} {W wr w' w'' : World} {g b : Nat} {a : Option Addr} {cap : Nat} {t : List Nat} {s : Rst} {l : List Nat} {old v : Value} (h : AftB R W wr w' g b a cap t s l old v) (k : Touch (fun _ => False) w' w'') : Touch (· = b) wr w'' := h.tc.trans (k.mono (fun _ h => h.elim))

theorem push_set {hd : Array Value} (h : hd.size = 8) (v1 v3 : Value) : (hd.push v1).setIfInBounds 8 v3 = hd.push v3 := by
  match hd, h with
  | ⟨[c0, c1, c2, c3, c4, c5, c6, c7]⟩, _ => rfl
theorem dl_step {R : TypeId} {W wr w2 w3 : World} {g b : Nat} {a : Option Addr} {cap : Nat} {t : List Nat} {s s' : Rst} {ls : List (List Nat)} {l : List Nat} {hd : Array Value} {v1 v2 v3 : Value} {vs : List Value}
    (h : Dl R W wr g b a cap t s ls hd v1 vs) (hd8 : hd.size = 8) (f : AftB R W wr w2 g b a cap t s' l v1 v2) (o3 : Own w3 23 v3 (vs ++ [v2])) (t3 : Touch (fun k => v1.ownBlock = some k) (w2.alloc (.cells #[v2] 23)) w3) (m3 : Moved (w2.alloc (.cells #[v2] 23)) v1 v3)
    (hbW : b < W.heap.size) (hgW : g < W.heap.size) (hbg : b < g) (ha : ∀ x, a = some x → 0 < t.length → x.block < g) :
    Dl R W (w3.setCell ⟨g, 8, none⟩ v3) g b a cap t s' (ls ++ [l]) hd v3 (vs ++ [v2]) := by
  have hA : Touch (fun _ => False) w2 (w2.alloc (.cells #[v2] 23)) := (Touch.refl _ _).alloc _
  have tS := touch_set w3 g 8 v3
  have z1 := h.tc.size
  have z2 := f.tc.size
  have z3 := hA.size
  have O2 : Own (w2.alloc (.cells #[v2] 23)) 23 v1 vs := (h.sp.own.keep f.tc (fun k hk e => by have := h.nw k hk; omega)).keep hA (fun _ _ h => h)
  have hn3 : New W v3 := h.nw.moved m3 (by omega)
  have hrA : ∀ (x : Value) (l : List Nat), Row w2 x l → New W x → Row (w3.setCell ⟨g, 8, none⟩ v3) x l := fun x l hx hn => ((hx.keep hA (fun _ _ h => h)).keep t3 (fun k hk e => Spine.apart O2 (hx.keep hA (fun _ _ h => h)) k hk e)).keep tS (fun k hk e => by have := hn k hk; omega)
  have hold : ∀ (x : Value) (l : List Nat), Mine4 W wr x l → Mine4 W (w3.setCell ⟨g, 8, none⟩ v3) x l := fun x l hx => ⟨hrA x l (hx.1.keep f.tc (fun k hk e => by have := hx.2 k hk; omega)) hx.2, hx.2⟩
  refine ⟨(h.sp.imp hold).push (o3.keep tS (fun k hk e => by have := hn3 k hk; omega)) ⟨hrA v2 l f.row f.nw, f.nw⟩, hn3, ?_, ?_, ?_⟩
  · refine ((f.rd.keep hA (fun h => h) (fun _ _ _ h => h)).keep t3 (fun e => by have := h.nw b e; omega) (fun h0 x hx e => ?_)).keep tS (fun e => by omega) (fun h0 x hx e => by have := ha x hx h0; omega)
    have := h.nw _ e
    have := ha x hx h0
    omega
  · have b1 := ((h.bx.keep f.tc (fun e => by omega)).keep hA (fun h => h)).keep t3 (fun e => by have := h.nw g e; omega)
    exact b1.set 8 v3 (push_set hd8 v1 v3)
  · refine touch_old ?_
    exact (((h.tc.mono (fun k hk => Or.inl hk)).trans (f.tc.mono (fun k hk => Or.inl (Or.inl hk)))).trans (hA.mono (fun _ h => h.elim))).trans ((t3.mono (fun k hk => Or.inr (h.nw k hk))).trans (tS.mono (fun k hk => Or.inl (Or.inr hk))))

/-- append(list, one slice) as one step of a region that draws. -/
theorem step_elem {ops : Array Oper} {o : Oper} {a : Act} {w : World} {K : Act → World → Prop} {Q : Exit → Act → World → Prop} {E : Prop}
    (hg : o.guard = none) (s x : Operand) (hop : o.op = Op.call { callee := Callee.builtin Builtin.append, args := #[s, x], argTypes := #[27, 27] })
    (v : Value) (vs : List Value) (hs : a.eval s = v) (hr : Own w 23 v vs) (g : Nat) (u : Value) (hx : a.eval x = .slice (some ⟨g, 0, none⟩) 1 1) (hu : w.cell? ⟨g, 0, none⟩ = some u) (h1 : u.oneCell' = true) (hlen : (vs.length + 1) * 24 ≤ 140737488355328)
    (hK : ∀ v' w', Own w' 23 v' (vs ++ [u]) → Touch (fun k => v.ownBlock = some k) w w' → Moved w v v' → K (a.put o.dst v') w') :
    if Region.wanted o (yielded ops a.tmps) = true then Oper.wp Tryz.prog o a w K Q else E := by
  have hw : Region.wanted o (yielded ops a.tmps) = true := by simp [Region.wanted, hg]
  rw [if_pos hw]
  obtain ⟨i, hi, hz, hsz, hby⟩ := sl_info
  obtain ⟨v', w', hrun, r1, r2, r3⟩ := run_app (P := Tryz.prog) w 27 o.type 23 i (.slice none 0 0) 24 Tryz.underlying27 hi hz hsz hby rfl v vs hr (some ⟨g, 0, none⟩) 1 1 [u] rfl (by
    intro j y hj
    match j, hj with
    | 0, hj => cases hj; exact ⟨g, 0, rfl, hu⟩) (by intro y hy; rw [List.mem_singleton] at hy; subst hy; exact h1) (fun h => by cases h) (by unfold maxLen; omega) hlen
  unfold Oper.wp
  simp [execOp, hop, resolve, invoke, builtin, hs, hx, hrun, Result.andThen]
  exact hK v' w' r1 r2 r3

set_option maxRecDepth 100000 in
set_option maxHeartbeats 8000000 in
theorem decode_any {a : Option Addr} {cap : Nat} {t : List Nat} (w : World) (h : LAt w a t) (hn : a = none → cap = 0) (hl : t.length ≤ 140737488355328) :
    Calls Tryz.prog 122 #[.slice a t.length cap] w fun e w' => DePost w t e w' := by
  obtain ⟨x1, x2, x3, x4, x5, x6, x7, x8, s8, n, s9, df⟩ := decF t
  have DF := hide df
  have hB0 : Below w.heap.size w (w.alloc (.cells #[.int .i64 0, .int .i64 0, .int .u64 0, .int .i64 0, .int .i64 0, .bool false, .bool false, .bool false, .slice none 0 0] 29)) := (Below.refl _ _).alloc (Nat.le_refl _) _
  have KN := hide (newreader_any (w.alloc (.cells #[.int .i64 0, .int .i64 0, .int .u64 0, .int .i64 0, .int .i64 0, .bool false, .bool false, .bool false, .slice none 0 0] 29)) a cap t (h.later hB0) hn hl)
  have B0 := hide hB0
  have R0 : Hid (Blk (w.alloc (.cells #[.int .i64 0, .int .i64 0, .int .u64 0, .int .i64 0, .int .i64 0, .bool false, .bool false, .bool false, .slice none 0 0] 29)) w.heap.size #[.int .i64 0, .int .i64 0, .int .u64 0, .int .i64 0, .int .i64 0, .bool false, .bool false, .bool false, .slice none 0 0]) := heap_new w _
  clear h hB0 df
  go_enter Tryz.func122, Tryz.ntmps122
  go_wp2_with fail
  refine (unhide KN).mono ?_
  rintro e w1 ⟨b, a', cap', rfl, r1, bl1, hb1, ha1⟩
  have hs0 : (w.alloc (.cells #[.int .i64 0, .int .i64 0, .int .u64 0, .int .i64 0, .int .i64 0, .bool false, .bool false, .bool false, .slice none 0 0] 29)).heap.size = w.heap.size + 1 := by simp
  have B1 := hide ((unhide B0).trans (bl1.mono (unhide B0).size))
  have R1 := hide ((unhide R0).keep (Touch.of_below (S := fun _ => False) bl1) (fun h => h))
  have hbw : w.heap.size < b := by omega
  have hblt := r1.lt
  have HA : Hid (∀ x, a' = some x → w.heap.size < x.block) := fun x hx => by have := ha1 x hx; omega
  have HL : Hid (∀ x, a' = some x → 0 < t.length → x.block < w1.heap.size) := fun x hx h0 => lat_lt r1.text h0 hx
  have KH := head_any w1 r1
  rw [(unhide DF).hd, (unhide DF).st] at KH
  have KHH := hide KH
  clear r1 bl1 hb1 ha1 B0 R0 KN KH hs0
  go_wp2_with fail
  refine (unhide KHH).mono ?_
  rintro e w2 ⟨rfl, r2, t2⟩
  have B2 := hide (below_touch (unhide B1) t2 (unhide B1).size (fun k hk => by omega))
  have R2 := hide ((unhide R1).keep t2 (by omega))
  have hs2 : w1.heap.size ≤ w2.heap.size := t2.size
  have RD2 := hide r2
  clear r2 t2 B1 R1 KHH
  have XB3 : Hid (Blk (w2.alloc (.cells #[.int .i64 x1, .int .i64 x2, .int .u64 (x3 : Nat), .int .i64 x4, .int .i64 x5, .bool x6, .bool x7, .bool x8, .slice none 0 0] 29)) w2.heap.size #[.int .i64 x1, .int .i64 x2, .int .u64 (x3 : Nat), .int .i64 x4, .int .i64 x5, .bool x6, .bool x7, .bool x8, .slice none 0 0]) := heap_new w2 _
  have hB3 : Below w2.heap.size w2 (w2.alloc (.cells #[.int .i64 x1, .int .i64 x2, .int .u64 (x3 : Nat), .int .i64 x4, .int .i64 x5, .bool x6, .bool x7, .bool x8, .slice none 0 0] 29)) := (Below.refl _ _).alloc (Nat.le_refl _) _
  have B3 := hide ((unhide B2).trans (hB3.mono (unhide B2).size))
  have R3 := hide ((unhide R2).keep (Touch.of_below (S := fun _ => False) hB3) (fun h => h))
  have KU := ruint_any _ ((unhide RD2).later hB3)
  rw [(unhide DF).ct] at KU
  have KUU := hide KU
  clear hB3 KU RD2
  go_wp2_with fail
  refine (unhide KUU).mono ?_
  rintro e w4 ⟨rfl, r4, t4⟩
  have B4 := hide (below_touch (unhide B3) t4 (unhide B3).size (fun k hk => by omega))
  have R4 := hide ((unhide R3).keep t4 (by omega))
  have XB4 := hide ((unhide XB3).keep t4 (by omega))
  have hs4 : w2.heap.size < w4.heap.size := by have := t4.size; simp at this; omega
  have RD4 := hide r4
  clear r4 t4 B3 R3 XB3 KUU B2 R2
  by_cases h16 : 16 < n
  · have h16' : (16 : Int) < (n : Int) := by omega
    have NO := hide ((unhide DF).many h16)
    have RZ := hide (unhide R4)
    have BZ := hide (unhide B4)
    have bz : Box w4 w.heap.size zeroB none 0 := unhide RZ
    obtain ⟨q0, q1, q2, q3, q4, q5, q6, q7, q8⟩ := bz.cells
    have z : ∀ i, w4.frozen? ⟨w.heap.size, i, none⟩ = false := (unhide RZ).fz
    simp only [zeroB, List.length_nil] at q0 q1 q2 q3 q4 q5 q6 q7 q8
    have T9 := hide (set9 (unhide RZ) rfl (.int .i64 0) (.int .i64 0) (.int .u64 0) (.int .i64 0) (.int .i64 0) (.bool false) (.bool false) (.bool false) (.slice none 0 0))
    clear bz
    go_wp2
    clear q0 q1 q2 q3 q4 q5 q6 q7 q8 z
    generalize (((((((((w4.setCell ⟨w.heap.size, 0, none⟩ (.int .i64 0)).setCell ⟨w.heap.size, 1, none⟩ (.int .i64 0)).setCell ⟨w.heap.size, 2, none⟩ (.int .u64 0)).setCell ⟨w.heap.size, 3, none⟩ (.int .i64 0)).setCell ⟨w.heap.size, 4, none⟩ (.int .i64 0)).setCell ⟨w.heap.size, 5, none⟩ (.bool false)).setCell ⟨w.heap.size, 6, none⟩ (.bool false)).setCell ⟨w.heap.size, 7, none⟩ (.bool false)).setCell ⟨w.heap.size, 8, none⟩ (.slice none 0 0)) = V at *
    have bu : Box V w.heap.size zeroB none 0 := (unhide T9).1
    obtain ⟨k0, k1, k2, k3, k4, k5, k6, k7, k8⟩ := bu.cells
    simp only [zeroB, List.length_nil] at k0 k1 k2 k3 k4 k5 k6 k7 k8
    refine bodyPost_ret (by simp [results, Tryz.results122, go_sem, k0, k1, k2, k3, k4, k5, k6, k7, k8]; try rfl) rfl ?_
    exact DePost.no (unhide NO).1 (unhide NO).2 (below_touch (unhide BZ) (unhide T9).2 (unhide BZ).size (fun k hk => by omega))
  · have h16' : ¬ (16 : Int) < (n : Int) := by omega
    generalize hg : w2.heap.size = g at *
    have hgb : b < g := by omega
    clear hg
    go_wp2_with fail
    have DL0 : Hid (Dl 212 w4 w4 g b a' cap' t s9 [] #[.int .i64 x1, .int .i64 x2, .int .u64 (x3 : Nat), .int .i64 x4, .int .i64 x5, .bool x6, .bool x7, .bool x8] (.slice none 0 0) []) := ⟨Spine.nil _ _, New.nil _, unhide RD4, unhide XB4, Touch.refl _ _⟩
    have HLB : Hid (∀ x, a' = some x → 0 < t.length → x.block < g) := fun x hx h0 => by have := unhide HL x hx h0; omega
    generalize hW : w4 = W at *
    have HW := hide hW
    clear hW RD4 XB4
    go_loopw [20] (fun i wr => ∃ (k : Nat) (v1 : Value) (vs : List Value), k ≤ n ∧ i = .int .i64 k ∧ Dl 212 W wr g b a' cap' t (rVs t s9 k).2 (rVs t s9 k).1 #[.int .i64 x1, .int .i64 x2, .int .u64 (x3 : Nat), .int .i64 x4, .int .i64 x5, .bool x6, .bool x7, .bool x8] v1 vs) (fun i _ => n - (intOf i).toNat)
    case atStart => exact ⟨0, _, _, Nat.zero_le _, rfl, unhide DL0⟩
    case round =>
      obtain ⟨k, v1, vs, hk, rfl, dl⟩ := hrel
      have DL := hide dl
      clear dl DL0
      by_cases hkn : k < n
      · have hkn' : (k : Int) < (n : Int) := by omega
        obtain ⟨a1, m1, c1, rfl⟩ := (unhide DL).sp.shape
        have hvl : (vs.length + 1) * 24 ≤ 140737488355328 := by have := (unhide DL).sp.len; rw [rVs_len] at this; omega
        have y8 : wr.cell? ⟨g, 8, none⟩ = some (.slice a1 m1 c1) := (unhide DL).bx.cell 8
        have hgw : g < wr.heap.size := (unhide DL).bx.lt
        have ES : Hid (rVs t s9 (k + 1) = ((rVs t s9 k).1 ++ [(rB t (rVs t s9 k).2).1], (rB t (rVs t s9 k).2).2)) := rfl
        have KB : Hid (∀ w', Touch (fun _ => False) wr w' → Calls Tryz.prog 152 #[.pointer (some ⟨b, 0, none⟩)] w' fun e w'' => ∃ v, e = .returned v ∧ AftB 212 W wr w'' g b a' cap' t (rB t (rVs t s9 k).2).2 (rB t (rVs t s9 k).2).1 (.slice a1 m1 c1) v) := fun w' tw =>
          (rbytes_any w' ((unhide DL).rd.keep tw (fun h => h) (fun _ _ _ h => h))).mono fun e w'' h => by
            obtain ⟨v, e1, r, nw, rd, tc⟩ := h
            have tt : Touch (· = b) wr w'' := (tw.mono (fun _ h => h.elim)).trans tc
            refine ⟨v, e1, r, nw.mono (Nat.le_trans (unhide DL).tc.size tw.size), rd, tt, ?_⟩
            exact (World.cell?_of_block (a := ⟨g, 8, none⟩) (tt.block g hgw (by omega))).trans y8
        have DLL := hide (unhide DL)
        have hWr := (unhide DL).tc.size
        clear DL
        generalize rB t (rVs t s9 k).2 = RB at *
        obtain ⟨p, sn⟩ := RB
        generalize rVs t s9 k = P at *
        obtain ⟨ls, so⟩ := P
        simp only at ES KB DLL
        go_wp2_with fail
        go_region_law (first
          | (go_simp; go_at_call 152; refine (unhide KB _ ((Touch.refl _ _).drew)).mono ?_; rintro e w2 ⟨v2, rfl, af2⟩; obtain ⟨a2, m2, c2, rfl⟩ := af2.row.shape; have y2 := af2.cell; have g2 : g < w2.heap.size := Nat.lt_of_lt_of_le hgw af2.tc.size; have y2' : (w2.alloc (.cells #[.slice a2 m2 c2] 23)).cell? ⟨g, 8, none⟩ = some (.slice a1 m1 c1) := (((Below.refl w2.heap.size w2).alloc (Nat.le_refl _) _).cell (p := ⟨g, 8, none⟩) g2).trans y2; have AF2 := hide af2; clear af2)
          | (refine step_elem rfl (.tmp 23) (.tmp 26) rfl (.slice a1 m1 c1) vs (by rfl) (Own.keep (unhide DLL).sp.own (aft_touch (unhide AF2) (by first | exact (Touch.refl _ _).alloc _ | exact ((Touch.refl _ _).alloc _).drew | exact (Touch.refl _ _).drew.alloc _ | exact ((Touch.refl _ _).drew.alloc _).drew)) (fun j hj e => by have := (unhide DLL).nw j hj; omega)) w2.heap.size (.slice a2 m2 c2) (by rfl) (by first | exact cell_of (heap_new _ _) 0 | (simp; done)) rfl hvl ?_; intro v3 w3 o3 t3 m3; have bx3 := Blk.keep (Blk.keep (unhide DLL).bx (aft_touch (unhide AF2) (by first | exact (Touch.refl _ _).alloc _ | exact ((Touch.refl _ _).alloc _).drew | exact (Touch.refl _ _).drew.alloc _ | exact ((Touch.refl _ _).drew.alloc _).drew)) (by omega)) t3 (fun e => by have := (unhide DLL).nw g e; omega); have y3 : w3.cell? ⟨g, 8, none⟩ = some (.slice a1 m1 c1) := bx3.cell 8; have z3 := bx3.fz 8; have BX3 := hide bx3; clear bx3; obtain ⟨a3, n3, c3, rfl⟩ := own_shape o3))
        all_goals
          have NX : Hid (Dl 212 W (w3.setCell ⟨g, 8, none⟩ (.slice a3 n3 c3)) g b a' cap' t (rVs t s9 (k + 1)).2 (rVs t s9 (k + 1)).1 #[.int .i64 x1, .int .i64 x2, .int .u64 (x3 : Nat), .int .i64 x4, .int .i64 x5, .bool x6, .bool x7, .bool x8] (.slice a3 n3 c3) (vs ++ [.slice a2 m2 c2])) := by
            rw [unhide ES]
            exact dl_step (unhide DLL) rfl (unhide AF2) o3 t3 m3 (by omega) (by omega) (by omega) (unhide HLB)
          clear o3 t3 m3 y3 z3 BX3 y2 y2' AF2 KB ES DLL y8
          go_wp2
          go_roundw
          case rel => exact ⟨k + 1, _, _, by omega, by go_num, unhide NX⟩
          case measure => simp [intOf]; omega
      · obtain rfl : k = n := by omega
        have hkn' : ¬ (k : Int) < (k : Int) := by omega
        have RZ : Hid (Blk wr w.heap.size #[.int .i64 0, .int .i64 0, .int .u64 0, .int .i64 0, .int .i64 0, .bool false, .bool false, .bool false, .slice none 0 0]) := (unhide R4).keep (unhide DL).tc (by omega)
        have BZ := hide (below_touch (unhide B4) (unhide DL).tc (unhide B4).size (fun k hk => by omega))
        go_wp2_with fail
        refine (end_any _ (unhide DL).rd).mono ?_
        rintro e w5 ⟨rfl, d5, hd5⟩
        have DL5 : Hid (Dl 212 W w5 g b a' cap' t (rVs t s9 k).2 (rVs t s9 k).1 #[.int .i64 x1, .int .i64 x2, .int .u64 (x3 : Nat), .int .i64 x4, .int .i64 x5, .bool x6, .bool x7, .bool x8] v1 vs) := by rw [hd5]; exact (unhide DL).drewN d5
        have RZ5 : Hid (Blk w5 w.heap.size #[.int .i64 0, .int .i64 0, .int .u64 0, .int .i64 0, .int .i64 0, .bool false, .bool false, .bool false, .slice none 0 0]) := by rw [hd5]; exact unhide RZ
        have BZ5 : Hid (Below w.heap.size w w5) := by rw [hd5]; exact below_drewN3 (unhide BZ) d5
        clear hd5 DL RZ BZ
        by_cases he : rE t (rVs t s9 k).2 = 0
        · rw [he]
          obtain ⟨a1, c1, rfl, ra1, _, _, _, _⟩ := (unhide DL5).sp.parts (fun u l h => h.1.elem)
          have bx5 : Box w5 g ⟨x1, x2, x3, x4, x5, x6, x7, x8, (rVs t s9 k).1⟩ a1 c1 := by have := (unhide DL5).bx; rw [rVs_len] at this; show w5.heap[g]? = _; rw [rVs_len]; exact this
          have RA := hide ra1
          have BX5 := hide bx5
          have KC := check7 ⟨x1, x2, x3, x4, x5, x6, x7, x8, (rVs t s9 k).1⟩ a1 c1 w5 ra1 k (rVs_len _ _ _)
          obtain ⟨k0, k1, k2, k3, k4, k5, k6, k7, k8⟩ := bx5.cells
          simp only [rVs_len] at k0 k1 k2 k3 k4 k5 k6 k7 k8 KC ⊢
          have KCC := hide KC
          clear ra1 bx5 KC
          go_wp2_with fail
          refine (unhide KCC).mono ?_
          rintro e w6 ⟨rfl, b6⟩
          have DL6 : Hid (Dl 212 W w6 g b a' cap' t (rVs t s9 k).2 (rVs t s9 k).1 #[.int .i64 x1, .int .i64 x2, .int .u64 (x3 : Nat), .int .i64 x4, .int .i64 x5, .bool x6, .bool x7, .bool x8] (.slice a1 k c1) vs) := by have := unhide DL5; rw [rVs_len] at this; exact this.later b6
          have RZ := hide ((unhide RZ5).keep (Touch.of_below (S := fun _ => False) b6) (fun h => h))
          have BZ := hide ((unhide BZ5).trans (b6.mono (unhide BZ5).size))
          have BX6 := hide ((unhide BX5).later b6)
          clear b6 RZ5 BZ5 BX5 DL5 RA KCC k0 k1 k2 k3 k4 k5 k6 k7 k8
          by_cases hc : chk ⟨x1, x2, x3, x4, x5, x6, x7, x8, (rVs t s9 k).1⟩ = 0
          · have OK := hide ((unhide DF).ok h16 he hc)
            rw [hc]
            obtain ⟨k0, k1, k2, k3, k4, k5, k6, k7, k8⟩ := (unhide BX6).cells
            simp only [rVs_len] at k0 k1 k2 k3 k4 k5 k6 k7 k8
            have bz : Box w6 w.heap.size zeroB none 0 := unhide RZ
            obtain ⟨q0, q1, q2, q3, q4, q5, q6, q7, q8⟩ := bz.cells
            have z : ∀ i, w6.frozen? ⟨w.heap.size, i, none⟩ = false := (unhide RZ).fz
            simp only [zeroB, List.length_nil] at q0 q1 q2 q3 q4 q5 q6 q7 q8
            have T9 := hide (set9 (unhide RZ) rfl (.int .i64 x1) (.int .i64 x2) (.int .u64 (x3 : Nat)) (.int .i64 x4) (.int .i64 x5) (.bool x6) (.bool x7) (.bool x8) (.slice a1 k c1))
            clear bz
            go_wp2
            clear q0 q1 q2 q3 q4 q5 q6 q7 q8 z k0 k1 k2 k3 k4 k5 k6 k7 k8
            generalize (((((((((w6.setCell ⟨w.heap.size, 0, none⟩ (.int .i64 x1)).setCell ⟨w.heap.size, 1, none⟩ (.int .i64 x2)).setCell ⟨w.heap.size, 2, none⟩ (.int .u64 (x3 : Nat))).setCell ⟨w.heap.size, 3, none⟩ (.int .i64 x4)).setCell ⟨w.heap.size, 4, none⟩ (.int .i64 x5)).setCell ⟨w.heap.size, 5, none⟩ (.bool x6)).setCell ⟨w.heap.size, 6, none⟩ (.bool x7)).setCell ⟨w.heap.size, 7, none⟩ (.bool x8)).setCell ⟨w.heap.size, 8, none⟩ (.slice a1 k c1)) = V at *
            have bu : Box V w.heap.size ⟨x1, x2, x3, x4, x5, x6, x7, x8, (rVs t s9 k).1⟩ a1 c1 := by show V.heap[w.heap.size]? = _; rw [rVs_len]; exact (unhide T9).1
            obtain ⟨k0, k1, k2, k3, k4, k5, k6, k7, k8⟩ := bu.cells
            simp only [rVs_len] at k0 k1 k2 k3 k4 k5 k6 k7 k8
            refine bodyPost_ret (by simp [results, Tryz.results122, go_sem, k0, k1, k2, k3, k4, k5, k6, k7, k8]; try rfl) rfl ?_
            refine ⟨a1, c1, ?_, ?_⟩
            · rw [(unhide OK).1, (unhide OK).2]; simp only [bv, rVs_len]; rfl
            · rw [(unhide OK).2]
              simp only [rVs_len]
              have hno : ∀ u : Value, New W u → ∀ k, u.ownBlock = some k → ¬ k = w.heap.size := fun u hu k hk e => by have := hu k hk; omega
              refine ⟨⟨vs, ((unhide DL6).sp.keep (unhide T9).2 (hno _ (unhide DL6).nw)).imp (fun u l h => ⟨h.1.keep (unhide T9).2 (hno u h.2), h.2.mono (by omega)⟩)⟩, (unhide DL6).nw.mono (by omega), ?_⟩
              exact below_touch (unhide BZ) (unhide T9).2 (unhide BZ).size (fun k hk => by omega)
          · have NO := hide ((unhide DF).bad h16 he hc)
            generalize chk ⟨x1, x2, x3, x4, x5, x6, x7, x8, (rVs t s9 k).1⟩ = cc at *
            have hc' : ¬ (cc : Int) = 0 := by omega
            have bz : Box w6 w.heap.size zeroB none 0 := unhide RZ
            obtain ⟨q0, q1, q2, q3, q4, q5, q6, q7, q8⟩ := bz.cells
            have z : ∀ i, w6.frozen? ⟨w.heap.size, i, none⟩ = false := (unhide RZ).fz
            simp only [zeroB, List.length_nil] at q0 q1 q2 q3 q4 q5 q6 q7 q8
            have T9 := hide (set9 (unhide RZ) rfl (.int .i64 0) (.int .i64 0) (.int .u64 0) (.int .i64 0) (.int .i64 0) (.bool false) (.bool false) (.bool false) (.slice none 0 0))
            clear bz
            go_wp2
            clear q0 q1 q2 q3 q4 q5 q6 q7 q8 z
            generalize (((((((((w6.setCell ⟨w.heap.size, 0, none⟩ (.int .i64 0)).setCell ⟨w.heap.size, 1, none⟩ (.int .i64 0)).setCell ⟨w.heap.size, 2, none⟩ (.int .u64 0)).setCell ⟨w.heap.size, 3, none⟩ (.int .i64 0)).setCell ⟨w.heap.size, 4, none⟩ (.int .i64 0)).setCell ⟨w.heap.size, 5, none⟩ (.bool false)).setCell ⟨w.heap.size, 6, none⟩ (.bool false)).setCell ⟨w.heap.size, 7, none⟩ (.bool false)).setCell ⟨w.heap.size, 8, none⟩ (.slice none 0 0)) = V at *
            have bu : Box V w.heap.size zeroB none 0 := (unhide T9).1
            obtain ⟨k0, k1, k2, k3, k4, k5, k6, k7, k8⟩ := bu.cells
            simp only [zeroB, List.length_nil] at k0 k1 k2 k3 k4 k5 k6 k7 k8
            refine bodyPost_ret (by simp [results, Tryz.results122, go_sem, k0, k1, k2, k3, k4, k5, k6, k7, k8]; try rfl) rfl ?_
            exact DePost.no (unhide NO).1 (unhide NO).2 (below_touch (unhide BZ) (unhide T9).2 (unhide BZ).size (fun k hk => by omega))
        · have NO := hide ((unhide DF).ended h16 he)
          generalize rE t (rVs t s9 k).2 = cc at *
          have he' : ¬ (cc : Int) = 0 := by omega
          have RZ := hide (unhide RZ5)
          have BZ := hide (unhide BZ5)
          have bz : Box w5 w.heap.size zeroB none 0 := unhide RZ
          obtain ⟨q0, q1, q2, q3, q4, q5, q6, q7, q8⟩ := bz.cells
          have z : ∀ i, w5.frozen? ⟨w.heap.size, i, none⟩ = false := (unhide RZ).fz
          simp only [zeroB, List.length_nil] at q0 q1 q2 q3 q4 q5 q6 q7 q8
          have T9 := hide (set9 (unhide RZ) rfl (.int .i64 0) (.int .i64 0) (.int .u64 0) (.int .i64 0) (.int .i64 0) (.bool false) (.bool false) (.bool false) (.slice none 0 0))
          clear bz
          go_wp2
          clear q0 q1 q2 q3 q4 q5 q6 q7 q8 z
          generalize (((((((((w5.setCell ⟨w.heap.size, 0, none⟩ (.int .i64 0)).setCell ⟨w.heap.size, 1, none⟩ (.int .i64 0)).setCell ⟨w.heap.size, 2, none⟩ (.int .u64 0)).setCell ⟨w.heap.size, 3, none⟩ (.int .i64 0)).setCell ⟨w.heap.size, 4, none⟩ (.int .i64 0)).setCell ⟨w.heap.size, 5, none⟩ (.bool false)).setCell ⟨w.heap.size, 6, none⟩ (.bool false)).setCell ⟨w.heap.size, 7, none⟩ (.bool false)).setCell ⟨w.heap.size, 8, none⟩ (.slice none 0 0)) = V at *
          have bu : Box V w.heap.size zeroB none 0 := (unhide T9).1
          obtain ⟨k0, k1, k2, k3, k4, k5, k6, k7, k8⟩ := bu.cells
          simp only [zeroB, List.length_nil] at k0 k1 k2 k3 k4 k5 k6 k7 k8
          refine bodyPost_ret (by simp [results, Tryz.results122, go_sem, k0, k1, k2, k3, k4, k5, k6, k7, k8]; try rfl) rfl ?_
          exact DePost.no (unhide NO).1 (unhide NO).2 (below_touch (unhide BZ) (unhide T9).2 (unhide BZ).size (fun k hk => by omega))
end Go.Proofs.YtkcoeofbobkaoabGreatDoor
