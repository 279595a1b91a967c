/-
  New: the image at its beginning. Conditions: the numbers may be.
-/
import Derived.Test.YtfakjcaolpmkeaaIg5
namespace Go.Proofs.Ytfakjcaolpmkeaa
open Go.RowKit Go.Maps
set_option linter.unusedVariables false

theorem node_info : ∃ i z, Try.prog.info? 76 = some i ∧ i.zero = some z ∧ i.size = 3 ∧ i.bytes = 24 ∧ z.cells = #[.bool false, .int .i64 0, .int .u64 0] := by
  have h : (Try.prog.info? 76).map (fun i => (i.zero.map (fun z => z.cells), i.size, i.bytes)) = some (some #[.bool false, .int .i64 0, .int .u64 0], 3, 24) := by kernel_rfl
  cases hi : Try.prog.info? 76 with
  | none => rw [hi] at h; simp at h
  | some i =>
    rw [hi] at h
    simp only [Option.map_some, Option.some.injEq, Prod.mk.injEq] at h
    obtain ⟨h1, h2, h3⟩ := h
    cases hz : i.zero with
    | none => rw [hz] at h1; simp at h1
    | some z => rw [hz] at h1; exact ⟨i, z, rfl, hz, h2, h3, by simpa using h1⟩
theorem part_info : ∃ i z, Try.prog.info? 42 = some i ∧ i.zero = some z ∧ i.size = 6 ∧ i.bytes = 96 ∧ z.cells.size = 6 := by
  have h : (Try.prog.info? 42).map (fun i => (i.zero.map (fun z => z.cells.size), i.size, i.bytes)) = some (some 6, 6, 96) := by kernel_rfl
  cases hi : Try.prog.info? 42 with
  | none => rw [hi] at h; simp at h
  | some i =>
    rw [hi] at h
    simp only [Option.map_some, Option.some.injEq, Prod.mk.injEq] at h
    obtain ⟨h1, h2, h3⟩ := h
    cases hz : i.zero with
    | none => rw [hz] at h1; simp at h1
    | some z => rw [hz] at h1; exact ⟨i, z, rfl, hz, h2, h3, by simpa using h1⟩
/-- append of a partition, in a region that draws. -/
theorem step_part {ops : Array Oper} {o : Oper} {a : Act} {w : World} {K : Act → World → Prop} {Q : Exit → Act → World → Prop} {E : Prop}
    (hg : o.guard = none) (s x : Operand) (hop : o.op = Op.call { callee := Callee.builtin Builtin.append, args := #[s, x], argTypes := #[36, 36] })
    (v : Value) (n : Nat) (xs : List Value) (hs : a.eval s = v) (hr : Wide w 42 6 v n xs) (g : Nat) (cs : Array Value) (news : List Value) (hx : a.eval x = .slice (some ⟨g, 0, none⟩) 1 1) (hu : w.heap[g]? = some (.cells cs 42)) (hcs : cs.toList = news) (hl : news.length = 6) (h1 : ∀ u ∈ news, u.oneCell' = true) (hlen : n ≤ 1000000)
    (hK : ∀ v' w', Wide w' 42 6 v' (n + 1) (xs ++ news) → Touch (fun k => v.ownBlock = some k) w w' → Moved w v v' → K (a.put o.dst v') w') :
    if Region.wanted o (yielded ops a.tmps) = true then Oper.wp Try.prog o a w K Q else E := by
  have hw : Region.wanted o (yielded ops a.tmps) = true := by simp [Region.wanted, hg]
  rw [if_pos hw]
  obtain ⟨i, z, hi, hz, hsz, hby, hzs⟩ := part_info
  obtain ⟨v', w', hrun, r1, r2, r3⟩ := run_wide (P := Try.prog) w 36 o.type 42 i z 6 96 Try.underlying36 hi hz hsz hby hzs (by omega) v n xs hr g 0 1 news hl (fun j u hj => by rw [cell_of hu, Nat.zero_add, ← Array.getElem?_toList, hcs]; exact hj) h1 (by unfold maxLen; omega) (by omega)
  unfold Oper.wp
  simp [execOp, hop, resolve, invoke, builtin, hs, hx, hrun, Result.andThen]
  exact hK v' w' r1 r2 r3
/-- A partition is appended. -/
theorem ImAt.push {w w2 w3 : World} {mb : Nat} {m : Im} (h : ImAt w mb m) (hb : Below w.heap.size w w2) {p : Pm} (hp : PIn w2 p) (new : ∀ k, p.B k → w.heap.size ≤ k) {pv' : Value}
    (hw : Wide w3 42 6 pv' (m.ps.length + 1) (m.ps.flatMap pmC ++ pmC p)) (t : Touch (fun k => m.pv.ownBlock = some k) w2 w3) (mv : Moved w2 m.pv pv') :
    ImAt (w3.setCell ⟨mb, 1, none⟩ pv') mb ⟨m.nv, pv', m.pb, m.ns, m.ps ++ [p], m.nx, m.ct⟩ := by
  have hm := h.mi
  have h2 := h.later hb
  have ts := touch_set w3 mb 1 pv'
  have o3 := t.keep h2.obj (fun e => hm.2.2.1 e)
  have nmb : ∀ k, pv'.ownBlock = some k → k ≠ mb := fun k hk e => by
    rcases mv k hk with e' | e'
    · exact hm.2.2.1 (by rw [← e]; exact e')
    · have := h2.lt (k := mb) (.inl rfl)
      omega
  have pold : ∀ k, p.B k → m.pv.ownBlock ≠ some k := fun k hk e => by
    have := h.lt (k := k) (.inr (.inr (.inr (.inl e))))
    have := new k hk
    omega
  refine ⟨by rw [heap_set o3]; rfl, (h2.nds.keep t (fun k hk e => (h.ni hk).2.2.1 e)).keep ts (fun k hk e => (h.ni hk).1 e), ?_, ?_, ?_, (h2.ctr.keep t (fun e => (h.pi e).2.1 rfl)).keep ts (fun e => hm.1 e.symm)⟩
  · show Wide _ _ 6 pv' (m.ps ++ [p]).length ((m.ps ++ [p]).flatMap pmC)
    rw [List.length_append, List.length_singleton, List.flatMap_append]
    simp only [List.flatMap_cons, List.flatMap_nil, List.append_nil]
    exact hw.keep ts (fun k hk e => nmb k hk e)
  · intro i hi
    have hi' : i < m.ps.length + 1 := by simpa using hi
    show PIn _ (m.ps ++ [p])[i]
    by_cases e : i < m.ps.length
    · rw [List.getElem_append_left e]
      exact ((h2.each i e).keep t (fun k hk e2 => (h.pi e2).2.2.2 i e hk)).keep ts (fun k hk e2 => (h.ii e hk).1 e2)
    · have e2 : i = m.ps.length := by omega
      subst e2
      rw [List.getElem_append_right (Nat.le_refl _)]
      simp only [Nat.sub_self, List.getElem_singleton]
      refine (hp.keep t (fun k hk e2 => pold k hk e2)).keep ts (fun k hk e2 => ?_)
      have := h.lt (k := mb) (.inl rfl)
      have := new k hk
      omega
  · intro i j hi hj hij k hki hkj
    have hi' : i < m.ps.length + 1 := by simpa using hi
    have hj' : j < m.ps.length + 1 := by simpa using hj
    have hki : ((m.ps ++ [p])[i]'(by simpa using hi')).B k := hki
    have hkj : ((m.ps ++ [p])[j]'(by simpa using hj')).B k := hkj
    have cross : ∀ a (ha : a < m.ps.length), (m.ps[a]).B k → ¬ p.B k := fun a ha hB hp' => by
      have := h.lt (k := k) (.inr (.inr (.inr (.inr ⟨a, ha, hB⟩))))
      have := new k hp'
      omega
    by_cases ei : i < m.ps.length
    · rw [List.getElem_append_left ei] at hki
      by_cases ej : j < m.ps.length
      · rw [List.getElem_append_left ej] at hkj
        exact h.apart i j ei ej hij k hki hkj
      · have e2 : j = m.ps.length := by omega
        subst e2
        rw [List.getElem_append_right (Nat.le_refl _)] at hkj
        simp only [Nat.sub_self, List.getElem_singleton] at hkj
        exact cross i ei hki hkj
    · have e2 : i = m.ps.length := by omega
      subst e2
      rw [List.getElem_append_right (Nat.le_refl _)] at hki
      simp only [Nat.sub_self, List.getElem_singleton] at hki
      have ej : j < m.ps.length := by omega
      rw [List.getElem_append_left ej] at hkj
      exact cross j ej hkj hki
def newP (n c k : Nat) : Pt := ⟨-1, 0, 0, arnd k c n, arnd k c n, []⟩
def newI (n p c : Nat) : Img := ⟨List.replicate n ⟨false, 0, 0⟩, (List.range p).map (newP n c), 1, 0⟩
/-- An image of the call's own. -/
structure INew (w w' : World) (mb : Nat) (m : Im) : Prop where
  at_ : ImAt w' mb m
  new : ∀ k, m.R mb k → w.heap.size ≤ k
  below : Below w.heap.size w w'
theorem INew.step {w w1 w2 w3 : World} {mb k n c : Nat} {m : Im} (h : INew w w1 mb m) (hb : Below w1.heap.size w1 w2) {v1 v2 : Value} (i1 : IL w2 v1 (arnd k c n)) (i2 : IL w2 v2 (arnd k c n)) (n1 : New w1 v1) (n2 : New w1 v2) (na : Apt v1 v2) {pv' : Value}
    (hw : Wide w3 42 6 pv' (m.ps.length + 1) (m.ps.flatMap pmC ++ [.int .i64 (-1), .int .i64 0, .int .i64 0, v1, v2, .slice none 0 0])) (t : Touch (fun k => m.pv.ownBlock = some k) w2 w3) (mv : Moved w2 m.pv pv') :
    INew w (w3.setCell ⟨mb, 1, none⟩ pv') mb ⟨m.nv, pv', m.pb, m.ns, m.ps ++ [⟨newP n c k, v1, v2, .slice none 0 0⟩], m.nx, m.ct⟩ := by
  have b2 : Below w.heap.size w w2 := h.below.trans (hb.mono h.below.size)
  have b3 : Below w.heap.size w w3 := below_touch b2 t b2.size (fun k hk => h.new k (.inr (.inr (.inr (.inl hk)))))
  have hn : ∀ k, (Pm.B ⟨newP n c k, v1, v2, .slice none 0 0⟩ k) → True := fun _ _ => trivial
  have hB : ∀ x, (⟨newP n c k, v1, v2, .slice none 0 0⟩ : Pm).B x → w1.heap.size ≤ x := fun x hx => by
    rcases hx with hx | hx | hx
    · exact n1 x hx
    · exact n2 x hx
    · simp [Value.ownBlock] at hx
  refine ⟨h.at_.push hb ⟨i1, i2, IL.nil _, na, fun k _ e => by simp [Value.ownBlock] at e, fun k _ e => by simp [Value.ownBlock] at e⟩ hB hw t mv, fun x hx => ?_, below_touch b3 (touch_set w3 mb 1 pv') b3.size (fun x hx => by rw [hx]; exact h.new mb (.inl rfl))⟩
  rcases hx with e | e | e | e | ⟨i, hi, hB'⟩
  · exact h.new x (.inl e)
  · exact h.new x (.inr (.inl e))
  · exact h.new x (.inr (.inr (.inl e)))
  · rcases mv x e with e' | e'
    · exact h.new x (.inr (.inr (.inr (.inl e'))))
    · exact Nat.le_trans b2.size e'
  · have hi' : i < m.ps.length + 1 := by simpa using hi
    have hB' : ((m.ps ++ [(⟨newP n c k, v1, v2, .slice none 0 0⟩ : Pm)])[i]'(by simpa using hi')).B x := hB'
    by_cases e : i < m.ps.length
    · rw [List.getElem_append_left e] at hB'
      exact h.new x (.inr (.inr (.inr (.inr ⟨i, e, hB'⟩))))
    · have e2 : i = m.ps.length := by omega
      subst e2
      rw [List.getElem_append_right (Nat.le_refl _)] at hB'
      simp only [Nat.sub_self, List.getElem_singleton] at hB'
      exact Nat.le_trans h.below.size (hB x hB')
theorem INew.step2 {w wr w1 w2 X w3 : World} {mb kk n c pc : Nat} {pa : Option Addr} {m : Im} (h : INew w wr mb m) (ep : m.pv = .slice pa m.ps.length pc) (hk : m.ps.length = kk) {v1 v2 : Value} (i1 : IL w1 v1 (arnd kk c n)) (n1 : New wr v1) (b1 : Below wr.heap.size wr w1)
    (i2 : IL w2 v2 (arnd kk c n)) (n2 : New w1 v2) (b2 : Below w1.heap.size w1 w2) (hX : Below w2.heap.size w2 X) {pv' : Value}
    (hw : Wide w3 42 6 pv' (kk + 1) (m.ps.flatMap pmC ++ [.int .i64 (-1), .int .i64 0, .int .i64 0, v1, v2, .slice none 0 0])) (t : Touch (fun k => (Value.slice pa kk pc).ownBlock = some k) X w3) (mv : Moved X (.slice pa kk pc) pv') :
    INew w (w3.setCell ⟨mb, 1, none⟩ pv') mb ⟨m.nv, pv', m.pb, m.ns, m.ps ++ [⟨newP n c kk, v1, v2, .slice none 0 0⟩], m.nx, m.ct⟩ := by
  subst hk
  rw [← ep] at t mv
  have b3 : Below w1.heap.size w1 X := b2.trans (hX.mono b2.size)
  refine INew.step h (b1.trans (b3.mono b1.size)) (i1.later b3) (i2.later hX) n1 (n2.mono b1.size) (fun k h1 h2 => ?_) hw t mv
  have := i1.lt k h1
  have := n2 k h2
  omega
theorem keep1 {wr w1 w2 X w3 : World} {mb pc kk : Nat} {pa : Option Addr} {u : Value} (hne : (Value.slice pa kk pc).ownBlock ≠ some mb) (hmb : mb < wr.heap.size) (b1 : Below wr.heap.size wr w1) (b2 : Below w1.heap.size w1 w2) (hX : Below w2.heap.size w2 X) (t : Touch (fun k => (Value.slice pa kk pc).ownBlock = some k) X w3)
    (hc : wr.cell? ⟨mb, 1, none⟩ = some u) (hf : wr.frozen? ⟨mb, 1, none⟩ = false) : w3.cell? ⟨mb, 1, none⟩ = some u ∧ w3.frozen? ⟨mb, 1, none⟩ = false := by
  have h1 : mb < w1.heap.size := Nat.lt_of_lt_of_le hmb b1.size
  have h2 : mb < w2.heap.size := Nat.lt_of_lt_of_le h1 b2.size
  have h3 : mb < X.heap.size := Nat.lt_of_lt_of_le h2 hX.size
  have e : w3.heap[mb]? = wr.heap[mb]? := by rw [t.block mb h3 hne, hX.block mb h2, b2.block mb h1, b1.block mb hmb]
  exact ⟨(World.cell?_of_block (a := ⟨mb, 1, none⟩) e).trans hc, by rw [← hf]; unfold World.frozen?; rw [e]⟩
/-- make([]node, n). -/
theorem made_nodes {n : Nat} (h1 : 1 ≤ n) (h2 : n ≤ 5) : ∃ NA : Array Value, NA.toList = (List.replicate n (⟨false, 0, 0⟩ : Nd)).flatMap ndC ∧
    ∀ W : World, (Instr.makeSlice 32 (.int .i64 (n : Int)) (.int .i64 (n : Int))).run Try.prog W = .ok (.slice (some ⟨W.heap.size, 0, none⟩) n n) (W.alloc (.cells NA 76)) := by
  obtain ⟨i, z, hi, hz, hs, hb, hc⟩ := node_info
  refine ⟨madeCells z.cells (n * 3), ?_, fun W => ?_⟩
  · rw [hc]
    have : n = 1 ∨ n = 2 ∨ n = 3 ∨ n = 4 ∨ n = 5 := by omega
    rcases this with rfl | rfl | rfl | rfl | rfl <;> first | (simp [madeCells, ndC, List.range, List.range.loop, List.replicate]; done) | kernel_rfl | decide
  · have := run_makeSlice (P := Try.prog) W 32 76 i z Try.underlying32 hi hz .i64 .i64 n n (by omega) (Int.le_refl _) (by rw [hs, Int.toNat_natCast]; omega) (by rw [hb]; omega) (by omega)
    rw [hs, Int.toNat_natCast] at this
    exact this
theorem new0 {w w1 : World} {nb pb n : Nat} (hn : Wide w1 76 3 (.slice (some ⟨nb, 0, none⟩) n n) n ((List.replicate n (⟨false, 0, 0⟩ : Nd)).flatMap ndC)) (hc : CtrAt w1 pb (min 1 1001) 1001) (hb : Below w.heap.size w w1) (h1 : w.heap.size ≤ nb) (h2 : w.heap.size ≤ pb) :
    INew w (w1.alloc (.cells #[.slice (some ⟨nb, 0, none⟩) n n, .slice none 0 0, .pointer (some ⟨pb, 0, none⟩), .int .i64 0] 38)) w1.heap.size ⟨.slice (some ⟨nb, 0, none⟩) n n, .slice none 0 0, pb, List.replicate n ⟨false, 0, 0⟩, [], 1, 0⟩ := by
  have b1 := (Below.refl w1.heap.size w1).alloc (Nat.le_refl _) (.cells #[.slice (some ⟨nb, 0, none⟩) n n, .slice none 0 0, .pointer (some ⟨pb, 0, none⟩), .int .i64 0] 38)
  refine ⟨⟨heap_new _ _, ?_, Wide.nil _ _ _, fun i hi => absurd hi (by simp), fun i j hi => absurd hi (by simp), ?_⟩, fun k hk => ?_, hb.trans (b1.mono hb.size)⟩
  · have := hn.later b1
    simpa using this
  · exact hc.keep (Touch.of_below (S := fun _ => False) b1) (fun h => h)
  · rcases hk with rfl | rfl | e | e | ⟨i, hi, _⟩
    · exact hb.size
    · exact h2
    · have : nb = k := by simpa [Value.ownBlock] using e
      omega
    · simp [Value.ownBlock] at e
    · simp at hi
set_option maxHeartbeats 2000000 in
theorem inew_any {w : World} {n p c : Nat} (h1 : 1 ≤ n) (h2 : n ≤ 5) (h3 : 1 ≤ p) (h4 : p ≤ 6) (h5 : 1 ≤ c) (h6 : c ≤ n) :
    Calls Try.prog 4 #[.int .i64 n, .int .i64 p, .int .i64 c] w fun e w' => ∃ mb m, e = .returned (.tuple #[.pointer (some ⟨mb, 0, none⟩), .int .i64 0]) ∧ INew w w' mb m ∧ m.abs = newI n p c := by
  have g1 : ¬ ((n : Int) < 1) := by omega
  have g2 : ¬ (5 < (n : Int)) := by omega
  have g3 : ¬ ((p : Int) < 1) := by omega
  have g4 : ¬ (6 < (p : Int)) := by omega
  have g5 : ¬ ((c : Int) < 1) := by omega
  have g6 : ¬ ((n : Int) < (c : Int)) := by omega
  have KN : Hid (∀ W, Calls Try.prog 8 #[.int .u64 1, .int .u64 1001] W fun e w' => e = .returned (.pointer (some ⟨W.heap.size, 0, none⟩)) ∧ CtrAt w' W.heap.size (min 1 1001) 1001 ∧ Below W.heap.size W w') := fun W => new_any 1 1001 W (by omega) (by omega) (by omega)
  obtain ⟨NA, hNA, hmk⟩ := made_nodes h1 h2
  have HNA := hide hNA
  clear hNA
  go_enter Try.func4, Try.ntmps4
  go_upto_region 3 with fail
  go_region_law (go_simp; go_at_call 8; refine (unhide KN _).mono ?_; rintro e w1 ⟨rfl, h1, b1⟩; have H1 := hide h1; have B1 := hide b1; clear h1 b1)
  · have N0 : Hid (INew w (w1.alloc (.cells #[.slice (some ⟨w.heap.size, 0, none⟩) n n, .slice none 0 0, .pointer (some ⟨w.heap.size + 1, 0, none⟩), .int .i64 0] 38)) w1.heap.size ⟨.slice (some ⟨w.heap.size, 0, none⟩) n n, .slice none 0 0, w.heap.size + 1, List.replicate n ⟨false, 0, 0⟩, [], 1, 0⟩) := by
      have hs : NA.size = n * 3 := by rw [← Array.length_toList, unhide HNA, flat_len ndC ndC_len]; simp
      have c := unhide H1
      have b := unhide B1
      have e0 : (w.alloc (.cells NA 76)).drew.heap.size = w.heap.size + 1 := by simp
      rw [e0] at c b
      have hw := World.ownsRow_lit (base := 0) (e := 76) (size := 3) w NA n (Nat.zero_le _) (by unfold maxLen; omega) hs
      rw [unhide HNA] at hw
      have b0 : Below w.heap.size w (w.alloc (.cells NA 76)).drew := ((Below.refl _ w).alloc (Nat.le_refl _) _).drew
      refine hide (new0 (Wide.keep (S := fun _ => False) hw ?_ (fun _ _ h => h)) c (b0.trans (b.mono (by omega))) (Nat.le_refl _) (by omega))
      exact (Touch.refl _ _).drew.trans (Touch.of_below (by rw [e0]; exact b))
    clear H1 B1
    obtain ⟨m0, M0⟩ : ∃ m0 : Im, Hid (m0 = ⟨.slice (some ⟨w.heap.size, 0, none⟩) n n, .slice none 0 0, w.heap.size + 1, List.replicate n ⟨false, 0, 0⟩, [], 1, 0⟩) := ⟨_, hide rfl⟩
    rw [← unhide M0] at N0
    have AB : Hid (m0.abs = ⟨List.replicate n ⟨false, 0, 0⟩, [], 1, 0⟩) := hide (by rw [unhide M0]; rfl)
    clear M0 HNA hmk
    go_wp2_with fail
    generalize w1.alloc (.cells #[.slice (some ⟨w.heap.size, 0, none⟩) n n, .slice none 0 0, .pointer (some ⟨w.heap.size + 1, 0, none⟩), .int .i64 0] 38) = V at *
    generalize w1.heap.size = mb at *
    generalize w.heap.size + 1 = nb at *
    go_loopg [9, 39] p (fun gg _ s39 wr => ∃ kk : Nat, ∃ m' : Im, kk ≤ p ∧ p - kk ≤ gg ∧ s39 = .int .i64 kk ∧ Hid (INew w wr mb m') ∧ Hid (m'.abs = ⟨List.replicate n ⟨false, 0, 0⟩, (List.range kk).map (newP n c), 1, 0⟩))
    case atStart => exact ⟨0, m0, Nat.zero_le _, by omega, rfl, N0, AB⟩
    case round =>
      obtain ⟨kk, m', hkk, hg, rfl, T, A⟩ := hrel
      by_cases hlt : kk < p
      · have hltz : (kk : Int) < (p : Int) := by omega
        have hpl : m'.ps.length = kk := by have := congrArg (fun x => x.ps.length) (unhide A); simpa [Im.abs] using this
        have HPL := hide hpl
        obtain ⟨_, c1, _, _, cf⟩ := (unhide T).at_.c
        have cf1 := cf 1
        obtain ⟨pa, pc, ep, _⟩ := (unhide T).at_.pts.parts
        have EP := hide ep
        rw [ep] at c1
        have hmb : mb < wr.heap.size := (unhide T).at_.lt (.inl rfl)
        have PB : Hid (m'.pv.ownBlock ≠ some mb) := hide (unhide T).at_.mi.2.2.1
        have ROW : Hid (Wide wr 42 6 (.slice pa m'.ps.length pc) m'.ps.length (m'.ps.flatMap pmC)) := hide (by have := (unhide T).at_.pts; rwa [ep] at this)
        rw [hpl] at c1 ROW
        clear ep hpl cf
        have KA : Hid (∀ U W, Below wr.heap.size wr U → Below U.heap.size U W → Calls Try.prog 9 #[.int .i64 (kk : Int), .int .i64 (c : Int), .int .i64 (n : Int)] W fun e w' => ∃ a k, e = .returned (.slice a c k) ∧ IL w' (.slice a c k) (arnd kk c n) ∧ New U (.slice a c k) ∧ Below U.heap.size U w') := hide (fun U W hu hb => by
          refine (around_any (w := W) (k := kk) (c := c) (n := n) (by omega) h5 (by omega) h1 (by omega)).mono ?_
          rintro e w' ⟨v, rfl, q1, q2, q3⟩
          obtain ⟨a, k, ev, _⟩ := q1.iat
          rw [arnd_len] at ev
          subst ev
          exact ⟨a, k, rfl, q1, q2.mono hb.size, hb.trans (q3.mono hb.size)⟩)
        have CK : Hid (∀ W, Below wr.heap.size wr W → W.cell? ⟨mb, 1, none⟩ = some (.slice pa kk pc)) := hide (fun W hb => (hb.cell (p := ⟨mb, 1, none⟩) hmb).trans c1)
        have NE : Hid ((Value.slice pa kk pc).ownBlock ≠ some mb) := hide (by have := unhide PB; rw [unhide EP, unhide HPL] at this; exact this)
        have C1 := hide c1
        have F1 := hide cf1
        go_wp2_with fail
        go_region_law (first
          | (go_simp; go_at_call 9; refine (unhide KA w1 _ (unhide B1) (by first | exact Below.refl _ _ | exact Below.drew (Below.refl _ _) | exact below_drewN3 (Below.refl _ _) _)).mono ?_; rintro e w2 ⟨a2, k2, rfl, i2, n2, b2⟩; have I2 := hide i2; have N2 := hide n2; have B2 := hide b2; have y2 := unhide CK w2 ((unhide B1).trans (b2.mono (unhide B1).size)); have y2' := fun o : Obj => unhide CK (w2.alloc o) (((unhide B1).trans (b2.mono (unhide B1).size)).alloc (Nat.le_trans (unhide B1).size b2.size) o); clear i2 n2 b2)
          | (go_simp; go_at_call 9; refine (unhide KA wr _ (Below.refl _ _) (by first | exact Below.refl _ _ | exact Below.drew (Below.refl _ _) | exact below_drewN3 (Below.refl _ _) _)).mono ?_; rintro e w1 ⟨a1, k1, rfl, i1, n1, b1⟩; have I1 := hide i1; have N1 := hide n1; have B1 := hide b1; have y1 := unhide CK w1 b1; clear i1 n1 b1)
          | (refine step_part rfl (.tmp 46) (.tmp 56) rfl (.slice pa kk pc) kk (m'.ps.flatMap pmC) (by rfl) ((unhide ROW).later ((unhide B1).trans (((unhide B2).trans ((show Below w2.heap.size w2 _ by first | exact (Below.refl _ _).alloc (Nat.le_refl _) _ | exact (Below.drew (Below.refl _ _)).alloc (Nat.le_refl _) _ | exact (below_drewN3 (Below.refl _ _) _).alloc (Nat.le_refl _) _ | exact ((Below.refl _ _).alloc (Nat.le_refl _) _).drew).mono (unhide B2).size)).mono (unhide B1).size))) _ _ [.int .i64 (-1), .int .i64 0, .int .i64 0, .slice a1 c k1, .slice a2 c k2, .slice none 0 0] (by rfl) (heap_new _ _) rfl rfl (by intro u hu; simp at hu; rcases hu with rfl | rfl | rfl | rfl | rfl | rfl <;> rfl) (by omega) ?_; intro v3 w3 o3 t3 m3; obtain ⟨a3, c3, e3⟩ := o3.shape; subst e3
             have J3 := hide (INew.step2 (unhide T) (unhide EP) (unhide HPL) (unhide I1) (unhide N1) (unhide B1) (unhide I2) (unhide N2) (unhide B2) (by first | exact (Below.refl _ _).alloc (Nat.le_refl _) _ | exact (Below.drew (Below.refl _ _)).alloc (Nat.le_refl _) _ | exact (below_drewN3 (Below.refl _ _) _).alloc (Nat.le_refl _) _ | exact ((Below.refl _ _).alloc (Nat.le_refl _) _).drew) o3 t3 m3)
             obtain ⟨y3, z3⟩ := keep1 (unhide NE) hmb (unhide B1) (unhide B2) (by first | exact (Below.refl _ _).alloc (Nat.le_refl _) _ | exact (Below.drew (Below.refl _ _)).alloc (Nat.le_refl _) _ | exact (below_drewN3 (Below.refl _ _) _).alloc (Nat.le_refl _) _ | exact ((Below.refl _ _).alloc (Nat.le_refl _) _).drew) t3 (unhide C1) (unhide F1)
             clear o3 t3 m3))
        all_goals
          have NX : ∃ m2 : Im, Hid (INew w (w3.setCell ⟨mb, 1, none⟩ (.slice a3 (kk + 1) c3)) mb m2) ∧ Hid (m2.abs = ⟨List.replicate n ⟨false, 0, 0⟩, (List.range (kk + 1)).map (newP n c), 1, 0⟩) := ⟨_, J3, hide (by
            have A' := unhide A
            unfold Im.abs at A' ⊢
            simp only [Img.mk.injEq] at A' ⊢
            obtain ⟨q1, q2, q3, q4⟩ := A'
            exact ⟨q1, by rw [List.map_append, q2, List.range_succ, List.map_append]; rfl, q3, q4⟩)⟩
          obtain ⟨m2, NX1, NX2⟩ := NX
          clear J3 I1 I2 N1 N2 B1 B2 y1 y2 y2' y3 z3 C1 F1 NE CK KA ROW EP PB
          go_wp2
          go_roundg (p - (kk + 1))
          case measure => omega
          case rel => exact ⟨kk + 1, m2, by omega, by omega, by go_num, NX1, NX2⟩
      · have hltz : ¬ (kk : Int) < (p : Int) := by omega
        have e : kk = p := by omega
        subst e
        go_wp2
        go_returns
        exact ⟨mb, rfl, m', unhide T, unhide A⟩
  · have N0 : Hid (INew w ((w1.alloc (.cells NA 76)).alloc (.cells #[.slice (some ⟨w1.heap.size, 0, none⟩) n n, .slice none 0 0, .pointer (some ⟨w.heap.size, 0, none⟩), .int .i64 0] 38)) (w1.heap.size + 1) ⟨.slice (some ⟨w1.heap.size, 0, none⟩) n n, .slice none 0 0, w.heap.size, List.replicate n ⟨false, 0, 0⟩, [], 1, 0⟩) := by
      have hs : NA.size = n * 3 := by rw [← Array.length_toList, unhide HNA, flat_len ndC ndC_len]; simp
      have c := unhide H1
      have b := unhide B1
      have e0 : w.drew.heap.size = w.heap.size := by simp
      rw [e0] at c b
      have hw := World.ownsRow_lit (base := 0) (e := 76) (size := 3) w1 NA n (Nat.zero_le _) (by unfold maxLen; omega) hs
      rw [unhide HNA] at hw
      have b0 : Below w.heap.size w w1 := (Below.drew (Below.refl _ w)).trans b
      have b1 := (Below.refl w1.heap.size w1).alloc (Nat.le_refl _) (.cells NA 76)
      have := new0 hw (c.keep (Touch.of_below (S := fun _ => False) b1) (fun h => h)) (b0.trans (b1.mono b0.size)) b0.size (Nat.le_refl _)
      have e1 : (w1.alloc (.cells NA 76)).heap.size = w1.heap.size + 1 := by simp
      rw [e1] at this
      exact hide this
    clear H1 B1
    obtain ⟨m0, M0⟩ : ∃ m0 : Im, Hid (m0 = ⟨.slice (some ⟨w1.heap.size, 0, none⟩) n n, .slice none 0 0, w.heap.size, List.replicate n ⟨false, 0, 0⟩, [], 1, 0⟩) := ⟨_, hide rfl⟩
    rw [← unhide M0] at N0
    have AB : Hid (m0.abs = ⟨List.replicate n ⟨false, 0, 0⟩, [], 1, 0⟩) := hide (by rw [unhide M0]; rfl)
    clear M0 HNA hmk
    go_wp2_with fail
    generalize (w1.alloc (.cells NA 76)).alloc (.cells #[.slice (some ⟨w1.heap.size, 0, none⟩) n n, .slice none 0 0, .pointer (some ⟨w.heap.size, 0, none⟩), .int .i64 0] 38) = V at *
    generalize w1.heap.size + 1 = mb at *
    generalize w1.heap.size = nb at *
    go_loopg [9, 39] p (fun gg _ s39 wr => ∃ kk : Nat, ∃ m' : Im, kk ≤ p ∧ p - kk ≤ gg ∧ s39 = .int .i64 kk ∧ Hid (INew w wr mb m') ∧ Hid (m'.abs = ⟨List.replicate n ⟨false, 0, 0⟩, (List.range kk).map (newP n c), 1, 0⟩))
    case atStart => exact ⟨0, m0, Nat.zero_le _, by omega, rfl, N0, AB⟩
    case round =>
      obtain ⟨kk, m', hkk, hg, rfl, T, A⟩ := hrel
      by_cases hlt : kk < p
      · have hltz : (kk : Int) < (p : Int) := by omega
        have hpl : m'.ps.length = kk := by have := congrArg (fun x => x.ps.length) (unhide A); simpa [Im.abs] using this
        have HPL := hide hpl
        obtain ⟨_, c1, _, _, cf⟩ := (unhide T).at_.c
        have cf1 := cf 1
        obtain ⟨pa, pc, ep, _⟩ := (unhide T).at_.pts.parts
        have EP := hide ep
        rw [ep] at c1
        have hmb : mb < wr.heap.size := (unhide T).at_.lt (.inl rfl)
        have PB : Hid (m'.pv.ownBlock ≠ some mb) := hide (unhide T).at_.mi.2.2.1
        have ROW : Hid (Wide wr 42 6 (.slice pa m'.ps.length pc) m'.ps.length (m'.ps.flatMap pmC)) := hide (by have := (unhide T).at_.pts; rwa [ep] at this)
        rw [hpl] at c1 ROW
        clear ep hpl cf
        have KA : Hid (∀ U W, Below wr.heap.size wr U → Below U.heap.size U W → Calls Try.prog 9 #[.int .i64 (kk : Int), .int .i64 (c : Int), .int .i64 (n : Int)] W fun e w' => ∃ a k, e = .returned (.slice a c k) ∧ IL w' (.slice a c k) (arnd kk c n) ∧ New U (.slice a c k) ∧ Below U.heap.size U w') := hide (fun U W hu hb => by
          refine (around_any (w := W) (k := kk) (c := c) (n := n) (by omega) h5 (by omega) h1 (by omega)).mono ?_
          rintro e w' ⟨v, rfl, q1, q2, q3⟩
          obtain ⟨a, k, ev, _⟩ := q1.iat
          rw [arnd_len] at ev
          subst ev
          exact ⟨a, k, rfl, q1, q2.mono hb.size, hb.trans (q3.mono hb.size)⟩)
        have CK : Hid (∀ W, Below wr.heap.size wr W → W.cell? ⟨mb, 1, none⟩ = some (.slice pa kk pc)) := hide (fun W hb => (hb.cell (p := ⟨mb, 1, none⟩) hmb).trans c1)
        have NE : Hid ((Value.slice pa kk pc).ownBlock ≠ some mb) := hide (by have := unhide PB; rw [unhide EP, unhide HPL] at this; exact this)
        have C1 := hide c1
        have F1 := hide cf1
        go_wp2_with fail
        go_region_law (first
          | (go_simp; go_at_call 9; refine (unhide KA w1 _ (unhide B1) (by first | exact Below.refl _ _ | exact Below.drew (Below.refl _ _) | exact below_drewN3 (Below.refl _ _) _)).mono ?_; rintro e w2 ⟨a2, k2, rfl, i2, n2, b2⟩; have I2 := hide i2; have N2 := hide n2; have B2 := hide b2; have y2 := unhide CK w2 ((unhide B1).trans (b2.mono (unhide B1).size)); have y2' := fun o : Obj => unhide CK (w2.alloc o) (((unhide B1).trans (b2.mono (unhide B1).size)).alloc (Nat.le_trans (unhide B1).size b2.size) o); clear i2 n2 b2)
          | (go_simp; go_at_call 9; refine (unhide KA wr _ (Below.refl _ _) (by first | exact Below.refl _ _ | exact Below.drew (Below.refl _ _) | exact below_drewN3 (Below.refl _ _) _)).mono ?_; rintro e w1 ⟨a1, k1, rfl, i1, n1, b1⟩; have I1 := hide i1; have N1 := hide n1; have B1 := hide b1; have y1 := unhide CK w1 b1; clear i1 n1 b1)
          | (refine step_part rfl (.tmp 46) (.tmp 56) rfl (.slice pa kk pc) kk (m'.ps.flatMap pmC) (by rfl) ((unhide ROW).later ((unhide B1).trans (((unhide B2).trans ((show Below w2.heap.size w2 _ by first | exact (Below.refl _ _).alloc (Nat.le_refl _) _ | exact (Below.drew (Below.refl _ _)).alloc (Nat.le_refl _) _ | exact (below_drewN3 (Below.refl _ _) _).alloc (Nat.le_refl _) _ | exact ((Below.refl _ _).alloc (Nat.le_refl _) _).drew).mono (unhide B2).size)).mono (unhide B1).size))) _ _ [.int .i64 (-1), .int .i64 0, .int .i64 0, .slice a1 c k1, .slice a2 c k2, .slice none 0 0] (by rfl) (heap_new _ _) rfl rfl (by intro u hu; simp at hu; rcases hu with rfl | rfl | rfl | rfl | rfl | rfl <;> rfl) (by omega) ?_; intro v3 w3 o3 t3 m3; obtain ⟨a3, c3, e3⟩ := o3.shape; subst e3
             have J3 := hide (INew.step2 (unhide T) (unhide EP) (unhide HPL) (unhide I1) (unhide N1) (unhide B1) (unhide I2) (unhide N2) (unhide B2) (by first | exact (Below.refl _ _).alloc (Nat.le_refl _) _ | exact (Below.drew (Below.refl _ _)).alloc (Nat.le_refl _) _ | exact (below_drewN3 (Below.refl _ _) _).alloc (Nat.le_refl _) _ | exact ((Below.refl _ _).alloc (Nat.le_refl _) _).drew) o3 t3 m3)
             obtain ⟨y3, z3⟩ := keep1 (unhide NE) hmb (unhide B1) (unhide B2) (by first | exact (Below.refl _ _).alloc (Nat.le_refl _) _ | exact (Below.drew (Below.refl _ _)).alloc (Nat.le_refl _) _ | exact (below_drewN3 (Below.refl _ _) _).alloc (Nat.le_refl _) _ | exact ((Below.refl _ _).alloc (Nat.le_refl _) _).drew) t3 (unhide C1) (unhide F1)
             clear o3 t3 m3))
        all_goals
          have NX : ∃ m2 : Im, Hid (INew w (w3.setCell ⟨mb, 1, none⟩ (.slice a3 (kk + 1) c3)) mb m2) ∧ Hid (m2.abs = ⟨List.replicate n ⟨false, 0, 0⟩, (List.range (kk + 1)).map (newP n c), 1, 0⟩) := ⟨_, J3, hide (by
            have A' := unhide A
            unfold Im.abs at A' ⊢
            simp only [Img.mk.injEq] at A' ⊢
            obtain ⟨q1, q2, q3, q4⟩ := A'
            exact ⟨q1, by rw [List.map_append, q2, List.range_succ, List.map_append]; rfl, q3, q4⟩)⟩
          obtain ⟨m2, NX1, NX2⟩ := NX
          clear J3 I1 I2 N1 N2 B1 B2 y1 y2 y2' y3 z3 C1 F1 NE CK KA ROW EP PB
          go_wp2
          go_roundg (p - (kk + 1))
          case measure => omega
          case rel => exact ⟨kk + 1, m2, by omega, by omega, by go_num, NX1, NX2⟩
      · have hltz : ¬ (kk : Int) < (p : Int) := by omega
        have e : kk = p := by omega
        subst e
        go_wp2
        go_returns
        exact ⟨mb, rfl, m', unhide T, unhide A⟩
end Go.Proofs.Ytfakjcaolpmkeaa
