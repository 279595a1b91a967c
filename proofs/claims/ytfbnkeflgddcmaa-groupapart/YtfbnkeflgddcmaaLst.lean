/-
  Rows that a call itself makes and grows by append, as lists; where they lie. Plain lemmas. Conditions: a grown row has at most 2^47 bytes.
-/
import Derived.Test.YtfbnkeflgddcmaaBytes
import Derived.OwnWalk
import Derived.Handy
import Derived.Laws.Cover3
import Derived.Laws.AppendOwn
namespace Go.Proofs.Ytfbnkeflgddcmaa
open Go.RowKit
set_option linter.unusedVariables false

theorem eql_nil {P : Program} (w : World) (t e : TypeId) (a : Option Addr) (l c : Nat) (h : P.underlying t = some (.slice e)) : (binOp .eql t (.slice a l c) (.slice none 0 0)).run P w = .ok (.bool a.isNone) w := by
  simp [binOp, run_equal_slice_nil w t e a l c h]

/-- A slice of bytes in memory that reads as a list. -/
abbrev LAt (w : World) (a : Option Addr) (l : List Nat) : Prop := BytesAt w a l.length (fun i => l.getD i 0)

theorem LAt.bytes {w : World} {a : Option Addr} {l : List Nat} (h : LAt w a l) : ∀ x ∈ l, x < 256 := by
  intro x hx
  obtain ⟨i, hi, e⟩ := List.getElem_of_mem hx
  obtain ⟨_, _, _, _, _, h4⟩ := h i hi
  simp [List.getD, hi] at h4
  omega
theorem BytesAt.list {w : World} {a : Option Addr} {len : Nat} {g : Nat → Nat} (h : BytesAt w a len g) : ∃ l : List Nat, l.length = len ∧ LAt w a l := by
  refine ⟨(List.range len).map g, by simp, fun i hi => ?_⟩
  have hi' : i < len := by simpa using hi
  have e : ((List.range len).map g).getD i 0 = g i := by simp [List.getD, hi']
  show ∃ b off, a = some ⟨b, off, none⟩ ∧ b < w.heap.size ∧ w.cell? ⟨b, off + i, none⟩ = some (.int .u8 (((List.range len).map g).getD i 0 : Nat)) ∧ ((List.range len).map g).getD i 0 < 256
  rw [e]
  exact h i hi'
theorem LAt.cell {w : World} {a : Option Addr} {l : List Nat} (h : LAt w a l) {i : Nat} (hi : i < l.length) : ∃ b off, a = some ⟨b, off, none⟩ ∧ b < w.heap.size ∧ w.cell? ⟨b, off + i, none⟩ = some (.int .u8 (l.getD i 0 : Nat)) ∧ l.getD i 0 < 256 := h i hi
theorem LAt.keep {w w' : World} {a : Option Addr} {l : List Nat} {S : Nat → Prop} (h : LAt w a l) (t : Touch S w w') (hs : 0 < l.length → ∀ x, a = some x → ¬ S x.block) : LAt w' a l := by
  intro i hi
  obtain ⟨b, off, h1, h2, h3, h4⟩ := h i hi
  exact ⟨b, off, h1, Nat.lt_of_lt_of_le h2 t.size, (World.cell?_of_block (a := ⟨b, off + i, none⟩) (t.block b h2 (hs (by omega) _ h1))).trans h3, h4⟩
theorem LAt.later {w w' : World} {a : Option Addr} {l : List Nat} (h : LAt w a l) (hb : Below w.heap.size w w') : LAt w' a l := arg_later h hb
theorem LAt.drop {w : World} {a : Option Addr} {l : List Nat} {cap : Nat} (h : LAt w a l) (hc : l.length ≤ cap) (k : Nat) : LAt w (cut a k cap) (l.drop k) := by
  have := cut_bytes (k := k) h hc
  intro i hi
  obtain ⟨b, off, h1, h2, h3, h4⟩ := this i (by simpa using hi)
  have e : (l.drop k).getD i 0 = l.getD (k + i) 0 := by simp [List.getD]
  exact ⟨b, off, h1, h2, by show _ = some (Value.int .u8 ((l.drop k).getD i 0 : Nat)); rw [e]; exact h3, by show (l.drop k).getD i 0 < 256; rw [e]; exact h4⟩
theorem LAt.take {w : World} {a : Option Addr} {l : List Nat} (h : LAt w a l) (k : Nat) : LAt w a (l.take k) := by
  intro i hi
  have hi' : i < k ∧ i < l.length := by rw [List.length_take] at hi; omega
  have e : (l.take k).getD i 0 = l.getD i 0 := by simp [List.getD, hi'.1]
  show ∃ b off, a = some ⟨b, off, none⟩ ∧ b < w.heap.size ∧ w.cell? ⟨b, off + i, none⟩ = some (.int .u8 ((l.take k).getD i 0 : Nat)) ∧ (l.take k).getD i 0 < 256
  rw [e]
  exact h i hi'.2

/-- The same for whole numbers with a sign. -/
def IAt (w : World) (a : Option Addr) (l : List Int) : Prop :=
  ∀ i, i < l.length → ∃ b off, a = some ⟨b, off, none⟩ ∧ b < w.heap.size ∧ w.cell? ⟨b, off + i, none⟩ = some (.int .i64 (l.getD i 0))
theorem IAt.keep {w w' : World} {a : Option Addr} {l : List Int} {S : Nat → Prop} (h : IAt w a l) (t : Touch S w w') (hs : 0 < l.length → ∀ x, a = some x → ¬ S x.block) : IAt w' a l := by
  intro i hi
  obtain ⟨b, off, h1, h2, h3⟩ := h i hi
  exact ⟨b, off, h1, Nat.lt_of_lt_of_le h2 t.size, (World.cell?_of_block (a := ⟨b, off + i, none⟩) (t.block b h2 (hs (by omega) _ h1))).trans h3⟩
theorem IAt.later {w w' : World} {a : Option Addr} {l : List Int} (h : IAt w a l) (hb : Below w.heap.size w w') : IAt w' a l := by
  intro i hi
  obtain ⟨b, off, h1, h2, h3⟩ := h i hi
  exact ⟨b, off, h1, Nat.lt_of_lt_of_le h2 hb.size, (hb.cell (p := ⟨b, off + i, none⟩) h2).trans h3⟩

/-- The row of v' is v's, or a new one. -/
def Moved (w : World) (v v' : Value) : Prop := ∀ k, v'.ownBlock = some k → v.ownBlock = some k ∨ w.heap.size ≤ k
/-- The row is a new one. -/
def New (w : World) (v : Value) : Prop := ∀ k, v.ownBlock = some k → w.heap.size ≤ k
theorem Moved.refl (w : World) (v : Value) : Moved w v v := fun _ h => .inl h
theorem New.moved {w0 w : World} {v v' : Value} (h : New w0 v) (m : Moved w v v') (hs : w0.heap.size ≤ w.heap.size) : New w0 v' := fun k hk => by
  rcases m k hk with e | e
  · exact h k e
  · omega
theorem New.nil (w : World) : New w (.slice none 0 0) := fun k hk => by simp [Value.ownBlock] at hk
theorem New.mono {w w' : World} {v : Value} (h : New w' v) (hs : w.heap.size ≤ w'.heap.size) : New w v := fun k hk => Nat.le_trans hs (h k hk)

/-- A row of one-cell elements that the call has made. -/
def Own (w : World) (e : TypeId) (v : Value) (xs : List Value) : Prop := w.ownsRow 0 e 1 v xs.length xs
theorem Own.nil (w : World) (e : TypeId) : Own w e (.slice none 0 0) [] := World.ownsRow_nil w 0 e 1
theorem Own.lt {w : World} {e : TypeId} {v : Value} {xs : List Value} (h : Own w e v xs) : ∀ k, v.ownBlock = some k → k < w.heap.size := fun k hk => (World.ownsRow.lt h k hk).2
theorem Own.keep {w w' : World} {e : TypeId} {v : Value} {xs : List Value} {S : Nat → Prop} (h : Own w e v xs) (t : Touch S w w') (hs : ∀ k, v.ownBlock = some k → ¬ S k) : Own w' e v xs := by
  refine ⟨h.1, ?_⟩
  rcases h.2 with hn | ⟨g, cap, cur, rfl, hb, hgg, rest⟩
  · exact .inl hn
  · exact .inr ⟨g, cap, cur, rfl, hb, t.keep hgg (hs g rfl), rest⟩
theorem Own.later {w w' : World} {e : TypeId} {v : Value} {xs : List Value} (h : Own w e v xs) (hb : Below w.heap.size w w') : Own w' e v xs := h.keep (Touch.of_below (S := fun _ => False) hb) (fun _ _ h => h)
theorem Own.parts {w : World} {e : TypeId} {v : Value} {xs : List Value} (h : Own w e v xs) : ∃ a cap, v = .slice a xs.length cap ∧ xs.length ≤ cap ∧ cap ≤ maxLen ∧ (a = none → cap = 0) ∧ (∀ x, a = some x → v.ownBlock = some x.block) ∧ (∀ i, i < xs.length → ∃ g, a = some ⟨g, 0, none⟩ ∧ g < w.heap.size ∧ w.cell? ⟨g, i, none⟩ = xs[i]? ∧ w.frozen? ⟨g, i, none⟩ = false) := by
  rcases h.2 with ⟨rfl, h0⟩ | ⟨g, cap, cur, rfl, _, hgg, hn, hm, hs, ht⟩
  · exact ⟨none, 0, by rw [h0], by omega, Nat.zero_le _, fun _ => rfl, (fun x hx => by cases hx), fun i hi => by omega⟩
  · refine ⟨some ⟨g, 0, none⟩, cap, rfl, hn, hm, (fun hx => by cases hx), (fun x hx => by cases hx; rfl), fun i hi => ⟨g, rfl, lt_of_heap hgg, ?_, ?_⟩⟩
    · rw [cell_of hgg, ← ht, Nat.mul_one, List.getElem?_take, if_pos hi]
      simp
    · exact frozen_of hgg i

theorem run_app {P : Program} (w : World) (t ty e : TypeId) (i : TypeInfo) (z : Value) (bytes : Nat) (ht : P.underlying t = some (.slice e)) (hi : P.info? e = some i) (hz : i.zero = some z)
    (hsize : i.size = 1) (hby : i.bytes = bytes) (hzs : z.cells.size = 1) (v : Value) (xs : List Value) (hown : Own w e v xs)
    (ao : Option Addr) (m c : Nat) (news : List Value) (hm : news.length = m) (hnews : ∀ j u, news[j]? = some u → ∃ b off, ao = some ⟨b, off, none⟩ ∧ w.cell? ⟨b, off + j, none⟩ = some u) (h1 : ∀ u ∈ news, u.oneCell' = true) (hnone : ao = none → c = 0)
    (h63 : xs.length + m ≤ maxLen) (hbytes : (xs.length + m) * bytes ≤ 140737488355328) :
    ∃ v' w', (Builtin.append_ #[t, t] ty #[v, .slice ao m c]).run P w = .ok v' w' ∧ Own w' e v' (xs ++ news) ∧ Touch (fun k => v.ownBlock = some k) w w' ∧ Moved w v v' := by
  cases ao with
  | none =>
    obtain rfl := hnone rfl
    have h0 : news = [] := by
      cases news with
      | nil => rfl
      | cons u r => obtain ⟨b, off, hb, _⟩ := hnews 0 u rfl; cases hb
    subst h0
    obtain rfl : 0 = m := hm
    exact ⟨v, w, run_append_owned_none (P := P) w 0 t ty e i 1 ht hi v _ xs hown, by rw [List.append_nil]; exact hown, Touch.refl _ _, Moved.refl _ _⟩
  | some ad =>
    have hn' : ∀ j u, news[j]? = some u → w.cell? (ad.add j) = some u := by
      intro j u hj
      obtain ⟨b, off, hb, hc⟩ := hnews j u hj
      cases hb
      have hadd : Addr.add ⟨b, off, none⟩ j = ⟨b, off + j, none⟩ := by
        unfold Addr.add
        split
        · rename_i h0; subst h0; rfl
        · rfl
      rw [hadd]; exact hc
    have hl : news.length = m * 1 := by omega
    obtain ⟨v', w', hrun, o', g', _⟩ := run_append_own (P := P) w 0 t ty e i z 1 bytes ht hi hz hsize hby hzs (by omega) v xs.length xs hown ad m c news hl hn' h1 h63 hbytes (Nat.zero_le _)
    refine ⟨v', w', hrun, ?_, ⟨g'.os, g'.tape, g'.output, g'.size, fun k hk hs => g'.block k hk (fun e => hs e.symm)⟩, ?_⟩
    · unfold Own; rw [List.length_append, hm]; exact o'
    · intro k hk
      rcases hown.2 with ⟨rfl, hx0⟩ | ⟨g, cap, cur, rfl, _, hgg, hnc, hcm, hcs, htk⟩
      · by_cases hm0 : m = 0
        · subst hm0
          have e0 : news = [] := List.eq_nil_of_length_eq_zero hm
          subst e0
          have hr : (Builtin.append_ #[t, t] ty #[.slice none 0 0, .slice (some ad) 0 c]).run P w = .ok (.slice none 0 0) w := by
            simp [Builtin.append_, run_underlying ht, sizeOf, typeInfo, hi, Builtin.lenOf, Builtin.firstCells, loadCells, loadCellsFrom]
          rw [hr] at hrun
          cases hrun
          exact .inl hk
        · have hsm : xs.length + m ≤ 9223372036854775807 := by simp only [maxLen] at h63; omega
          have hb : (0 + m) * bytes ≤ 140737488355328 := by rw [hx0] at hbytes; exact hbytes
          have hr := run_append_nil (P := P) w t ty e i z ht hi hz ad m c news (by rw [hsize]; exact hl) hn' (by omega) (by omega) (by simp only [Nat.zero_add] at hb; rw [hby]; omega)
          rw [hr] at hrun
          cases hrun
          right
          have hk' : some w.heap.size = some k := hk
          cases hk'; exact Nat.le_refl _
      · by_cases hroom : xs.length + m ≤ cap
        · have hfit : xs.length * i.size + news.length ≤ cur.size := by rw [hsize, hm, hcs]; omega
          have hr := run_append_room (P := P) w t ty e i ht hi g xs.length cap cur hgg ad m c news (by rw [hsize]; exact hl) hn' h1 hroom hfit
          rw [hr] at hrun
          cases hrun
          exact .inl hk
        · have holds : ∀ j u, xs[j]? = some u → w.cell? ((⟨g, 0, none⟩ : Addr).add j) = some u := World.ownsRow.cells hown (g := g) rfl
          have hsm : xs.length + m ≤ 9223372036854775807 := by simp only [maxLen] at h63; omega
          have hr := run_append_grow (P := P) w t ty e i z ht hi hz ⟨g, 0, none⟩ xs.length cap xs (by rw [hsize]; omega) holds ad m c news (by rw [hsize]; exact hl) hn' (by omega) (by omega) (by rw [hby]; exact growslice_fits (by omega) hbytes)
          rw [hr] at hrun
          cases hrun
          right
          have hk' : some w.heap.size = some k := hk
          cases hk'; exact Nat.le_refl _

theorem wpList_app {P : Program} (w : World) {ops : Array Oper} {rest : List Oper} {o : Oper} {a : Act} {Q : Exit → Act → World → Prop}
    (hg : o.guard = none) (s x : Operand) (t : TypeId) (hop : o.op = Op.call { callee := Callee.builtin Builtin.append, args := #[s, x], argTypes := #[t, t] })
    (e : TypeId) (i : TypeInfo) (z : Value) (bytes : Nat) (ht : P.underlying t = some (.slice e)) (hi : P.info? e = some i) (hz : i.zero = some z)
    (hsize : i.size = 1) (hby : i.bytes = bytes) (hzs : z.cells.size = 1) (v : Value) (xs : List Value) (hs : a.eval s = v) (hown : Own w e v xs)
    (ao : Option Addr) (m c : Nat) (news : List Value) (hx : a.eval x = .slice ao m c) (hm : news.length = m) (hnews : ∀ j u, news[j]? = some u → ∃ b off, ao = some ⟨b, off, none⟩ ∧ w.cell? ⟨b, off + j, none⟩ = some u) (h1 : ∀ u ∈ news, u.oneCell' = true) (hnone : ao = none → c = 0)
    (h63 : xs.length + m ≤ maxLen) (hbytes : (xs.length + m) * bytes ≤ 140737488355328)
    (hK : ∀ v' w', Own w' e v' (xs ++ news) → Touch (fun k => v.ownBlock = some k) w w' → Moved w v v' → wpList P ops Q rest (a.put o.dst v') w') :
    wpList P ops Q (o :: rest) a w := by
  refine wpList_plain hg fun K hK' => ?_
  obtain ⟨v', w', hrun, r1, r2, r3⟩ := run_app (P := P) w t o.type e i z bytes ht hi hz hsize hby hzs v xs hown ao m c news hm hnews h1 hnone h63 hbytes
  unfold Oper.wp
  simp [execOp, hop, resolve, invoke, builtin, hs, hx, hrun, Result.andThen]
  exact hK' _ _ (hK v' w' r1 r2 r3)

/-- Bytes. -/
def vals (l : List Nat) : List Value := l.map (fun x : Nat => Value.int .u8 (x : Int))
structure Row (w : World) (v : Value) (l : List Nat) : Prop where
  own : Own w 5 v (vals l)
  bytes : ∀ x ∈ l, x < 256
theorem vals_len (l : List Nat) : (vals l).length = l.length := by simp [vals]
theorem vals_app (a b : List Nat) : vals a ++ vals b = vals (a ++ b) := by simp [vals]
theorem Row.nil (w : World) : Row w (.slice none 0 0) [] := ⟨Own.nil _ _, (fun x hx => by cases hx)⟩
theorem Row.lt {w : World} {v : Value} {l : List Nat} (h : Row w v l) : ∀ k, v.ownBlock = some k → k < w.heap.size := h.own.lt
theorem Row.keep {w w' : World} {v : Value} {l : List Nat} {S : Nat → Prop} (h : Row w v l) (t : Touch S w w') (hs : ∀ k, v.ownBlock = some k → ¬ S k) : Row w' v l := ⟨h.own.keep t hs, h.bytes⟩
theorem Row.later {w w' : World} {v : Value} {l : List Nat} (h : Row w v l) (hb : Below w.heap.size w w') : Row w' v l := ⟨h.own.later hb, h.bytes⟩
theorem vals_at {l : List Nat} {j : Nat} (h : j < l.length) : (vals l)[j]? = some (.int .u8 (l.getD j 0 : Nat)) := by simp [vals, List.getD, h]
theorem Row.parts {w : World} {v : Value} {l : List Nat} (h : Row w v l) : ∃ a cap, v = .slice a l.length cap ∧ LAt w a l ∧ l.length ≤ cap ∧ cap ≤ maxLen ∧ (a = none → cap = 0) ∧ (∀ x, a = some x → v.ownBlock = some x.block) ∧ (∀ i, i < l.length → ∃ g, a = some ⟨g, 0, none⟩ ∧ w.frozen? ⟨g, i, none⟩ = false) := by
  obtain ⟨a, cap, e1, e2, e3, e4, e5, e6⟩ := h.own.parts
  rw [vals_len] at e1 e2
  refine ⟨a, cap, e1, fun i hi => ?_, e2, e3, e4, e5, fun i hi => ?_⟩
  · obtain ⟨g, ha, hg, hc, _⟩ := e6 i (by rw [vals_len]; exact hi)
    refine ⟨g, 0, ha, hg, ?_, h.bytes _ ?_⟩
    · rw [Nat.zero_add, hc]; exact vals_at hi
    · simp [List.getD, hi]
  · obtain ⟨g, ha, hg, hc, hf⟩ := e6 i (by rw [vals_len]; exact hi)
    exact ⟨g, ha, hf⟩
theorem Row.shape {w : World} {v : Value} {l : List Nat} (h : Row w v l) : ∃ a n cap, v = .slice a n cap := by obtain ⟨a, cap, e, _⟩ := h.parts; exact ⟨a, _, cap, e⟩
theorem src_vals {w : World} {a : Option Addr} {l : List Nat} (h : LAt w a l) : ∀ j u, (vals l)[j]? = some u → ∃ b off, a = some ⟨b, off, none⟩ ∧ w.cell? ⟨b, off + j, none⟩ = some u := by
  intro j u hj
  have hjl : j < l.length := by
    have := (List.getElem?_eq_some_iff.1 hj).1
    rw [vals_len] at this; exact this
  obtain ⟨b, off, h1, _, h3, _⟩ := h j hjl
  refine ⟨b, off, h1, ?_⟩
  rw [h3, ← hj]
  exact (vals_at hjl).symm
theorem one_vals (l : List Nat) : ∀ u ∈ vals l, u.oneCell' = true := by
  intro u hu
  obtain ⟨_, _, rfl⟩ := List.mem_map.1 hu
  rfl
theorem u8_info : ∃ i, Try.prog.info? 5 = some i ∧ i.zero = some (.int .u8 0) ∧ i.size = 1 ∧ i.bytes = 1 := by
  have h : (Try.prog.info? 5).map (fun i => (i.zero, i.size, i.bytes)) = some (some (.int .u8 0), 1, 1) := by kernel_rfl
  exact info_parts h

/-- append(row, bytes...). -/
theorem wpList_row (w : World) {ops : Array Oper} {rest : List Oper} {o : Oper} {a : Act} {Q : Exit → Act → World → Prop}
    (hg : o.guard = none) (s x : Operand) (hop : o.op = Op.call { callee := Callee.builtin Builtin.append, args := #[s, x], argTypes := #[41, 41] })
    (v : Value) (l : List Nat) (hs : a.eval s = v) (hr : Row w v l) (ao : Option Addr) (c : Nat) (l2 : List Nat) (hx : a.eval x = .slice ao l2.length c) (hb : LAt w ao l2) (hnone : ao = none → c = 0) (hlen : l.length + l2.length ≤ 140737488355328)
    (hK : ∀ v' w', Row w' v' (l ++ l2) → Touch (fun k => v.ownBlock = some k) w w' → Moved w v v' → wpList Try.prog ops Q rest (a.put o.dst v') w') :
    wpList Try.prog ops Q (o :: rest) a w := by
  obtain ⟨i, hi, hz, hsz, hby⟩ := u8_info
  refine wpList_app w hg s x 41 hop 5 i (.int .u8 0) 1 Try.underlying41 hi hz hsz hby rfl v (vals l) hs hr.own ao l2.length c (vals l2) hx (vals_len l2) (src_vals hb) (one_vals l2) hnone (by rw [vals_len]; unfold maxLen; omega) (by rw [vals_len]; omega) ?_
  intro v' w' h1 h2 h3
  exact hK v' w' ⟨by rw [← vals_app]; exact h1, fun y hy => by rcases List.mem_append.1 hy with h | h; exact hr.bytes y h; exact hb.bytes y h⟩ h2 h3

/-- A literal of bytes: a new block. -/
theorem LAt.lit (w : World) (l : List Nat) (h : ∀ x ∈ l, x < 256) (cs : Array Value) (hcs : cs.toList = vals l) : LAt (w.alloc (.cells cs 5)) (some ⟨w.heap.size, 0, none⟩) l := by
  intro i hi
  refine ⟨w.heap.size, 0, rfl, by simp, ?_, ?_⟩
  · rw [cell_of (heap_new _ _), Nat.zero_add, ← Array.getElem?_toList, hcs]
    exact vals_at hi
  · have : l.getD i 0 = l[i] := by simp [List.getD, hi]
    show l.getD i 0 < 256
    rw [this]
    exact h _ (List.getElem_mem hi)
theorem Row.lit (w : World) (l : List Nat) (h : ∀ x ∈ l, x < 256) (cs : Array Value) (hcs : cs.toList = vals l) (hm : l.length ≤ maxLen) : Row (w.alloc (.cells cs 5)) (.slice (some ⟨w.heap.size, 0, none⟩) l.length l.length) l := by
  refine ⟨?_, h⟩
  have hn : cs.size = l.length := by rw [← Array.length_toList, hcs, vals_len]
  have := World.ownsRow_lit (base := 0) (e := 5) (size := 1) w cs l.length (Nat.zero_le _) hm (by omega)
  unfold Own
  rw [vals_len, ← hcs]
  exact this
/-- A store into a row. -/
theorem Row.set {w : World} {g n cap : Nat} {l : List Nat} (h : Row w (.slice (some ⟨g, 0, none⟩) n cap) l) (i : Nat) {x : Nat} (hx : x < 256) : Row (w.setCell ⟨g, i, none⟩ (.int .u8 x)) (.slice (some ⟨g, 0, none⟩) n cap) (l.set i x) := by
  refine ⟨?_, fun y hy => ?_⟩
  · obtain ⟨h1, h2⟩ := h.own
    rcases h2 with ⟨e, _⟩ | ⟨g', cap', cur, e, hb, hgg, hn, hm, hs, ht⟩
    · cases e
    · cases e
      refine ⟨by simp, .inr ⟨g, cap, _, ?_, hb, heap_set hgg i _, ?_, hm, by simpa using hs, ?_⟩⟩
      · simp [vals_len]
      · rw [vals_len] at hn ⊢; simpa using hn
      · rw [vals_len, List.length_set, Nat.mul_one]
        rw [vals_len, Nat.mul_one] at ht
        rw [Array.toList_setIfInBounds, List.take_set, ht]
        simp [vals, List.map_set]
  · rcases List.mem_or_eq_of_mem_set hy with h' | h'
    · exact h.bytes y h'
    · omega
end Go.Proofs.Ytfbnkeflgddcmaa
