/-
  Rows of slices of bytes in memory. Conditions: such a row has at most 2^47 bytes.
-/
import Derived.Test.YtcekleconjmfjaaBt0
import Derived.Test.YtcekleconjmfjaaRfe
import Derived.BigQuiet
namespace Go.Proofs.Ytcekleconjmfjaa
open Go.RowKit
set_option linter.unusedVariables false

theorem below_drewN3 {B : Nat} {w0 w : World} (h : Below B w0 w) (n : Nat) : Below B w0 (w.drewN n) := h.trans ⟨rfl, rfl, rfl, Nat.le_refl _, fun _ _ => rfl⟩
theorem lat_lt {w : World} {a : Option Addr} {t : List Nat} (h : LAt w a t) (h0 : 0 < t.length) {x : Addr} (hx : a = some x) : x.block < w.heap.size := by
  obtain ⟨b, off, e1, e2, _⟩ := h.cell h0
  rw [hx] at e1; cases e1; exact e2

/-- A slice of bytes that reads as a list. -/
def Elem (w : World) (u : Value) (l : List Nat) : Prop := ∃ a c, u = .slice a l.length c ∧ LAt w a l ∧ (a = none → c = 0)
theorem Elem.later {w w' : World} {u : Value} {l : List Nat} (h : Elem w u l) (hb : Below w.heap.size w w') : Elem w' u l := by
  obtain ⟨a, c, e, h1, h2⟩ := h; exact ⟨a, c, e, h1.later hb, h2⟩
theorem Elem.one {w : World} {u : Value} {l : List Nat} (h : Elem w u l) : u.oneCell' = true := by obtain ⟨a, c, rfl, _⟩ := h; rfl
theorem Row.elem {w : World} {u : Value} {l : List Nat} (h : Row w u l) : Elem w u l := by
  obtain ⟨a, c, e, h1, h2, _, h3, _⟩ := h.parts; exact ⟨a, c, e, h1, h3⟩
theorem Row.one {w : World} {u : Value} {l : List Nat} (h : Row w u l) : u.oneCell' = true := h.elem.one

/-- A list of slices in memory that reads as a list of lists. -/
def RAt (w : World) (a : Option Addr) (ls : List (List Nat)) : Prop :=
  ∀ i, i < ls.length → ∃ b off u, a = some ⟨b, off, none⟩ ∧ b < w.heap.size ∧ w.cell? ⟨b, off + i, none⟩ = some u ∧ Elem w u (ls.getD i [])
/-- .. each of them with its room. -/
def Caps (w : World) (a : Option Addr) (ls : List (List Nat)) : Prop := ∀ i, i < ls.length → ∃ b off x c, a = some ⟨b, off, none⟩ ∧ w.cell? ⟨b, off + i, none⟩ = some (.slice x (ls.getD i []).length c) ∧ (ls.getD i []).length ≤ c
theorem Caps.cap {w : World} {a : Option Addr} {ls : List (List Nat)} (h : Caps w a ls) {i b off c : Nat} {x : Option Addr} (hi : i < ls.length) (ha : a = some ⟨b, off, none⟩) (hc : w.cell? ⟨b, off + i, none⟩ = some (.slice x (ls.getD i []).length c)) : (ls.getD i []).length ≤ c := by
  obtain ⟨b', off', x', c', e1, e2, e3⟩ := h i hi
  rw [ha] at e1
  cases e1
  rw [hc] at e2
  cases e2
  exact e3
theorem RAt.later {w w' : World} {a : Option Addr} {ls : List (List Nat)} (h : RAt w a ls) (hb : Below w.heap.size w w') : RAt w' a ls := by
  intro i hi
  obtain ⟨b, off, u, h1, h2, h3, h4⟩ := h i hi
  exact ⟨b, off, u, h1, Nat.lt_of_lt_of_le h2 hb.size, (hb.cell (p := ⟨b, off + i, none⟩) h2).trans h3, h4.later hb⟩
theorem RAt.drewN {w : World} {a : Option Addr} {ls : List (List Nat)} (h : RAt w a ls) (n : Nat) : RAt (w.drewN n) a ls := h
theorem RAt.take {w : World} {a : Option Addr} {ls : List (List Nat)} (h : RAt w a ls) (k : Nat) : RAt w a (ls.take k) := by
  intro i hi
  rw [List.length_take] at hi
  obtain ⟨b, off, u, h1, h2, h3, h4⟩ := h i (by omega)
  have e : (ls.take k).getD i [] = ls.getD i [] := by simp [List.getD, show i < k by omega]
  exact ⟨b, off, u, h1, h2, h3, by rw [e]; exact h4⟩
/-- Element i, with its shape. -/
theorem RAt.cell {w : World} {a : Option Addr} {ls : List (List Nat)} (h : RAt w a ls) {i : Nat} (hi : i < ls.length) : ∃ b off x c, a = some ⟨b, off, none⟩ ∧ b < w.heap.size ∧ w.cell? ⟨b, off + i, none⟩ = some (.slice x (ls.getD i []).length c) ∧ LAt w x (ls.getD i []) ∧ (x = none → c = 0) := by
  obtain ⟨b, off, u, h1, h2, h3, x, c, rfl, h4, h5⟩ := h i hi
  exact ⟨b, off, x, c, h1, h2, h3, h4, h5⟩

/-- A row of slices that the call has made; E says what each is. -/
structure Spine (E : Value → List Nat → Prop) (w : World) (v : Value) (vs : List Value) (ls : List (List Nat)) : Prop where
  own : Own w 24 v vs
  len : vs.length = ls.length
  each : ∀ i, i < ls.length → ∃ u, vs[i]? = some u ∧ E u (ls.getD i [])
section
variable {E F : Value → List Nat → Prop} {w w' : World} {v v' u : Value} {vs : List Value} {ls : List (List Nat)} {l : List Nat}
theorem Spine.nil (E : Value → List Nat → Prop) (w : World) : Spine E w (.slice none 0 0) [] [] := ⟨Own.nil _ _, rfl, fun i hi => by cases hi⟩
theorem Spine.imp (h : Spine E w v vs ls) (he : ∀ u l, E u l → F u l) : Spine F w v vs ls := ⟨h.own, h.len, fun i hi => by obtain ⟨u, h1, h2⟩ := h.each i hi; exact ⟨u, h1, he u _ h2⟩⟩
theorem Spine.keep {S : Nat → Prop} (h : Spine E w v vs ls) (t : Touch S w w') (hs : ∀ k, v.ownBlock = some k → ¬ S k) : Spine E w' v vs ls := ⟨h.own.keep t hs, h.len, h.each⟩
theorem Spine.later (h : Spine E w v vs ls) (hb : Below w.heap.size w w') : Spine E w' v vs ls := ⟨h.own.later hb, h.len, h.each⟩
theorem Spine.drewN (h : Spine E w v vs ls) (n : Nat) : Spine E (w.drewN n) v vs ls := ⟨h.own, h.len, h.each⟩
theorem Spine.push (h : Spine E w v vs ls) (o : Own w' 24 v' (vs ++ [u])) (he : E u l) : Spine E w' v' (vs ++ [u]) (ls ++ [l]) := by
  refine ⟨o, by simp [h.len], fun i hi => ?_⟩
  rw [List.length_append, List.length_singleton] at hi
  by_cases hc : i < ls.length
  · obtain ⟨x, h1, h2⟩ := h.each i hc
    refine ⟨x, by rw [List.getElem?_append_left (by rw [h.len]; exact hc)]; exact h1, ?_⟩
    have e : (ls ++ [l]).getD i [] = ls.getD i [] := by simp [List.getD, List.getElem?_append_left hc]
    rw [e]; exact h2
  · obtain rfl : i = ls.length := by omega
    refine ⟨u, by rw [← h.len]; simp, ?_⟩
    have e : (ls ++ [l]).getD ls.length [] = l := by simp [List.getD]
    rw [e]; exact he
theorem Spine.parts (h : Spine E w v vs ls) (he : ∀ u l, E u l → Elem w u l) : ∃ a cap, v = .slice a ls.length cap ∧ RAt w a ls ∧ ls.length ≤ cap ∧ cap ≤ maxLen ∧ (a = none → cap = 0) ∧ (∀ x, a = some x → v.ownBlock = some x.block) := by
  obtain ⟨a, cap, e1, e2, e3, e4, e5, e6⟩ := h.own.parts
  rw [h.len] at e1 e2
  refine ⟨a, cap, e1, fun i hi => ?_, e2, e3, e4, e5⟩
  obtain ⟨g, ha, hg, hc, _⟩ := e6 i (by rw [h.len]; exact hi)
  obtain ⟨u, h1, h2⟩ := h.each i hi
  exact ⟨g, 0, u, ha, hg, by rw [Nat.zero_add, hc, h1], he u _ h2⟩
theorem Spine.shape (h : Spine E w v vs ls) : ∃ a n cap, v = .slice a n cap := by obtain ⟨a, cap, e, _⟩ := h.own.parts; exact ⟨a, _, cap, e⟩
/-- The spine's block is no row of bytes. -/
theorem Spine.apart (h : Own w 24 v vs) (r : Row w u l) : ∀ k, u.ownBlock = some k → v.ownBlock = some k → False := by
  intro k h1 h2
  rcases h.2 with ⟨rfl, _⟩ | ⟨g, cap, cur, rfl, _, hgg, _⟩
  · simp [Value.ownBlock] at h2
  · rcases r.own.2 with ⟨rfl, _⟩ | ⟨g', cap', cur', rfl, _, hgg', _⟩
    · simp [Value.ownBlock] at h1
    · have e1 : g' = k := by simpa [Value.ownBlock] using h1
      have e2 : g = k := by simpa [Value.ownBlock] using h2
      rw [e1] at hgg'
      rw [e2, hgg'] at hgg
      simp at hgg
end

theorem sl_info : ∃ i, Try.prog.info? 24 = some i ∧ i.zero = some (.slice none 0 0) ∧ i.size = 1 ∧ i.bytes = 24 := by
  have h : (Try.prog.info? 24).map (fun i => (i.zero, i.size, i.bytes)) = some (some (.slice none 0 0), 1, 24) := by kernel_rfl
  exact info_parts h
/-- append(list, one slice). -/
theorem wpList_elem (w : World) {ops : Array Oper} {rest : List Oper} {o : Oper} {a : Act} {Q : Exit → Act → World → Prop}
    (hg : o.guard = none) (s x : Operand) (hop : o.op = Op.call { callee := Callee.builtin Builtin.append, args := #[s, x], argTypes := #[36, 36] })
    (v : Value) (vs : List Value) (hs : a.eval s = v) (hr : Own w 24 v vs) (g : Nat) (u : Value) (hx : a.eval x = .slice (some ⟨g, 0, none⟩) 1 1) (hu : w.cell? ⟨g, 0, none⟩ = some u) (h1 : u.oneCell' = true) (hlen : (vs.length + 1) * 24 ≤ 140737488355328)
    (hK : ∀ v' w', Own w' 24 v' (vs ++ [u]) → Touch (fun k => v.ownBlock = some k) w w' → Moved w v v' → wpList Try.prog ops Q rest (a.put o.dst v') w') :
    wpList Try.prog ops Q (o :: rest) a w := by
  obtain ⟨i, hi, hz, hsz, hby⟩ := sl_info
  refine wpList_app w hg s x 36 hop 24 i (.slice none 0 0) 24 Try.underlying36 hi hz hsz hby rfl v vs hs hr (some ⟨g, 0, none⟩) 1 1 [u] hx rfl ?_ ?_ (fun h => by cases h) (by unfold maxLen; omega) hlen hK
  · intro j y hj
    match j, hj with
    | 0, hj => cases hj; exact ⟨g, 0, rfl, hu⟩
  · intro y hy; rw [List.mem_singleton] at hy; subst hy; exact h1

/-- A row of bytes that is new since w0. -/
def Mine4 (w0 w : World) (u : Value) (l : List Nat) : Prop := Row w u l ∧ New w0 u
def Paid (w0 w : World) (v : Value) (ls : List (List Nat)) : Prop := ∃ vs, Spine (Mine4 w0 w) w v vs ls
theorem Paid.parts {w0 w : World} {v : Value} {ls : List (List Nat)} (h : Paid w0 w v ls) : ∃ a cap, v = .slice a ls.length cap ∧ RAt w a ls ∧ ls.length ≤ cap ∧ cap ≤ maxLen ∧ (a = none → cap = 0) ∧ (∀ x, a = some x → v.ownBlock = some x.block) := by
  obtain ⟨vs, h⟩ := h; exact h.parts (fun u l h => h.1.elem)
theorem Paid.later {w0 w w' : World} {v : Value} {ls : List (List Nat)} (h : Paid w0 w v ls) (hb : Below w.heap.size w w') : Paid w0 w' v ls := by
  obtain ⟨vs, h⟩ := h; exact ⟨vs, (h.later hb).imp (fun u l h => ⟨h.1.later hb, h.2⟩)⟩
end Go.Proofs.Ytcekleconjmfjaa
