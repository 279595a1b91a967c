/-
  slices.Clone of rows of structs. Conditions: lengths as memory allows them.
-/
import Derived.Test.YtbonlonkienhaaaCs2
import Derived.Test.YtbonlonkienhaaaWd8
namespace Go.Proofs.Ytbonlonkienhaaa
open Go.RowKit
set_option linter.unusedVariables false

theorem flat_at' {α : Type} {f : α → List Value} {m : Nat} (hm : ∀ x, (f x).length = m) : ∀ (l : List α) (i j : Nat) (hi : i < l.length), j < m → (l.flatMap f)[i * m + j]? = (f l[i])[j]? := by
  intro l
  induction l with
  | nil => intro i j hi; cases hi
  | cons x r ih =>
    intro i j hi hj
    rw [List.flatMap_cons]
    cases i with
    | zero => rw [Nat.zero_mul, Nat.zero_add, List.getElem?_append_left (by rw [hm]; exact hj)]; rfl
    | succ i =>
      have e : (i + 1) * m + j = (f x).length + (i * m + j) := by rw [hm, Nat.add_mul]; omega
      rw [e, List.getElem?_append_right (by omega), Nat.add_sub_cancel_left]
      exact ih i j (by simpa using hi) hj
theorem flat_len {α : Type} {f : α → List Value} {m : Nat} (hm : ∀ x, (f x).length = m) (l : List α) : (l.flatMap f).length = l.length * m := by
  induction l with
  | nil => simp
  | cons x r ih => rw [List.flatMap_cons, List.length_append, hm, ih, List.length_cons, Nat.add_mul, Nat.one_mul, Nat.add_comm]
theorem flat_one {α : Type} {f : α → List Value} (h : ∀ x, ∀ u ∈ f x, u.oneCell' = true) (l : List α) : ∀ u ∈ l.flatMap f, u.oneCell' = true := fun u hu => by
  obtain ⟨x, _, hx⟩ := List.mem_flatMap.1 hu
  exact h x u hx
/-- A row of the call's own is told like one that was handed in. -/
theorem RowsP.of_wide {α : Type} {f : α → List Value} {m : Nat} (hm : ∀ x, (f x).length = m) {w : World} {e : TypeId} {a : Option Addr} {c : Nat} {l : List α} (h : Wide w e m (.slice a l.length c) l.length (l.flatMap f)) (h0 : 0 < m) : RowsP f m w a l := fun i hi => by
  obtain ⟨a', cap, ev, _, _, _, _, hc⟩ := h.parts
  obtain ⟨g, ea, hg, hcell, _⟩ := hc (by omega)
  injection ev with e1 e2 e3
  refine ⟨g, 0, by rw [e1, ea], hg, fun j hj => ?_⟩
  have hb : i * m + j < l.length * m := by
    have h1 : (i + 1) * m ≤ l.length * m := Nat.mul_le_mul_right _ hi
    rw [Nat.add_mul] at h1
    omega
  rw [Nat.zero_add, hcell _ hb, flat_at' hm l i j hi hj]
theorem RowsP.src {α : Type} {f : α → List Value} {m : Nat} (hm : ∀ x, (f x).length = m) {w : World} {b off : Nat} {l : List α} (h : RowsP f m w (some ⟨b, off, none⟩) l) (h0 : 0 < m) : ∀ j u, (l.flatMap f)[j]? = some u → w.cell? ((⟨b, off, none⟩ : Addr).add j) = some u := fun j u hu => by
  have hj : j < l.length * m := by
    have := (List.getElem?_eq_some_iff.1 hu).1
    rwa [flat_len hm] at this
  have hi : j / m < l.length := Nat.div_lt_of_lt_mul (by rw [Nat.mul_comm]; exact hj)
  have hr : j % m < m := Nat.mod_lt _ h0
  have e : j = j / m * m + j % m := by rw [Nat.mul_comm]; exact (Nat.div_add_mod j m).symm
  obtain ⟨b', off', e1, _, hc⟩ := h _ hi
  cases e1
  rw [addr_add, e, ← Nat.add_assoc, hc _ hr, ← flat_at' hm l _ _ hi hr, ← e]
  exact hu
theorem Wide.of_base {w : World} {base : Nat} {e : TypeId} {sz : Nat} {v : Value} {n : Nat} {xs : List Value} (h : w.ownsRow base e sz v n xs) : Wide w e sz v n xs := ⟨h.1, by
  rcases h.2 with h2 | ⟨g, cap, cur, e1, _, e3⟩
  · exact .inl h2
  · exact .inr ⟨g, cap, cur, e1, Nat.zero_le _, e3⟩⟩
/-- What Clone answers. -/
def ClR {α : Type} (f : α → List Value) (m : Nat) (e : TypeId) (w : World) (l : List α) (ed : Ending) (w' : World) : Prop := ∃ a c, ed = .returned (.slice a l.length c) ∧ Wide w' e m (.slice a l.length c) l.length (l.flatMap f) ∧ New w (.slice a l.length c) ∧ Below w.heap.size w w'
/-- An event that was seen. -/
structure Sn where
  kd : Int
  cl : Int
  op : Int
  pt : Int
  at_ : Int
  s : ByteArray
  er : Int
def cellsSn (o : Sn) : List Value := [.int .i64 o.kd, .int .i64 o.cl, .int .i64 o.op, .int .i64 o.pt, .int .i64 o.at_, .string o.s, .int .i64 o.er]
theorem ops_info : ∃ i, Try.prog.info? 36 = some i ∧ i.zero = some (.agg #[.int .i64 0, .int .i64 0, .int .i64 0, .int .i64 0, .string ByteArray.empty]) ∧ i.size = 5 ∧ i.bytes = 48 := by
  have h : (Try.prog.info? 36).map (fun i => (i.zero, i.size, i.bytes)) = some (some (.agg #[.int .i64 0, .int .i64 0, .int .i64 0, .int .i64 0, .string ByteArray.empty]), 5, 48) := by kernel_rfl
  exact info_parts h
theorem ops_one (o : Po) : ∀ u ∈ cellsPo o, u.oneCell' = true := by
  intro u hu
  simp only [cellsPo, List.mem_cons, List.not_mem_nil, or_false] at hu
  rcases hu with rfl | rfl | rfl | rfl | rfl <;> rfl
set_option maxRecDepth 100000 in
set_option maxHeartbeats 4000000 in
theorem ops_clone {w : World} {a : Option Addr} {l : List Po} {c : Nat} (h : RowsP cellsPo 5 w a l) (hn : a = none → c = 0) (hl : l.length * 48 ≤ 140737488355328) : Calls Try.prog 17 #[.slice a l.length c] w fun e w' => ClR cellsPo 5 36 w l e w' := by
  cases a with
  | none =>
    have h0 : l = [] := by
      cases l with
      | nil => rfl
      | cons x r => obtain ⟨b, off, e, _⟩ := h 0 (by simp); cases e
    subst h0
    obtain rfl := hn rfl
    have FF : Hid (ClR cellsPo 5 36 w [] (.returned (.slice none 0 0)) w) := ⟨none, 0, rfl, Wide.nil w _ _, New.nil w, Below.refl _ _⟩
    clear h
    have eq := eql_nil (P := Try.prog) w 34 36 none 0 0 Try.underlying34
    go_enter Try.func17, Try.ntmps17
    go_wp2
    go_returns
    exact unhide FF
  | some x =>
    have bl := (Below.refl w.heap.size w).alloc (Nat.le_refl _) (.cells #[] 36)
    have hr := RowsP.keep h (Touch.of_below (S := fun _ => False) bl)
    have hsrc : ∀ j u, (l.flatMap cellsPo)[j]? = some u → (w.alloc (.cells #[] 36)).cell? (x.add j) = some u := by
      by_cases hz : l.length = 0
      · have h0 : l = [] := List.eq_nil_of_length_eq_zero hz
        subst h0
        intro j u hu
        simp at hu
      · obtain ⟨b, off, e1, _, _⟩ := h 0 (by omega)
        cases e1
        exact RowsP.src (f := cellsPo) (m := 5) (fun _ => rfl) hr (by decide)
    obtain ⟨i, hi, hz1, hs, hby⟩ := ops_info
    have HSRC := hide hsrc
    have HBL := hide bl
    have HI := hide hi
    have HZ1 := hide hz1
    have HS := hide hs
    have HBY := hide hby
    have HL := hide hl
    clear h hr hsrc bl hi hz1 hs hby hl hn
    have eq := eql_nil (P := Try.prog) w 34 36 (some x) l.length c Try.underlying34
    go_enter Try.func17, Try.ntmps17
    go_wp2_with (at_builtin; refine wpList_append_own _ rfl (.tmp 5) (.tmp 6) 34 rfl w.heap.size 36 i _ 5 48 Try.underlying34 (unhide HI) (unhide HZ1) (unhide HS) (unhide HBY) rfl (by omega) (.slice (some ⟨w.heap.size, 0, none⟩) 0 0) 0 [] rfl (World.ownsRow_made w #[] 0 (Nat.le_refl _) (Nat.zero_le _) rfl) x l.length c (l.flatMap cellsPo) rfl (flat_len (f := cellsPo) (m := 5) (fun _ => rfl) l) (unhide HSRC) (flat_one ops_one l) (by have := unhide HL; unfold maxLen; omega) (by rw [Nat.zero_add]; exact unhide HL) (by simp) ?_; intro v' w' o' g' _)
    rw [Nat.zero_add, List.nil_append] at o'
    have ob := o'
    obtain ⟨a2, c2, e2⟩ := Wide.shape (Wide.of_base o')
    subst e2
    have FF : Hid (ClR cellsPo 5 36 w l (.returned (.slice a2 l.length c2)) w') := ⟨a2, c2, rfl, Wide.of_base ob, fun k hk => (World.ownsRow.lt ob k hk).1, below_touch (unhide HBL) (S := fun k => k = w.heap.size) ⟨g'.os, g'.tape, g'.output, g'.size, fun k hk hs => g'.block k hk (fun e => hs (by simpa [Value.ownBlock] using e))⟩ (unhide HBL).size (fun k hk => by omega)⟩
    clear o' ob g'
    go_wp2
    go_returns
    exact unhide FF
theorem seen_info : ∃ i, Try.prog.info? 43 = some i ∧ i.zero = some (.agg #[.int .i64 0, .int .i64 0, .int .i64 0, .int .i64 0, .int .i64 0, .string ByteArray.empty, .int .i64 0]) ∧ i.size = 7 ∧ i.bytes = 64 := by
  have h : (Try.prog.info? 43).map (fun i => (i.zero, i.size, i.bytes)) = some (some (.agg #[.int .i64 0, .int .i64 0, .int .i64 0, .int .i64 0, .int .i64 0, .string ByteArray.empty, .int .i64 0]), 7, 64) := by kernel_rfl
  exact info_parts h
theorem seen_one (o : Sn) : ∀ u ∈ cellsSn o, u.oneCell' = true := by
  intro u hu
  simp only [cellsSn, List.mem_cons, List.not_mem_nil, or_false] at hu
  rcases hu with rfl | rfl | rfl | rfl | rfl | rfl | rfl <;> rfl
set_option maxRecDepth 100000 in
set_option maxHeartbeats 4000000 in
theorem seen_clone {w : World} {a : Option Addr} {l : List Sn} {c : Nat} (h : RowsP cellsSn 7 w a l) (hn : a = none → c = 0) (hl : l.length * 64 ≤ 140737488355328) : Calls Try.prog 21 #[.slice a l.length c] w fun e w' => ClR cellsSn 7 43 w l e w' := by
  cases a with
  | none =>
    have h0 : l = [] := by
      cases l with
      | nil => rfl
      | cons x r => obtain ⟨b, off, e, _⟩ := h 0 (by simp); cases e
    subst h0
    obtain rfl := hn rfl
    have FF : Hid (ClR cellsSn 7 43 w [] (.returned (.slice none 0 0)) w) := ⟨none, 0, rfl, Wide.nil w _ _, New.nil w, Below.refl _ _⟩
    clear h
    have eq := eql_nil (P := Try.prog) w 40 43 none 0 0 Try.underlying40
    go_enter Try.func21, Try.ntmps21
    go_wp2
    go_returns
    exact unhide FF
  | some x =>
    have bl := (Below.refl w.heap.size w).alloc (Nat.le_refl _) (.cells #[] 43)
    have hr := RowsP.keep h (Touch.of_below (S := fun _ => False) bl)
    have hsrc : ∀ j u, (l.flatMap cellsSn)[j]? = some u → (w.alloc (.cells #[] 43)).cell? (x.add j) = some u := by
      by_cases hz : l.length = 0
      · have h0 : l = [] := List.eq_nil_of_length_eq_zero hz
        subst h0
        intro j u hu
        simp at hu
      · obtain ⟨b, off, e1, _, _⟩ := h 0 (by omega)
        cases e1
        exact RowsP.src (f := cellsSn) (m := 7) (fun _ => rfl) hr (by decide)
    obtain ⟨i, hi, hz1, hs, hby⟩ := seen_info
    have HSRC := hide hsrc
    have HBL := hide bl
    have HI := hide hi
    have HZ1 := hide hz1
    have HS := hide hs
    have HBY := hide hby
    have HL := hide hl
    clear h hr hsrc bl hi hz1 hs hby hl hn
    have eq := eql_nil (P := Try.prog) w 40 43 (some x) l.length c Try.underlying40
    go_enter Try.func21, Try.ntmps21
    go_wp2_with (at_builtin; refine wpList_append_own _ rfl (.tmp 5) (.tmp 6) 40 rfl w.heap.size 43 i _ 7 64 Try.underlying40 (unhide HI) (unhide HZ1) (unhide HS) (unhide HBY) rfl (by omega) (.slice (some ⟨w.heap.size, 0, none⟩) 0 0) 0 [] rfl (World.ownsRow_made w #[] 0 (Nat.le_refl _) (Nat.zero_le _) rfl) x l.length c (l.flatMap cellsSn) rfl (flat_len (f := cellsSn) (m := 7) (fun _ => rfl) l) (unhide HSRC) (flat_one seen_one l) (by have := unhide HL; unfold maxLen; omega) (by rw [Nat.zero_add]; exact unhide HL) (by simp) ?_; intro v' w' o' g' _)
    rw [Nat.zero_add, List.nil_append] at o'
    have ob := o'
    obtain ⟨a2, c2, e2⟩ := Wide.shape (Wide.of_base o')
    subst e2
    have FF : Hid (ClR cellsSn 7 43 w l (.returned (.slice a2 l.length c2)) w') := ⟨a2, c2, rfl, Wide.of_base ob, fun k hk => (World.ownsRow.lt ob k hk).1, below_touch (unhide HBL) (S := fun k => k = w.heap.size) ⟨g'.os, g'.tape, g'.output, g'.size, fun k hk hs => g'.block k hk (fun e => hs (by simpa [Value.ownBlock] using e))⟩ (unhide HBL).size (fun k hk => by omega)⟩
    clear o' ob g'
    go_wp2
    go_returns
    exact unhide FF
end Go.Proofs.Ytbonlonkienhaaa
