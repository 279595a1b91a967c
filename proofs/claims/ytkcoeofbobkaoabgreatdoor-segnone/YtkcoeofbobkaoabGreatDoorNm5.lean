/-
  Names of a disk: its files' names, each once, in an order. Conditions: there is a file.
-/
import Derived.Test.YtkcoeofbobkaoabGreatDoorDk6
import Derived.Test.YtkcoeofbobkaoabGreatDoorSo
import Derived.Sort.OwnSorted

namespace Go.Proofs.YtkcoeofbobkaoabGreatDoor
open Go.RowKit Go.Maps
set_option linter.unusedVariables false

theorem perm_del {todo : Prs} {s : ByteArray} {g : Nat} (ha : todo.Pairwise (fun p q => p.1 ≠ q.1)) (h : (s, g) ∈ todo) : todo.Perm ((s, g) :: del todo s) := by
  induction todo with
  | nil => cases h
  | cons x r ih =>
    obtain ⟨h1, h2⟩ := List.pairwise_cons.1 ha
    by_cases e : x.1 = s
    · have hx : x = (s, g) := pair_eq ha (List.mem_cons_self ..) h e
      subst hx
      have : del ((s, g) :: r) s = r := by
        unfold del
        rw [List.filter_cons_of_neg (by simp), List.filter_eq_self]
        intro p hp
        simpa using (fun e => h1 p hp e.symm)
      rw [this]
    · have hr : (s, g) ∈ r := by
        rcases List.mem_cons.1 h with h' | h'
        · exact absurd (by rw [← h']) e
        · exact h'
      have : del (x :: r) s = x :: del r s := by
        unfold del
        rw [List.filter_cons_of_pos (by simpa using e)]
      rw [this]
      exact (List.Perm.cons x (ih h2 hr)).trans (List.Perm.swap _ _ _)
theorem IT.tapart {w : World} {mv : Value} {r : Nat} {m todo : Prs} (h : IT w mv r m todo) : todo.Pairwise (fun p q => p.1 ≠ q.1) := by
  rcases h with ⟨_, _, e, _⟩ | ⟨b, _, h⟩
  · rw [e]; exact List.Pairwise.nil
  · exact h.tapart

def strs (nl : List ByteArray) : List Value := nl.map Value.string
/-- What Names answers. -/
structure NamesTo (w w' : World) (v : Value) (nl : List ByteArray) (l : List Ft) : Prop where
  own : Own w' 9 v (strs nl)
  perm : nl.Perm (l.map Ft.nm)
  new : New w v
  below : Below w.heap.size w w'

theorem str_info : ∃ i, Tryz.prog.info? 9 = some i ∧ i.zero = some (.string ByteArray.empty) ∧ i.size = 1 ∧ i.bytes = 16 := by
  have h : (Tryz.prog.info? 9).map (fun i => (i.zero, i.size, i.bytes)) = some (some (.string ByteArray.empty), 1, 16) := by kernel_rfl
  exact info_parts h
/-- append(names, one name). -/
theorem wpList_str (w : World) {ops : Array Oper} {rest : List Oper} {o : Oper} {a : Act} {Q : Exit → Act → World → Prop}
    (hg : o.guard = none) (s x : Operand) (hop : o.op = Op.call { callee := Callee.builtin Builtin.append, args := #[s, x], argTypes := #[47, 47] })
    (v : Value) (vs : List Value) (hs : a.eval s = v) (hr : Own w 9 v vs) (g : Nat) (u : Value) (hx : a.eval x = .slice (some ⟨g, 0, none⟩) 1 1) (hu : w.cell? ⟨g, 0, none⟩ = some u) (h1 : u.oneCell' = true) (hlen : vs.length ≤ 1099511627776)
    (hK : ∀ v' w', Own w' 9 v' (vs ++ [u]) → Touch (fun k => v.ownBlock = some k) w w' → Moved w v v' → wpList Tryz.prog ops Q rest (a.put o.dst v') w') :
    wpList Tryz.prog ops Q (o :: rest) a w := by
  obtain ⟨i, hi, hz, hsz, hby⟩ := str_info
  refine wpList_app w hg s x 47 hop 9 i (.string ByteArray.empty) 16 Tryz.underlying47 hi hz hsz hby rfl v vs hs hr (some ⟨g, 0, none⟩) 1 1 [u] hx rfl ?_ ?_ (fun h => by cases h) (by unfold maxLen; omega) (by omega) hK
  · intro j y hj
    match j, hj with
    | 0, hj => cases hj; exact ⟨g, 0, rfl, hu⟩
  · intro y hy; rw [List.mem_singleton] at hy; subst hy; exact h1

theorem str_back (s : ByteArray) : encStr s.data.toList = .string s := by
  show Value.string ⟨s.data.toList.toArray⟩ = _
  simp

/-- The sort of a row of names. -/
theorem sort_any (w : World) (v : Value) (nl : List ByteArray) (h : Own w 9 v (strs nl)) (h0 : nl ≠ []) (hl : nl.length ≤ 1099511627776) :
    Calls Tryz.prog 49 #[v] w fun e w' => e = .returned (.tuple #[]) ∧ ∃ nl' : List ByteArray, Own w' 9 v (strs nl') ∧ nl'.Perm nl ∧ Touch (fun k => v.ownBlock = some k) w w' := by
  obtain ⟨hlen, hcase⟩ := h
  rcases hcase with ⟨_, e⟩ | ⟨g, cap, cur, rfl, hbase, hb, h1, h2, h3, h4⟩
  · exfalso; apply h0; simp [strs] at e; exact e
  · have hsl : (strs nl).length = nl.length := by simp [strs]
    obtain ⟨ss, hss⟩ : ∃ ss : List (List UInt8), ss = nl.map (fun s => s.data.toList) := ⟨_, rfl⟩
    have hsv : ss.map encStr = strs nl := by
      rw [hss, List.map_map]
      apply List.map_congr_left
      intro s _
      exact str_back s
    have hssl : ss.length = nl.length := by rw [hss, List.length_map]
    rw [hsl] at h1 h4 ⊢
    have hH : Sort.Holds encStr w g 0 ss.toArray := holds_of_block hb (by rw [hssl]; rw [Nat.mul_one] at h4; rw [h4, hsv])
    have C := Any.slices_Sort_string Tryz.lays190 g 0 cap ss w hH (Array.getElem?_eq_some_iff.1 hb).1 (by omega)
    rw [hssl] at C
    refine C.mono ?_
    rintro e w' ⟨rfl, n, os, rfl⟩
    refine ⟨rfl, (ss.mergeSort fun x y => decide (x ≤ y)).map (fun l => ⟨l.toArray⟩), ?_, ?_, ?_⟩
    · have := ownsRow_sorted (n := n) (os := os) (ss := ss) (ts := ss.mergeSort fun x y => decide (x ≤ y)) (by simp) hbase hb (by rw [hssl]; exact h1) h2 h3
      rw [hssl] at this
      unfold Own
      have e1 : strs ((ss.mergeSort fun x y => decide (x ≤ y)).map (fun l => (⟨l.toArray⟩ : ByteArray))) = (ss.mergeSort fun x y => decide (x ≤ y)).map encStr := by
        unfold strs
        rw [List.map_map]; rfl
      rw [e1, List.length_map, List.length_mergeSort, hssl]
      exact this
    · have p := (List.mergeSort_perm ss (fun x y => decide (x ≤ y))).map (fun l => (⟨l.toArray⟩ : ByteArray))
      refine p.trans ?_
      rw [hss, List.map_map]
      have : nl.map ((fun l : List UInt8 => (⟨l.toArray⟩ : ByteArray)) ∘ fun s => s.data.toList) = nl := by
        conv => rhs; rw [← List.map_id nl]
        apply List.map_congr_left
        intro s _
        show (⟨s.data.toList.toArray⟩ : ByteArray) = s
        simp
      rw [this]
    · have g1 := grownBy_sorted (w := w) (g := g) (n := n) (os := os) (ss.mergeSort fun x y => decide (x ≤ y)).toArray
      exact ⟨g1.os, g1.tape, g1.output, g1.size, fun k hk hs => g1.block k hk (fun e => hs (by simpa [Value.ownBlock] using e.symm))⟩

section
variable {w : World} {db : Nat} {S : Nat → Prop} {d : Dk}
set_option maxRecDepth 100000 in
set_option maxHeartbeats 2000000 in
theorem dnames_any (h : Disky w db S d) (h0 : d.fs ≠ []) :
    Calls Tryz.prog 17 #[.pointer (some ⟨db, 0, none⟩)] w fun e w' => ∃ v nl, e = .returned v ∧ NamesTo w w' v nl d.fs := by
  obtain ⟨⟨mv, fl, h1, h2, h3⟩, hlt⟩ := h
  obtain ⟨fs, armed, fuse, dead⟩ := d
  simp only at h1 h2 h0 ⊢
  subst h2
  have hfew := h1.few
  have c0 : w.cell? ⟨db, 0, none⟩ = some mv := h1.cell 0
  have MV : Hid ((mv = .map none ∧ fl.map pr = []) ∨ ∃ mb, mv = .map (some mb) ∧ FM w mb (fl.map pr)) := h1.map.imp (fun h => ⟨h.1, by rw [h.2]; rfl⟩) id
  have hpm : (fl.map pr).map Prod.fst = (fts fl).map Ft.nm := by rw [List.map_map, List.map_map]; rfl
  have hbm : ∀ b, mv = .map (some b) → b < w.heap.size := fun b hb => h1.toDiskU.lt b (.inr (.inl hb))
  have HPM := hide hpm
  have HBM := hide hbm
  clear h1 hpm hbm hlt
  go_enter Tryz.func17, Tryz.ntmps17
  go_wp2_with (at_range; refine wpList_itrange _ rfl _ rfl mv (fl.map pr) rfl (unhide MV) ?_)
  intro w2 it2 t2
  have IT2 := hide it2
  have B2 : Hid (Below w.heap.size w w2) := ⟨t2.os, t2.tape, t2.output, t2.size, fun k hk => t2.block k hk (fun h => h)⟩
  clear it2 t2 MV c0
  go_wp2_with fail
  go_loopw [3, 4] (fun pv sl wr => ∃ (v1 : Value) (nl : List ByteArray) (todo : Prs), v1 = pv ∧ IT wr mv w.heap.size (fl.map pr) todo ∧ Own wr 9 v1 (strs nl) ∧ New w v1 ∧ Below w.heap.size w wr ∧ (nl ++ todo.map Prod.fst).Perm ((fts fl).map Ft.nm)) (fun _ _ wr => leftM mv w.heap.size wr)
  case atStart => exact ⟨_, [], fl.map pr, rfl, unhide IT2, Own.nil _ _, New.nil _, unhide B2, by rw [unhide HPM]; exact List.Perm.refl _⟩
  case round =>
    obtain ⟨v1, nl, todo, rfl, it, own, nw, bel, perm⟩ := hrel
    have HIT := hide it
    have HOWN := hide own
    have HNW := hide nw
    have HBEL := hide bel
    have HPERM := hide perm
    have hlen : nl.length + todo.length = fl.length := by
      have := perm.length_eq
      simpa using this
    have hlen' : nl.length ≤ 4096 := by omega
    clear it own nw bel perm IT2 B2 hlen
    go_wp2_with (at_next; refine wpList_itnext _ rfl _ rfl mv w.heap.size (fl.map pr) todo rfl (unhide HIT) ?_ ?_)
    · intro htodo
      subst htodo
      have hp2 : nl.Perm ((fts fl).map Ft.nm) := by have := unhide HPERM; simpa using this
      have hn0 : nl ≠ [] := fun e => by
        rw [e] at hp2
        have := hp2.length_eq
        apply h0
        apply List.eq_nil_of_length_eq_zero
        simpa using this.symm
      have SO := hide (sort_any wr v1 nl (unhide HOWN) hn0 (by omega))
      obtain ⟨a1, n1, cp1, rfl⟩ : ∃ a n c, v1 = Value.slice a n c := by obtain ⟨a, cap, e, _⟩ := (unhide HOWN).parts; exact ⟨a, _, cap, e⟩
      have HP2 := hide hp2
      clear hp2 HPERM HIT
      go_wp2_with fail
      refine (unhide SO).mono ?_
      rintro e w3 ⟨rfl, nl', o3, p3, t3⟩
      have F : Hid (NamesTo w w3 (.slice a1 n1 cp1) nl' (fts fl)) := ⟨o3, p3.trans (unhide HP2), unhide HNW, below_touch (unhide HBEL) t3 (unhide HBEL).size (fun k hk => unhide HNW k hk)⟩
      clear o3 p3 t3 SO
      go_wp2
      go_returns
      exact ⟨_, _, rfl, unhide F⟩
    · intro s g w3 hsg hsl it3 hl3 t3 hen
      have O3 := (unhide HOWN).keep t3 (fun k hk e => by
        obtain ⟨a, cap, ev, _⟩ := (unhide HOWN).parts
        rcases (unhide HOWN).2 with ⟨e1, _⟩ | ⟨g', cap', cur, e1, _, hgg, _⟩
        · rw [e1] at hk; simp [Value.ownBlock] at hk
        · rw [e1] at hk
          have : g' = k := by simpa [Value.ownBlock] using hk
          exact (unhide HIT).not_cells hgg (by rw [this]; exact e.symm))
      have B3 := below_touch (unhide HBEL) t3 (unhide HBEL).size (fun k hk => by omega)
      have hA : Below w3.heap.size w3 (w3.alloc (.cells #[.string s] 9)) := (Below.refl _ _).alloc (Nat.le_refl _) _
      have OA := hide (O3.later hA)
      have HU : Hid ((w3.alloc (.cells #[.string s] 9)).cell? ⟨w3.heap.size, 0, none⟩ = some (.string s)) := cell_of (heap_new _ _) 0
      have hsl2 : (strs nl).length ≤ 1099511627776 := by simp [strs]; omega
      have NX : Hid (∀ v' w', Own w' 9 v' (strs nl ++ [.string s]) → Touch (fun k => v1.ownBlock = some k) (w3.alloc (.cells #[.string s] 9)) w' → Moved (w3.alloc (.cells #[.string s] 9)) v1 v' → (∃ (nl : List ByteArray) (todo : Prs), IT w' mv w.heap.size (fl.map pr) todo ∧ Own w' 9 v' (strs nl) ∧ New w v' ∧ Below w.heap.size w w' ∧ (nl ++ todo.map Prod.fst).Perm ((fts fl).map Ft.nm)) ∧ leftM mv w.heap.size w' < leftM mv w.heap.size wr) := by
        intro v' w' o' t' m'
        have tA : Touch (fun _ => False) w3 (w3.alloc (.cells #[.string s] 9)) := (Touch.refl _ _).alloc _
        obtain ⟨i1, l1⟩ := it3.keep tA (fun h => h) (fun _ _ h => h)
        have hr : ∀ k, v1.ownBlock = some k → k ≠ w.heap.size := fun k hk e => by
          rcases (unhide OA).2 with ⟨e1, _⟩ | ⟨g', cap', cur, e1, _, hgg, _⟩
          · rw [e1] at hk; simp [Value.ownBlock] at hk
          · rw [e1] at hk
            have : g' = k := by simpa [Value.ownBlock] using hk
            exact i1.not_cells hgg (by rw [this]; exact e.symm)
        obtain ⟨i2, l2⟩ := i1.keep t' (fun e => hr _ e rfl) (fun b hb e => by have := unhide HNW _ e; have := unhide HBM b hb; omega)
        have sz : w.heap.size ≤ w3.heap.size := B3.size
        refine ⟨⟨nl ++ [s], del todo s, i2, ?_, (unhide HNW).moved m' (by simp; omega), below_touch (B3.trans (hA.mono B3.size)) t' (by simp; omega) (fun k hk => unhide HNW k hk), ?_⟩, by rw [l2, l1]; exact hl3⟩
        · have : strs (nl ++ [s]) = strs nl ++ [.string s] := by simp [strs]
          rw [this]; exact o'
        · have p := perm_del (unhide HIT).tapart hsg
          refine List.Perm.trans ?_ (unhide HPERM)
          rw [List.append_assoc]
          refine List.Perm.append_left nl ?_
          have := (p.map Prod.fst).symm
          simpa using this
      clear O3 B3 hA it3 hl3 t3 HIT HBEL
      obtain ⟨a1, n1, cp1, e1⟩ : ∃ a n c, v1 = Value.slice a n c := by obtain ⟨a, cap, e, _⟩ := (unhide HOWN).parts; exact ⟨a, _, cap, e⟩
      subst e1
      go_wp2_with (at_builtin; refine wpList_str _ rfl (.tmp 16) (.tmp 18) rfl _ (strs nl) rfl (unhide OA) w3.heap.size (.string s) rfl (unhide HU) rfl hsl2 ?_)
      intro v4 w4 o4 t4 m4
      have N4 := hide (unhide NX v4 w4 o4 t4 m4)
      obtain ⟨a4, n4, cp4, rfl⟩ : ∃ a n c, v4 = Value.slice a n c := by obtain ⟨a, cap, e, _⟩ := o4.parts; exact ⟨a, _, cap, e⟩
      clear o4 t4 m4 NX OA HU HOWN
      go_wp2
      go_roundw
      case rel => obtain ⟨⟨nl2, td2, r⟩, _⟩ := unhide N4; exact ⟨_, nl2, td2, rfl, r⟩
      case measure => exact (unhide N4).2
end
end Go.Proofs.YtkcoeofbobkaoabGreatDoor
