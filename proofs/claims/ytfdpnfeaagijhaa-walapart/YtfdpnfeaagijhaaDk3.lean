/-
  The inner calls add and drop of a disk. Conditions: what the disk is.
-/
import Derived.Test.YtfdpnfeaagijhaaDk2
import Derived.WalkSpells

namespace Go.Proofs.Ytfdpnfeaagijhaa
open Go.RowKit Go.Maps
set_option linter.unusedVariables false

section
variable (w : World) {ops : Array Oper} {rest : List Oper} {o : Oper} {a : Act} {Q : Exit → Act → World → Prop}
theorem wpList_fmput (hg : o.guard = none) (m x v : Operand) (hop : o.op = Op.mapUpdate 36 m x v) (b : Nat) (ps : Prs) (hm : a.eval m = .map (some b)) (h : FM w b ps) (hn : ps.length < maxLen) (s : ByteArray) (g : Nat) (hx : a.eval x = .string s) (hv : a.eval v = .pointer (some ⟨g, 0, none⟩)) (hs : s.size ≤ maxLen)
    (hK : ∀ w', FM w' b ((s, g) :: del ps s) → Touch (· = b) w w' → wpList Try.prog ops Q rest (a.put o.dst undef) w') : wpList Try.prog ops Q (o :: rest) a w := by
  refine wpList_plain hg fun K' hK' => ?_
  obtain ⟨w', hrun, r1, r2⟩ := h.store hn hs g
  have hrun' : (Instr.mapUpdate 36 (.map (some b)) (.string s) (.pointer (some ⟨g, 0, none⟩))).run Try.prog w = .ok () w' := hrun
  unfold Oper.wp
  simp [execOp, hop, hm, hx, hv, hrun', Result.andThen]
  exact hK' _ _ (hK w' r1 r2)
theorem wpList_fmdel (hg : o.guard = none) (m x : Operand) (hop : o.op = Op.call { callee := Callee.builtin Builtin.delete, args := #[m, x], argTypes := #[36, 9] }) (b : Nat) (ps : Prs) (hm : a.eval m = .map (some b)) (h : FM w b ps) (s : ByteArray) (hx : a.eval x = .string s) (hs : s.size ≤ maxLen)
    (hK : ∀ w', FM w' b (del ps s) → Touch (· = b) w w' → wpList Try.prog ops Q rest (a.put o.dst (.tuple #[])) w') : wpList Try.prog ops Q (o :: rest) a w := by
  refine wpList_plain hg fun K' hK' => ?_
  obtain ⟨w', hrun, r1, r2⟩ := h.drop hs o.type
  unfold Oper.wp
  simp [execOp, hop, resolve, invoke, builtin, hm, hx, hrun, Result.andThen]
  exact hK' _ _ (hK w' r1 r2)
end

theorem del_self {ps : Prs} {s : ByteArray} (h : at_ ps s = none) : del ps s = ps := by
  unfold del
  rw [List.filter_eq_self]
  intro p hp
  simpa using at_none h p hp

section
variable {w : World} {db : Nat} {mv : Value} {fl : List Fl} {armed dead : Bool} {fuse : Int} {s : ByteArray}

/-- A file more. -/
def AddTo (w w' : World) (db : Nat) (mv : Value) (fl : List Fl) (armed : Bool) (fuse : Int) (dead : Bool) (s : ByteArray) (e : Ending) : Prop :=
  ∃ (mv' : Value) (f : Fl), e = .returned (.pointer (some ⟨f.fb, 0, none⟩)) ∧ f.toFt = ⟨s, [], 0⟩ ∧ DiskAt w' db mv' (f :: fl) armed fuse dead ∧ Touch (Owns db mv fl) w w' ∧ ∀ k, Owns db mv' (f :: fl) k → Owns db mv fl k ∨ w.heap.size ≤ k

theorem used_cons (f : Ft) (l : List Ft) : usedF (f :: l) = f.text.length + usedF l := by simp [usedF]

set_option maxRecDepth 100000 in
theorem add_any (h : DiskAt w db mv fl armed fuse dead) (hs : okName s = true) (hno : fileOf fl s = none) (hfew : fl.length < 4096) :
    Calls Try.prog 33 #[.pointer (some ⟨db, 0, none⟩), .string s] w fun e w' => AddTo w w' db mv fl armed fuse dead s e := by
  have hsz : 0 < s.size ∧ s.size ≤ 24 := of_decide_eq_true hs
  have hsm : s.size ≤ maxLen := by unfold maxLen; omega
  have hat : at_ (fl.map pr) s = none := by rw [at_fileOf, hno]; rfl
  have hlm : (fl.map pr).length < maxLen := by rw [List.length_map]; unfold maxLen; omega
  have hnn : ∀ g ∈ fl, s ≠ g.nm := fun g hg e => by
    unfold fileOf at hno
    rw [List.find?_eq_none] at hno
    exact hno g hg (by simp [e])
  have hmm := @run_makeMap Try.prog
  have hdb := lt_of_heap h.heap
  -- what is there behind it
  have fin : Hid (∀ (wx w' : World) (mb fb : Nat), DiskU wx db (.map (some mb)) fl (usedF (fts fl) : Nat) armed fuse dead → wx.heap[fb]? = some (.cells #[.slice none 0 0, .int .i64 0] 77) → (∀ g ∈ fl, fb ≠ g.fb) → FM w' mb ((s, fb) :: fl.map pr) → Touch (· = mb) wx w' → DiskAt w' db (.map (some mb)) (⟨⟨s, [], 0⟩, fb, .slice none 0 0⟩ :: fl) armed fuse dead) := by
    intro wx w' mb fb hu hfb hne hfm t
    obtain ⟨n1, n2, n3⟩ := hu.map_ne rfl
    have hmb : fb ≠ mb := fun e => by
      rcases hu.map with ⟨e1, _⟩ | ⟨mb', e1, hm'⟩
      · cases e1
      · cases e1
        obtain ⟨es, cl, hb⟩ := hm'.block
        rw [e, hb] at hfb; cases hfb
    refine ⟨⟨?_, .inr ⟨mb, rfl, hfm⟩, ?_, ?_⟩, ?_, ?_, h.lo, h.hi, h.arm⟩
    · have e : usedF (fts (⟨⟨s, [], 0⟩, fb, .slice none 0 0⟩ :: fl)) = usedF (fts fl) := by
        show usedF (_ :: fts fl) = _
        rw [used_cons]; simp
      rw [e]
      exact t.keep hu.heap (fun e => n1 e.symm)
    · intro g hg
      rcases List.mem_cons.1 hg with rfl | hg'
      · exact ⟨t.keep hfb hmb, Row.nil _, Nat.le_refl _, hsz⟩
      · exact (hu.each g hg').keep t (n2 g hg') (n3 g hg')
    · exact List.pairwise_cons.2 ⟨fun g hg => ⟨hnn g hg, hne g hg, fun k hk => by simp [Value.ownBlock] at hk⟩, hu.apart⟩
    · show usedF (_ :: fts fl) ≤ _
      rw [used_cons]
      have := h.used
      simp; omega
    · simp; omega
  rcases h.map with ⟨rfl, rfl⟩ | ⟨mb, rfl, hm⟩
  · have c0 : w.cell? ⟨db, 0, none⟩ = some (.map none) := h.cell 0
    have z0 := h.frozen 0
    have heq := fun (w : World) => run_eql_map_nil (P := Try.prog) w 36 9 73 none Try.underlying36
    obtain ⟨w1, hw1⟩ : ∃ w1, w1 = (w.setCell ⟨db, 0, none⟩ (.map (some w.heap.size))).alloc (.map #[] 0) := ⟨_, rfl⟩
    obtain ⟨w2, hw2⟩ : ∃ w2, w2 = w1.alloc (.cells #[.slice none 0 0, .int .i64 0] 77) := ⟨_, rfl⟩
    have hs0 : (w.setCell ⟨db, 0, none⟩ (.map (some w.heap.size))).heap.size = w.heap.size := by simp [World.setCell]
    have hs1 : w1.heap.size = w.heap.size + 1 := by rw [hw1]; simp [World.setCell]
    have t1 : Touch (· = db) w w1 := by rw [hw1]; exact (touch_set w db 0 _).alloc _
    have t2 : Touch (fun _ => False) w1 w2 := by rw [hw2]; exact (Touch.refl _ w1).alloc _
    have m1 : FM w1 w.heap.size [] := by
      have := FM.made (w.setCell ⟨db, 0, none⟩ (.map (some w.heap.size)))
      rw [hs0] at this
      rw [hw1]; exact this
    have m2 : FM w2 w.heap.size [] := m1.keep t2 (fun h => h)
    have d2 : DiskU w2 db (.map (some w.heap.size)) [] (usedF (fts []) : Nat) armed fuse dead := by
      refine ⟨?_, .inr ⟨_, rfl, m2⟩, (fun g hg => by cases hg), List.Pairwise.nil⟩
      refine t2.keep ?_ (fun h => h)
      rw [hw1]
      exact heap_old _ (heap_set h.heap 0 _)
    have hfb : w2.heap[w1.heap.size]? = some (.cells #[.slice none 0 0, .int .i64 0] 77) := by rw [hw2]; exact heap_new _ _
    have M2 := hide m2
    have FI : Hid (∀ w', FM w' w.heap.size ((s, w1.heap.size) :: del [] s) → Touch (· = w.heap.size) w2 w' → AddTo w w' db (.map none) [] armed fuse dead s (.returned (.pointer (some ⟨w1.heap.size, 0, none⟩)))) := by
      intro w' hm t
      refine ⟨.map (some w.heap.size), ⟨⟨s, [], 0⟩, w1.heap.size, .slice none 0 0⟩, rfl, rfl, unhide fin w2 w' _ _ d2 hfb (fun g hg => by cases hg) hm t, ?_, ?_⟩
      · exact (touch_more (touch_more t1 t2 (fun _ h => h.elim)) t (fun k hk => .inr (by omega))).mono (fun k hk => .inl hk)
      · rintro k (e | e | ⟨g, hg, e⟩)
        · exact .inl (.inl e)
        · cases e; exact .inr (Nat.le_refl _)
        · rw [List.mem_singleton] at hg
          subst hg
          rcases e with e | e
          · have e' : k = w1.heap.size := e
            exact .inr (by omega)
          · simp [Value.ownBlock] at e
    have e12 : w1.heap.size = (w.heap.size + 1) := hs1
    clear h m1 m2 d2 hfb t1 t2 fin hnn hat hno
    subst hw2
    rw [e12] at FI
    subst hw1
    clear hs1 e12 hs0
    go_enter Try.func33, Try.ntmps33
    go_wp2_with (at_mapUpdate; refine wpList_fmput _ rfl _ _ _ rfl w.heap.size [] rfl (unhide M2) (by simp [maxLen]) s (w.heap.size + 1) rfl rfl hsm ?_)
    intro w3 m3 t3
    have G := hide (unhide FI w3 m3 t3)
    clear m3 t3 FI M2
    go_wp2
    go_returns
    exact unhide G
  · have c0 : w.cell? ⟨db, 0, none⟩ = some (.map (some mb)) := h.cell 0
    have heq := fun (w : World) => run_eql_map_nil (P := Try.prog) w 36 9 73 (some mb) Try.underlying36
    have t2 : Touch (fun _ => False) w (w.alloc (.cells #[.slice none 0 0, .int .i64 0] 77)) := (Touch.refl _ w).alloc _
    have m2 := hm.keep t2 (fun h => h)
    have M2 := hide m2
    have c2 : (w.alloc (.cells #[.slice none 0 0, .int .i64 0] 77)).cell? ⟨db, 0, none⟩ = some (.map (some mb)) := cell_of (heap_old _ h.heap) 0
    have FI : Hid (∀ w', FM w' mb ((s, w.heap.size) :: del (fl.map pr) s) → Touch (· = mb) (w.alloc (.cells #[.slice none 0 0, .int .i64 0] 77)) w' → AddTo w w' db (.map (some mb)) fl armed fuse dead s (.returned (.pointer (some ⟨w.heap.size, 0, none⟩)))) := by
      intro w' hm' t
      rw [del_self hat] at hm'
      refine ⟨.map (some mb), ⟨⟨s, [], 0⟩, w.heap.size, .slice none 0 0⟩, rfl, rfl, unhide fin _ w' _ _ (h.toDiskU.keep t2 (fun _ _ h => h)) (heap_new _ _) (fun g hg e => ?_) hm' t, ?_, ?_⟩
      · have := lt_of_heap (h.each g hg).heap
        omega
      · exact touch_more (t2.mono (fun _ h => h.elim)) t (fun k hk => .inl (.inr (.inl (by rw [hk]))))
      · rintro k (e | e | ⟨g, hg, e⟩)
        · exact .inl (.inl e)
        · exact .inl (.inr (.inl e))
        · rcases List.mem_cons.1 hg with rfl | hg'
          · rcases e with e | e
            · exact .inr (by show w.heap.size ≤ k; rw [e]; exact Nat.le_refl _)
            · simp [Value.ownBlock] at e
          · exact .inl (.inr (.inr ⟨g, hg', e⟩))
    clear h m2 t2 fin hnn hat hno hm
    go_enter Try.func33, Try.ntmps33
    go_wp2_with (at_mapUpdate; refine wpList_fmput _ rfl _ _ _ rfl mb (fl.map pr) rfl (unhide M2) hlm s w.heap.size rfl rfl hsm ?_)
    intro w3 m3 t3
    have G := hide (unhide FI w3 m3 t3)
    clear m3 t3 FI M2
    go_wp2
    go_returns
    exact unhide G

/-- Without the file of a name. -/
def without (fl : List Fl) (s : ByteArray) : List Fl := fl.filter (fun f => decide (f.nm ≠ s))
def withoutF (l : List Ft) (s : ByteArray) : List Ft := l.filter (fun f => decide (f.nm ≠ s))
theorem fts_without (fl : List Fl) (s : ByteArray) : fts (without fl s) = withoutF (fts fl) s := by
  unfold fts without withoutF
  rw [List.filter_map]; rfl
theorem pr_without (fl : List Fl) (s : ByteArray) : (without fl s).map pr = del (fl.map pr) s := by
  unfold without del
  rw [List.filter_map]; rfl
theorem used_without {l : List Ft} {f : Ft} (ha : l.Pairwise (fun a b => a.nm ≠ b.nm)) (hf : f ∈ l) : usedF (withoutF l f.nm) + f.text.length = usedF l := by
  induction l with
  | nil => cases hf
  | cons x r ih =>
    obtain ⟨h2, h3⟩ := List.pairwise_cons.1 ha
    by_cases hx : x.nm = f.nm
    · have hfx : f = x := by
        rcases List.mem_cons.1 hf with e | e
        · exact e
        · exact absurd hx (h2 f e)
      subst hfx
      have : withoutF (f :: r) f.nm = r := by
        unfold withoutF
        rw [List.filter_cons_of_neg (by simp), List.filter_eq_self]
        intro g hg
        simpa using (fun e => h2 g hg e.symm)
      rw [this, used_cons]
      omega
    · have hfr : f ∈ r := by
        rcases List.mem_cons.1 hf with e | e
        · subst e; exact absurd rfl hx
        · exact e
      have := ih h3 hfr
      have e : withoutF (x :: r) f.nm = x :: withoutF r f.nm := by
        unfold withoutF
        rw [List.filter_cons_of_pos (by simpa using hx)]
      rw [e, used_cons, used_cons]
      omega
theorem without_self {fl : List Fl} {s : ByteArray} (h : fileOf fl s = none) : without fl s = fl := by
  unfold without
  rw [List.filter_eq_self]
  intro g hg
  unfold fileOf at h
  rw [List.find?_eq_none] at h
  simpa using h g hg
theorem owns_without {db : Nat} {mv : Value} {fl : List Fl} {s : ByteArray} : ∀ k, Owns db mv (without fl s) k → Owns db mv fl k := by
  rintro k (e | e | ⟨g, hg, e⟩)
  · exact .inl e
  · exact .inr (.inl e)
  · exact .inr (.inr ⟨g, (List.mem_filter.1 hg).1, e⟩)

def DropTo (w w' : World) (db : Nat) (mv : Value) (fl : List Fl) (armed : Bool) (fuse : Int) (dead : Bool) (s : ByteArray) : Prop :=
  DiskAt w' db mv (without fl s) armed fuse dead ∧ Touch (fun k => k = db ∨ mv = .map (some k)) w w'

set_option maxRecDepth 100000 in
theorem drop_any (h : DiskAt w db mv fl armed fuse dead) (hs : s.size ≤ maxLen) :
    Calls Try.prog 45 #[.pointer (some ⟨db, 0, none⟩), .string s] w fun e w' => e = .returned (.tuple #[]) ∧ DropTo w w' db mv fl armed fuse dead s := by
  have c0 : w.cell? ⟨db, 0, none⟩ = some mv := h.cell 0
  have hl := h.look hs
  cases hf : fileOf fl s with
  | none =>
    rw [hf] at hl
    have hl2 : (Instr.lookup 36 mv (.string s) true).run Try.prog w = .ok (.tuple #[.pointer none, .bool false]) w := hl
    have F : Hid (DropTo w w db mv fl armed fuse dead s) := ⟨by rw [without_self hf]; exact h, Touch.refl _ _⟩
    clear hl h hs hf
    go_enter Try.func45, Try.ntmps45
    go_wp2
    go_returns
    exact ⟨rfl, unhide F⟩
  | some f =>
    obtain ⟨hfm, rfl⟩ := fileOf_some hf
    rw [hf] at hl
    have hl2 : (Instr.lookup 36 mv (.string f.nm) true).run Try.prog w = .ok (.tuple #[.pointer (some ⟨f.fb, 0, none⟩), .bool true]) w := hl
    obtain ⟨mb, rfl, hm⟩ : ∃ mb, mv = .map (some mb) ∧ FM w mb (fl.map pr) := by
      rcases h.map with ⟨_, e⟩ | h
      · rw [e] at hfm; cases hfm
      · exact h
    have hat := h.each f hfm
    obtain ⟨a, cap, ev, _⟩ := hat.row.parts
    have d0 : w.cell? ⟨f.fb, 0, none⟩ = some (.slice a f.text.length cap) := by rw [← ev]; exact hat.cell0
    have c1 : w.cell? ⟨db, 1, none⟩ = some (.int .i64 (usedF (fts fl) : Nat)) := h.cell 1
    have z1 := h.frozen 1
    have hu := used_without (apart_names h.apart) (List.mem_map.2 ⟨f, hfm, rfl⟩ : f.toFt ∈ fts fl)
    have hus := h.used
    obtain ⟨u', hu'⟩ : ∃ u', u' = usedF (withoutF (fts fl) f.nm) := ⟨_, rfl⟩
    have huz : (usedF (fts fl) : Int) - (f.text.length : Int) = (u' : Int) := by rw [hu']; have : f.toFt.text = f.text := rfl; rw [this] at hu; omega
    have hwz : IntKind.i64.wrap (u' : Int) = (u' : Int) := by simp [IntKind.wrap, IntKind.bits, IntKind.signed]; have : f.toFt.text = f.text := rfl; rw [this] at hu; omega
    obtain ⟨n1, n2, n3⟩ := h.map_ne rfl
    have FI : Hid (∀ w', FM w' mb (del (fl.map pr) f.nm) → Touch (· = mb) (w.setCell ⟨db, 1, none⟩ (.int .i64 (u' : Int))).drew w' → DropTo w w' db (.map (some mb)) fl armed fuse dead f.nm) := by
      intro w' m' t'
      have tt : Touch (fun k => k = db ∨ Value.map (some mb) = .map (some k)) w w' := touch_more (((touch_set w db 1 _).mono (fun k hk => .inl hk)).drew) t' (fun k hk => .inl (.inr (by rw [hk])))
      refine ⟨⟨⟨?_, .inr ⟨mb, rfl, by rw [pr_without]; exact m'⟩, fun g hg => ?_, h.apart.filter _⟩, ?_, ?_, h.lo, h.hi, h.arm⟩, tt⟩
      · rw [fts_without, ← hu']
        exact t'.keep (w := (w.setCell ⟨db, 1, none⟩ (.int .i64 (u' : Int))).drew) (heap_set h.heap 1 _) (fun e => n1 e.symm)
      · have hg' := (List.mem_filter.1 hg).1
        refine (h.each g hg').keep tt ?_ ?_
        · rintro (e | e)
          · exact h.db_ne hg' e
          · cases e; exact n2 g hg' rfl
        · rintro k hk (e | e)
          · exact h.row_ne_db hg' k hk e
          · cases e; exact n3 g hg' _ hk rfl
      · rw [fts_without]; omega
      · exact Nat.le_trans (List.length_filter_le _ _) h.few
    have MM : Hid (FM (w.setCell ⟨db, 1, none⟩ (.int .i64 (u' : Int))).drew mb (fl.map pr)) := hm.keep (touch_set w db 1 _).drew n1
    have c0' : (w.setCell ⟨db, 1, none⟩ (.int .i64 (u' : Int))).drew.cell? ⟨db, 0, none⟩ = some (.map (some mb)) := cell_of (w := (w.setCell ⟨db, 1, none⟩ (.int .i64 (u' : Int))).drew) (heap_set h.heap 1 _) 0
    clear hl h hf hm hat ev hu hu' hus
    go_enter Try.func45, Try.ntmps45
    go_wp2_with fail
    go_region
    all_goals
      generalize (w.setCell ⟨db, 1, none⟩ (.int .i64 (u' : Int))).drew = w1 at *
      go_wp2_with (at_delete; refine wpList_fmdel _ rfl _ _ rfl mb (fl.map pr) rfl (unhide MM) f.nm rfl hs ?_)
      intro w2 m2 t2
      have G := hide (unhide FI w2 m2 t2)
      clear m2 t2
      go_wp2
      go_end0
      exact ⟨rfl, unhide G⟩
end
end Go.Proofs.Ytfdpnfeaagijhaa
