/-
  Ranging over a disk's files, and Crash. Conditions: what the disk is.
-/
import Derived.Test.YtfdpnfeaagijhaaDk4

/-
  Sync, Read, Size, Remove, Arm, Dead and New of a disk. Conditions: names are at most 2^62 bytes.
-/
namespace Go.Proofs.Ytfdpnfeaagijhaa
open Go.RowKit Go.Maps
set_option linter.unusedVariables false

theorem dnew_any (w : World) :
    Calls Try.prog 4 #[] w fun e w' => e = .returned (.pointer (some ⟨w.heap.size, 0, none⟩)) ∧ Went w w' w.heap.size (fun _ => False) ⟨[], false, 0, false⟩ := by
  have F : Hid (Went w (w.alloc (.cells #[.map none, .int .i64 0, .bool false, .int .i64 0, .bool false] 38)) w.heap.size (fun _ => False) ⟨[], false, 0, false⟩) := by
    refine ⟨fun k => k = w.heap.size, ⟨⟨.map none, [], ⟨⟨heap_new _ _, .inl ⟨rfl, rfl⟩, (fun f hf => by cases hf), List.Pairwise.nil⟩, by simp [usedF], by simp, by simp, by simp, fun h => by cases h⟩, rfl, ?_⟩, fun k hk => by rw [hk]; simp⟩, (Touch.refl _ _).alloc _, fun k hk => .inr (by omega)⟩
    rintro k (e | e | ⟨g, hg, _⟩)
    · exact e
    · cases e
    · cases hg
  go_enter Try.func4, Try.ntmps4
  go_wp2
  go_returns
  exact ⟨rfl, unhide F⟩

section
variable {w : World} {db : Nat} {mv : Value} {fl : List Fl} {armed dead : Bool} {fuse : Int} {f : Fl}
/-- So many of a file's bytes last. -/
theorem DiskAt.lasts (h : DiskAt w db mv fl armed fuse dead) (hf : f ∈ fl) {n : Nat} (hn : n ≤ f.text.length) :
    DiskAt (w.setCell ⟨f.fb, 1, none⟩ (.int .i64 (n : Nat))) db mv (swap fl { f with last := n }) armed fuse dead ∧ Touch (Owns db mv fl) w (w.setCell ⟨f.fb, 1, none⟩ (.int .i64 (n : Nat))) ∧ ∀ k, Owns db mv (swap fl { f with last := n }) k → Owns db mv fl k ∨ w.heap.size ≤ k := by
  have hat := h.each f hf
  have hne := h.db_ne hf
  have t1 := touch_set w f.fb 1 (.int .i64 (n : Nat))
  have hu : usedF (fts (swap fl { f with last := n })) = usedF (fts fl) := by
    have := used_swapF (f' := (⟨f.nm, f.text, n⟩ : Ft)) (apart_names h.apart) (List.mem_map.2 ⟨f, hf, rfl⟩ : f.toFt ∈ fts fl) rfl
    rw [fts_swap]
    simp only at this ⊢
    omega
  refine ⟨⟨h.toDiskU.change (f' := { f with last := n }) hf rfl rfl ⟨heap_set hat.heap 1 _, hat.row.keep t1 (fun k hk e => hat.row_ne k hk e), hn, hat.name⟩ (t1.mono (fun k hk => .inr (.inl hk))) (fun k hk => .inl hk) (by rw [hu]; exact t1.keep h.heap (fun e => hne e.symm)), by rw [hu]; exact h.used, by rw [swap_len]; exact h.few, h.lo, h.hi, h.arm⟩, t1.mono (fun k hk => .inr (.inr ⟨f, hf, .inl hk⟩)), owns_swap (f' := { f with last := n }) h.apart hf rfl rfl (fun k hk => .inl hk)⟩
end

def syncF (l : List Ft) (s : ByteArray) : List Ft :=
  match ftOf l s with
  | some f => swapF l { f with last := f.text.length }
  | none => l
def syD (d : Dk) (s : ByteArray) : Dk := if findE d.dead d.fs s = 0 then { d with fs := syncF d.fs s } else d
def rdF (d : Dk) (s : ByteArray) : Ft := if findE d.dead d.fs s = 0 then (ftOf d.fs s).getD ⟨s, [], 0⟩ else ⟨s, [], 0⟩
def rmD (d : Dk) (s : ByteArray) : Dk := if findE d.dead d.fs s = 0 then { d with fs := withoutF d.fs s } else d
def armD (d : Dk) (n : Int) : Dk := if d.dead then d else { d with armed := decide (0 ≤ n), fuse := n }

section
variable {w : World} {db : Nat} {S : Nat → Prop} {d : Dk} {s : ByteArray}

set_option maxRecDepth 100000 in
theorem dsync_any (h : Disky w db S d) (hs : s.size ≤ maxLen) :
    Calls Try.prog 25 #[.pointer (some ⟨db, 0, none⟩), .string s] w fun e w' => e = .returned (.int .i64 (findE d.dead d.fs s : Nat)) ∧ Went w w' db S (syD d s) := by
  have HW := hide (Went.same h (Touch.refl _ w))
  obtain ⟨⟨mv, fl, h1, h2, h3⟩, hlt⟩ := h
  obtain ⟨fs, armed, fuse, dead⟩ := d
  simp only at h1 h2 ⊢
  subst h2
  have FD := hide (find_any h1 hs)
  by_cases hE : findE dead (fts fl) s = 0
  · obtain ⟨rfl, hnm, f, hf, rfl, hfo, hG⟩ := find_zero hE
    have e1 : syD ⟨fts fl, armed, fuse, false⟩ f.nm = ⟨swapF (fts fl) { f.toFt with last := f.text.length }, armed, fuse, false⟩ := by
      unfold syD syncF
      rw [if_pos hE, ft_fileOf, hfo]; rfl
    rw [e1]
    rw [hE, hG] at FD
    rw [hE]
    simp only [ptrV] at FD
    have hat := h1.each f hf
    obtain ⟨av, cv, ev, _⟩ := hat.row.parts
    have x0 : w.cell? ⟨f.fb, 0, none⟩ = some (.slice av f.text.length cv) := by rw [← ev]; exact hat.cell0
    have x1 := hat.cell1
    have y1 := hat.frozen 1
    obtain ⟨dA, tA, oA⟩ := h1.lasts hf (Nat.le_refl _)
    have WT : Hid (Went w (w.setCell ⟨f.fb, 1, none⟩ (.int .i64 (f.text.length : Nat))) db S ⟨swapF (fts fl) { f.toFt with last := f.text.length }, armed, fuse, false⟩) := Went.mk' (mv := mv) (fl := fl) h3 dA (by rw [fts_swap]) tA oA
    clear h1 dA tA oA hat ev e1 hE hG hfo HW hlt
    go_enter Try.func25, Try.ntmps25
    go_wp2_with fail
    refine (unhide FD).mono ?_
    rintro e w1 ⟨rfl, rfl⟩
    go_wp2
    go_returns
    exact ⟨rfl, unhide WT⟩
  · have e1 : syD ⟨fts fl, armed, fuse, dead⟩ s = ⟨fts fl, armed, fuse, dead⟩ := by unfold syD; rw [if_neg hE]
    rw [e1]
    clear h1 e1
    generalize findE dead (fts fl) s = E at *
    generalize findG dead fl s = G at *
    have q1 : ((E : Int) != 0) = true := by rw [bne_iff_ne]; omega
    have q2 : ¬ (E : Int) = 0 := by omega
    cases G <;> simp only [ptrV] at FD
    all_goals
      go_enter Try.func25, Try.ntmps25
      go_wp2_with fail
      refine (unhide FD).mono ?_
      rintro e w1 ⟨rfl, rfl⟩
      go_wp2
      go_returns
      exact ⟨rfl, unhide HW⟩
theorem dsync_nil (s : ByteArray) (w : World) :
    Calls Try.prog 25 #[.pointer none, .string s] w fun e w' => e = .returned (.int .i64 5) ∧ w' = w := by
  go_enter Try.func25, Try.ntmps25
  go_wp2_with fail
  refine (find_nil s w).mono ?_
  rintro e w1 ⟨rfl, rfl⟩
  go_wp2
  go_returns
  exact ⟨rfl, rfl⟩

set_option maxRecDepth 100000 in
theorem dread_any (h : Disky w db S d) (hs : s.size ≤ maxLen) :
    Calls Try.prog 22 #[.pointer (some ⟨db, 0, none⟩), .string s] w fun e w' => ∃ v, e = .returned (.tuple #[v, .int .i64 (findE d.dead d.fs s : Nat)]) ∧ Fresh5 w w' v (rdF d s).text := by
  obtain ⟨⟨mv, fl, h1, h2, h3⟩, hlt⟩ := h
  obtain ⟨fs, armed, fuse, dead⟩ := d
  simp only at h1 h2 ⊢
  subst h2
  have FD := hide (find_any h1 hs)
  by_cases hE : findE dead (fts fl) s = 0
  · obtain ⟨rfl, hnm, f, hf, rfl, hfo, hG⟩ := find_zero hE
    have e1 : (rdF ⟨fts fl, armed, fuse, false⟩ f.nm).text = f.text := by
      unfold rdF
      rw [if_pos hE, ft_fileOf, hfo]; rfl
    rw [e1]
    rw [hE, hG] at FD
    rw [hE]
    simp only [ptrV] at FD
    have hat := h1.each f hf
    have hfu : f.text.length ≤ usedF (fts fl) := used_mem (List.mem_map.2 ⟨f, hf, rfl⟩ : f.toFt ∈ fts fl)
    have hus := h1.used
    obtain ⟨av, cv, ev, lv, _, _, hnv, _⟩ := hat.row.parts
    have x0 : w.cell? ⟨f.fb, 0, none⟩ = some (.slice av f.text.length cv) := by rw [← ev]; exact hat.cell0
    have CL := hide (clone_any av f.text cv w lv hnv (by omega))
    clear h1 hat ev e1 hE hG hfo hlt lv hnv
    go_enter Try.func22, Try.ntmps22
    go_wp2_with fail
    refine (unhide FD).mono ?_
    rintro e w1 ⟨rfl, rfl⟩
    go_wp2_with fail
    refine (unhide CL).mono ?_
    rintro e w2 ⟨v2, rfl, r2, n2, b2⟩
    have F : Hid (Fresh5 w1 w2 v2 f.text) := ⟨r2, n2, b2⟩
    obtain ⟨a2, m2, c2, rfl⟩ := r2.shape
    clear r2 n2 b2 CL
    go_wp2
    go_returns
    exact ⟨_, rfl, unhide F⟩
  · have e1 : (rdF ⟨fts fl, armed, fuse, dead⟩ s).text = [] := by unfold rdF; rw [if_neg hE]
    rw [e1]
    clear h1 e1
    generalize findE dead (fts fl) s = E at *
    generalize findG dead fl s = G at *
    have q1 : ((E : Int) != 0) = true := by rw [bne_iff_ne]; omega
    have q2 : ¬ (E : Int) = 0 := by omega
    cases G <;> simp only [ptrV] at FD
    all_goals
      go_enter Try.func22, Try.ntmps22
      go_wp2_with fail
      refine (unhide FD).mono ?_
      rintro e w1 ⟨rfl, rfl⟩
      go_wp2
      go_returns
      exact ⟨_, rfl, Row.nil _, New.nil _, Below.refl _ _⟩
theorem dread_nil (s : ByteArray) (w : World) :
    Calls Try.prog 22 #[.pointer none, .string s] w fun e w' => e = .returned (.tuple #[.slice none 0 0, .int .i64 5]) ∧ w' = w := by
  go_enter Try.func22, Try.ntmps22
  go_wp2_with fail
  refine (find_nil s w).mono ?_
  rintro e w1 ⟨rfl, rfl⟩
  go_wp2
  go_returns
  exact ⟨rfl, rfl⟩

set_option maxRecDepth 100000 in
theorem dsize_any (h : Disky w db S d) (hs : s.size ≤ maxLen) :
    Calls Try.prog 31 #[.pointer (some ⟨db, 0, none⟩), .string s] w fun e w' => e = .returned (.tuple #[.int .i64 ((rdF d s).text.length : Nat), .int .i64 ((rdF d s).last : Nat), .int .i64 (findE d.dead d.fs s : Nat)]) ∧ ∃ n, w' = w.drewN n := by
  obtain ⟨⟨mv, fl, h1, h2, h3⟩, hlt⟩ := h
  obtain ⟨fs, armed, fuse, dead⟩ := d
  simp only at h1 h2 ⊢
  subst h2
  have FD := hide (find_any h1 hs)
  by_cases hE : findE dead (fts fl) s = 0
  · obtain ⟨rfl, hnm, f, hf, rfl, hfo, hG⟩ := find_zero hE
    have e1 : rdF ⟨fts fl, armed, fuse, false⟩ f.nm = f.toFt := by
      unfold rdF
      rw [if_pos hE, ft_fileOf, hfo]; rfl
    rw [e1]
    rw [hE, hG] at FD
    rw [hE]
    simp only [ptrV] at FD
    have hat := h1.each f hf
    obtain ⟨av, cv, ev, lv, _, _, hnv, _⟩ := hat.row.parts
    have x0 : w.cell? ⟨f.fb, 0, none⟩ = some (.slice av f.text.length cv) := by rw [← ev]; exact hat.cell0
    have x1 := hat.cell1
    clear h1 hat ev e1 hE hG hfo hlt lv hnv
    go_enter Try.func31, Try.ntmps31
    go_wp2_with fail
    refine (unhide FD).mono ?_
    rintro e w1 ⟨rfl, rfl⟩
    go_wp2_with fail
    go_quiet (fail)
    go_wp2
    go_returns
    exact ⟨rfl, nq, rfl⟩
  · have e1 : rdF ⟨fts fl, armed, fuse, dead⟩ s = ⟨s, [], 0⟩ := by unfold rdF; rw [if_neg hE]
    rw [e1]
    clear h1 e1
    generalize findE dead (fts fl) s = E at *
    generalize findG dead fl s = G at *
    have q1 : ((E : Int) != 0) = true := by rw [bne_iff_ne]; omega
    have q2 : ¬ (E : Int) = 0 := by omega
    cases G <;> simp only [ptrV] at FD
    all_goals
      go_enter Try.func31, Try.ntmps31
      go_wp2_with fail
      refine (unhide FD).mono ?_
      rintro e w1 ⟨rfl, rfl⟩
      go_wp2
      go_returns
      exact ⟨rfl, 0, rfl⟩
theorem dsize_nil (s : ByteArray) (w : World) :
    Calls Try.prog 31 #[.pointer none, .string s] w fun e w' => e = .returned (.tuple #[.int .i64 0, .int .i64 0, .int .i64 5]) ∧ w' = w := by
  go_enter Try.func31, Try.ntmps31
  go_wp2_with fail
  refine (find_nil s w).mono ?_
  rintro e w1 ⟨rfl, rfl⟩
  go_wp2
  go_returns
  exact ⟨rfl, rfl⟩

set_option maxRecDepth 100000 in
theorem dremove_any (h : Disky w db S d) (hs : s.size ≤ maxLen) :
    Calls Try.prog 36 #[.pointer (some ⟨db, 0, none⟩), .string s] w fun e w' => e = .returned (.int .i64 (findE d.dead d.fs s : Nat)) ∧ Went w w' db S (rmD d s) := by
  have HW := hide (Went.same h (Touch.refl _ w))
  obtain ⟨⟨mv, fl, h1, h2, h3⟩, hlt⟩ := h
  obtain ⟨fs, armed, fuse, dead⟩ := d
  simp only at h1 h2 ⊢
  subst h2
  have FD := hide (find_any h1 hs)
  by_cases hE : findE dead (fts fl) s = 0
  · obtain ⟨rfl, hnm, f, hf, rfl, hfo, hG⟩ := find_zero hE
    have e1 : rmD ⟨fts fl, armed, fuse, false⟩ f.nm = ⟨withoutF (fts fl) f.nm, armed, fuse, false⟩ := by unfold rmD; rw [if_pos hE]
    rw [e1]
    rw [hE, hG] at FD
    rw [hE]
    simp only [ptrV] at FD
    have DR := hide (drop_any h1 hs)
    have WT : Hid (∀ w', DropTo w w' db mv fl armed fuse false f.nm → Went w w' db S ⟨withoutF (fts fl) f.nm, armed, fuse, false⟩) := fun w' hd => Went.mk' (mv := mv) (fl := fl) h3 hd.1 (fts_without _ _) (hd.2.mono (fun k hk => hk.imp id .inl)) (fun k hk => .inl (owns_without k hk))
    clear h1 e1 hE hG hfo HW hlt
    go_enter Try.func36, Try.ntmps36
    go_wp2_with fail
    refine (unhide FD).mono ?_
    rintro e w1 ⟨rfl, rfl⟩
    go_wp2_with fail
    refine (unhide DR).mono ?_
    rintro e w2 ⟨rfl, hd⟩
    have WW := hide (unhide WT w2 hd)
    clear hd DR
    go_wp2
    go_returns
    exact ⟨rfl, unhide WW⟩
  · have e1 : rmD ⟨fts fl, armed, fuse, dead⟩ s = ⟨fts fl, armed, fuse, dead⟩ := by unfold rmD; rw [if_neg hE]
    rw [e1]
    clear h1 e1
    generalize findE dead (fts fl) s = E at *
    generalize findG dead fl s = G at *
    have q1 : ((E : Int) != 0) = true := by rw [bne_iff_ne]; omega
    have q2 : ¬ (E : Int) = 0 := by omega
    cases G <;> simp only [ptrV] at FD
    all_goals
      go_enter Try.func36, Try.ntmps36
      go_wp2_with fail
      refine (unhide FD).mono ?_
      rintro e w1 ⟨rfl, rfl⟩
      go_wp2
      go_returns
      exact ⟨rfl, unhide HW⟩
theorem dremove_nil (s : ByteArray) (w : World) :
    Calls Try.prog 36 #[.pointer none, .string s] w fun e w' => e = .returned (.int .i64 5) ∧ w' = w := by
  go_enter Try.func36, Try.ntmps36
  go_wp2_with fail
  refine (find_nil s w).mono ?_
  rintro e w1 ⟨rfl, rfl⟩
  go_wp2
  go_returns
  exact ⟨rfl, rfl⟩

end
end Go.Proofs.Ytfdpnfeaagijhaa


namespace Go.Proofs.Ytfdpnfeaagijhaa
open Go.RowKit Go.Maps
set_option linter.unusedVariables false

/-- A range under way over a map that may be none. -/
def IT (w : World) (mv : Value) (r : Nat) (m todo : Prs) : Prop := (mv = .map none ∧ m = [] ∧ todo = [] ∧ w.heap[r]? = some (.mapIter none 0 #[] 0)) ∨ ∃ b, mv = .map (some b) ∧ RG w b r m todo
def leftM (mv : Value) (r : Nat) (w : World) : Nat :=
  match mv with
  | .map (some b) => w.rangeLeft b r
  | _ => 0
/-- No block of files or of bytes is the iterator's. -/
theorem IT.not_cells {w : World} {mv : Value} {r : Nat} {m todo : Prs} (h : IT w mv r m todo) {cs : Array Value} {t : TypeId} {k : Nat} (hk : w.heap[k]? = some (.cells cs t)) : r ≠ k := by
  intro e
  rcases h with ⟨_, _, _, h⟩ | ⟨b, _, h⟩
  · rw [e, hk] at h; cases h
  · obtain ⟨_, _, _, _, h⟩ := h.iter
    rw [e, hk] at h; cases h
theorem IT.lt {w : World} {mv : Value} {r : Nat} {m todo : Prs} (h : IT w mv r m todo) : r < w.heap.size := by
  rcases h with ⟨_, _, _, h⟩ | ⟨b, _, h⟩
  · exact lt_of_heap h
  · exact h.lt
theorem IT.keep {w w' : World} {mv : Value} {r : Nat} {m todo : Prs} {S : Nat → Prop} (h : IT w mv r m todo) (t : Touch S w w') (hr : ¬ S r) (hb : ∀ b, mv = .map (some b) → ¬ S b) : IT w' mv r m todo ∧ leftM mv r w' = leftM mv r w := by
  rcases h with ⟨e1, e2, e3, h⟩ | ⟨b, rfl, h⟩
  · exact ⟨.inl ⟨e1, e2, e3, t.keep h hr⟩, by rw [e1]; rfl⟩
  · exact ⟨.inr ⟨b, rfl, h.keep t (hb b rfl) hr⟩, left_keep t h.fm.lt h.lt (hb b rfl) hr⟩

section
variable (w : World) {ops : Array Oper} {rest : List Oper} {o : Oper} {a : Act} {Q : Exit → Act → World → Prop}
theorem wpList_itrange (hg : o.guard = none) (m : Operand) (hop : o.op = Op.range 36 m) (mv : Value) (ps : Prs) (hm : a.eval m = mv) (h : (mv = .map none ∧ ps = []) ∨ ∃ mb, mv = .map (some mb) ∧ FM w mb ps)
    (hK : ∀ w', IT w' mv w.heap.size ps ps → Touch (fun _ => False) w w' → wpList Try.prog ops Q rest (a.put o.dst (.pointer (some ⟨w.heap.size, 0, none⟩))) w') : wpList Try.prog ops Q (o :: rest) a w := by
  refine wpList_plain hg fun K' hK' => ?_
  rcases h with ⟨rfl, rfl⟩ | ⟨b, rfl, h⟩
  · have hrun : (Instr.range 36 (.map none)).run Try.prog w = .ok (.pointer (some ⟨w.heap.size, 0, none⟩)) (w.alloc (.mapIter none 0 #[] 0)) := by
      simp [Instr.range, run_underlying Try.underlying36, Result.andThen]
    unfold Oper.wp
    simp [execOp, hop, hm, hrun, Result.andThen]
    exact hK' _ _ (hK _ (.inl ⟨rfl, rfl, rfl, heap_new _ _⟩) ((Touch.refl _ w).alloc _))
  · obtain ⟨w', hrun, r1, r2⟩ := h.range
    unfold Oper.wp
    simp [execOp, hop, hm, hrun, Result.andThen]
    exact hK' _ _ (hK w' (.inr ⟨b, rfl, r1⟩) r2)
theorem wpList_itnext (hg : o.guard = none) (it : Operand) (hop : o.op = Op.next it false) (mv : Value) (r : Nat) (m todo : Prs) (hit : a.eval it = .pointer (some ⟨r, 0, none⟩)) (h : IT w mv r m todo)
    (hDone : todo = [] → wpList Try.prog ops Q rest (a.put o.dst (.tuple #[.bool false])) w)
    (hMore : ∀ (s : ByteArray) (g : Nat) (w' : World), (s, g) ∈ todo → s.size ≤ maxLen → IT w' mv r m (del todo s) → leftM mv r w' < leftM mv r w → Touch (· = r) w w' → (Instr.entry (.pointer (some ⟨r, 0, none⟩))).run Try.prog w' = .ok (.tuple #[.string s, .pointer (some ⟨g, 0, none⟩)]) w' →
      wpList Try.prog ops Q rest (a.put o.dst (.tuple #[.bool true, .string s, .pointer (some ⟨g, 0, none⟩)])) w') : wpList Try.prog ops Q (o :: rest) a w := by
  refine wpList_plain hg fun K' hK' => ?_
  unfold Oper.wp
  rcases h with ⟨rfl, rfl, rfl, h⟩ | ⟨b, rfl, h⟩
  · have hrun : (Instr.next (.pointer (some ⟨r, 0, none⟩)) false o.type).run Try.prog w = .ok (.tuple #[.bool false]) w := by
      simp only [Instr.next, getObj, Sem.run_bind, Sem.run, h, Result.andThen]
      rfl
    simp [execOp, hop, hit, hrun, Result.andThen]
    exact hK' _ _ (hDone rfl)
  · rcases h.next o.type with ⟨h0, hrun⟩ | ⟨⟨s, g⟩, w', hp, hs, hrun, r1, r2, r3, r4⟩
    · simp [execOp, hop, hit, hrun, Result.andThen]
      exact hK' _ _ (hDone h0)
    · have hrun' : (Instr.next (.pointer (some ⟨r, 0, none⟩)) false o.type).run Try.prog w = .ok (.tuple #[.bool true, .string s, .pointer (some ⟨g, 0, none⟩)]) w' := hrun
      simp [execOp, hop, hit, hrun', Result.andThen]
      exact hK' _ _ (hMore s g w' hp hs (.inr ⟨b, rfl, r1⟩) r2 r3 r4)
end

/-- Is the name still to come? -/
def isIn (todo : Prs) (s : ByteArray) : Bool := (at_ todo s).isSome
theorem isIn_del (todo : Prs) (s t : ByteArray) : isIn (del todo s) t = (isIn todo t && decide (t ≠ s)) := by
  unfold isIn at_ del
  rw [Option.isSome_map, Option.isSome_map, List.find?_filter]
  by_cases e : t = s
  · subst e
    have : List.find? (fun a : ByteArray × Nat => decide (decide (a.1 ≠ t) = true ∧ decide (a.1 = t) = true)) todo = none := by
      rw [List.find?_eq_none]; intro x _; simp
    rw [this]; simp
  · have : (fun a : ByteArray × Nat => decide (decide (a.1 ≠ s) = true ∧ decide (a.1 = t) = true)) = fun a => decide (a.1 = t) := by
      funext x
      by_cases h : x.1 = t
      · simp [h, e]
      · simp [h]
    rw [this]; simp [e]
theorem isIn_mem {todo : Prs} {s : ByteArray} {g : Nat} (h : (s, g) ∈ todo) : isIn todo s = true := by
  unfold isIn
  cases e : at_ todo s with
  | some _ => rfl
  | none => exact absurd rfl (at_none e _ h)

/-- The files while a crash goes on; those that count as done. -/
def midF (K : Nat) (todo : Prs) (l : List Ft) : List Ft := l.map (fun f => if isIn todo f.nm then f else crashF K f)
def midU (K : Nat) (todo : Prs) (l : List Ft) : List Ft := l.map (fun f => if isIn todo f.nm then ⟨f.nm, [], 0⟩ else crashF K f)
theorem mid_step (K : Nat) (todo : Prs) {l : List Ft} (ha : l.Pairwise (fun a b => a.nm ≠ b.nm)) {f : Ft} (hf : f ∈ l) : midF K (del todo f.nm) l = swapF (midF K todo l) (crashF K f) := by
  unfold midF swapF
  rw [List.map_map]
  apply List.map_congr_left
  intro g hg
  show (if isIn (del todo f.nm) g.nm then g else crashF K g) = if (if isIn todo g.nm then g else crashF K g).nm = (crashF K f).nm then crashF K f else (if isIn todo g.nm then g else crashF K g)
  have en : (if isIn todo g.nm then g else crashF K g).nm = g.nm := by split <;> rfl
  have ef : (crashF K f).nm = f.nm := rfl
  rw [en, ef, isIn_del]
  by_cases e : g.nm = f.nm
  · have e2 : g = f := by
      have hpa : ∀ {l : List Ft}, l.Pairwise (fun a b => a.nm ≠ b.nm) → ∀ {x y : Ft}, x ∈ l → y ∈ l → x.nm = y.nm → x = y := by
        intro l
        induction l with
        | nil => intro _ x y hx; cases hx
        | cons z r ih =>
          intro h x y hx hy exy
          obtain ⟨h1, h2⟩ := List.pairwise_cons.1 h
          rcases List.mem_cons.1 hx with rfl | hx' <;> rcases List.mem_cons.1 hy with rfl | hy'
          · rfl
          · exact absurd exy (h1 y hy')
          · exact absurd exy.symm (h1 x hx')
          · exact ih h2 hx' hy' exy
      exact hpa ha hg hf e
    subst e2
    simp
  · rw [if_neg e]; simp [e]
theorem midU_step (K : Nat) (todo : Prs) {l : List Ft} (ha : l.Pairwise (fun a b => a.nm ≠ b.nm)) {f : Ft} (hf : f ∈ l) (hin : isIn todo f.nm = true) : usedF (midU K (del todo f.nm) l) = usedF (midU K todo l) + (crashF K f).text.length := by
  induction l with
  | nil => cases hf
  | cons x r ih =>
    obtain ⟨h1, h2⟩ := List.pairwise_cons.1 ha
    have hc : ∀ td, usedF (midU K td (x :: r)) = (if isIn td x.nm then (⟨x.nm, [], 0⟩ : Ft) else crashF K x).text.length + usedF (midU K td r) := fun td => by
      show usedF (_ :: midU K td r) = _
      rw [used_cons]
    rw [hc, hc]
    by_cases e : x.nm = f.nm
    · have hfx : f = x := by
        rcases List.mem_cons.1 hf with h | h
        · exact h
        · exact absurd e (h1 f h)
      subst hfx
      have hr : midU K (del todo f.nm) r = midU K todo r := by
        unfold midU
        apply List.map_congr_left
        intro g hg
        have : decide (g.nm ≠ f.nm) = true := decide_eq_true (Ne.symm (h1 g hg))
        rw [isIn_del, this, Bool.and_true]
      rw [hr, isIn_del, hin]
      simp
      omega
    · have hfr : f ∈ r := by
        rcases List.mem_cons.1 hf with h | h
        · subst h; exact absurd rfl e
        · exact h
      have := ih h2 hfr
      have hd : decide (x.nm ≠ f.nm) = true := decide_eq_true e
      rw [this, isIn_del, hd, Bool.and_true]
      omega
theorem midU_le (K : Nat) (todo : Prs) (l : List Ft) : usedF (midU K todo l) ≤ usedF l := by
  induction l with
  | nil => simp [midU, usedF]
  | cons x r ih =>
    have hc : usedF (midU K todo (x :: r)) = (if isIn todo x.nm then (⟨x.nm, [], 0⟩ : Ft) else crashF K x).text.length + usedF (midU K todo r) := by
      show usedF (_ :: midU K todo r) = _
      rw [used_cons]
    rw [hc, used_cons]
    have : (if isIn todo x.nm then (⟨x.nm, [], 0⟩ : Ft) else crashF K x).text.length ≤ x.text.length := by
      split
      · simp
      · show (x.text.take _).length ≤ _
        rw [List.length_take]; omega
    omega
theorem mid_start (K : Nat) {m : Prs} {fl : List Fl} (h : ∀ f ∈ fl, pr f ∈ m) : midF K m (fts fl) = fts fl ∧ usedF (midU K m (fts fl)) = 0 := by
  have hin : ∀ f ∈ fts fl, isIn m f.nm = true := fun f hf => by
    obtain ⟨g, hg, rfl⟩ := List.mem_map.1 hf
    exact isIn_mem (g := g.fb) (h g hg)
  refine ⟨?_, ?_⟩
  · unfold midF
    conv => rhs; rw [← List.map_id (fts fl)]
    apply List.map_congr_left
    intro f hf
    rw [hin f hf]; rfl
  · have : midU K m (fts fl) = (fts fl).map (fun f => ⟨f.nm, [], 0⟩) := by
      unfold midU
      apply List.map_congr_left
      intro f hf
      rw [hin f hf]; rfl
    rw [this]
    generalize fts fl = l
    induction l with
    | nil => rfl
    | cons x r ih => rw [List.map_cons, used_cons, ih]; rfl
theorem pr_mem {fl : List Fl} (f : Fl) (hf : f ∈ fl) : pr f ∈ fl.map pr := List.mem_map.2 ⟨f, hf, rfl⟩
theorem mid_end (K : Nat) (l : List Ft) : midF K [] l = l.map (crashF K) ∧ midU K [] l = l.map (crashF K) := ⟨rfl, rfl⟩

def crD (K : Nat) (d : Dk) : Dk := ⟨d.fs.map (crashF K), false, d.fuse, false⟩
/-- The number of what is kept, as it is taken. -/
def u64N (n : Int) : Nat := (n % 18446744073709551616).toNat
theorem u64N_lt (n : Int) : u64N n < 18446744073709551616 := by unfold u64N; omega
theorem u64N_wrap (n : Int) : IntKind.u64.wrap n = (u64N n : Int) := by
  unfold u64N
  simp [IntKind.wrap, IntKind.bits, IntKind.signed]
  omega

/-- Where a crash has come to. -/
structure Mid (w wr : World) (db r : Nat) (mv : Value) (fl cur : List Fl) (armed : Bool) (fuse : Int) (dead : Bool) (K : Nat) (todo : Prs) : Prop where
  it : IT wr mv r (fl.map pr) todo
  sub : ∀ p ∈ todo, p ∈ fl.map pr
  at_ : DiskU wr db mv cur (usedF (midU K todo (fts fl)) : Nat) armed fuse dead
  same : cur.map pr = fl.map pr
  files : fts cur = midF K todo (fts fl)
  touch : Touch (Owns db mv fl) w wr
  own : ∀ k, Owns db mv cur k → Owns db mv fl k ∨ w.heap.size ≤ k
  iter : w.heap.size ≤ r

section
variable {w : World} {db : Nat} {S : Nat → Prop} {d : Dk}
set_option maxRecDepth 100000 in
set_option maxHeartbeats 2000000 in
theorem dcrash_any (h : Disky w db S d) (n : Int) :
    Calls Try.prog 14 #[.pointer (some ⟨db, 0, none⟩), .int .i64 n] w fun e w' => e = .returned (.tuple #[]) ∧ Went w w' db S (crD (u64N n) d) := by
  obtain ⟨⟨mv, fl, h1, h2, h3⟩, hlt⟩ := h
  obtain ⟨fs, armed, fuse, dead⟩ := d
  simp only at h1 h2 ⊢
  subst h2
  have hw := u64N_wrap n
  have hKl := u64N_lt n
  generalize u64N n = K at *
  have hap := apart_names h1.apart
  have hus := h1.used
  have c0 : w.cell? ⟨db, 0, none⟩ = some mv := h1.cell 0
  have c1 : w.cell? ⟨db, 1, none⟩ = some (.int .i64 (usedF (fts fl) : Nat)) := h1.cell 1
  have z1 := h1.frozen 1
  have t1 := touch_set w db 1 (.int .i64 0)
  have H1 := hide h1
  have u1 : DiskU (w.setCell ⟨db, 1, none⟩ (.int .i64 0)) db mv fl 0 armed fuse dead := h1.toDiskU.self t1 (heap_set h1.heap 1 _)
  have U1 := hide u1
  have d0 : (w.setCell ⟨db, 1, none⟩ (.int .i64 0)).cell? ⟨db, 0, none⟩ = some mv := u1.cell 0
  have MV : Hid ((mv = .map none ∧ fl.map pr = []) ∨ ∃ mb, mv = .map (some mb) ∧ FM (w.setCell ⟨db, 1, none⟩ (.int .i64 0)) mb (fl.map pr)) := u1.map.imp (fun h => ⟨h.1, by rw [h.2]; rfl⟩) id
  clear h1
  go_enter Try.func14, Try.ntmps14
  go_wp2_with (at_range; refine wpList_itrange _ rfl _ rfl mv (fl.map pr) rfl (unhide MV) ?_)
  intro w2 it2 t2
  have M0 : Hid (Mid w w2 db w.heap.size mv fl fl armed fuse dead K (fl.map pr)) := by
    obtain ⟨e1, e2⟩ := mid_start K (m := fl.map pr) (fl := fl) (fun f hf => pr_mem f hf)
    refine ⟨it2, fun p hp => hp, ?_, rfl, e1.symm, ?_, fun k hk => .inl hk, Nat.le_refl _⟩
    · rw [e2]; exact (unhide U1).keep t2 (fun _ _ h => h)
    · exact (t1.mono (fun k hk => .inl hk)).trans (t2.mono (fun _ h => h.elim))
  clear it2 t2 d0 u1 c0 c1 z1 MV
  go_wp2_with fail
  go_loopw [5] (fun sl wr => ∃ (todo : Prs) (cur : List Fl), Mid w wr db w.heap.size mv fl cur armed fuse dead K todo) (fun _ wr => leftM mv w.heap.size wr)
  case atStart => exact ⟨_, _, unhide M0⟩
  case round =>
    obtain ⟨todo, cur, mid⟩ := hrel
    have MI := hide mid
    clear mid M0
    go_wp2_with (at_next; refine wpList_itnext _ rfl _ rfl mv w.heap.size (fl.map pr) todo rfl (unhide MI).it ?_ ?_)
    · intro htodo
      subst htodo
      have mi := unhide MI
      have z2 := mi.at_.frozen 2
      have z4 := mi.at_.frozen 4
      have b2 : wr.cell? ⟨db, 2, none⟩ = some (.bool armed) := mi.at_.cell 2
      have b4 : wr.cell? ⟨db, 4, none⟩ = some (.bool dead) := mi.at_.cell 4
      have WT : Hid (Went w ((wr.setCell ⟨db, 2, none⟩ (.bool false)).setCell ⟨db, 4, none⟩ (.bool false)) db S (crD K ⟨fts fl, armed, fuse, dead⟩)) := by
        have t := (touch_set wr db 2 (.bool false)).trans (touch_set _ db 4 (.bool false))
        have hu : usedF (fts cur) = usedF (midU K [] (fts fl)) := by rw [mi.files]; rfl
        refine Went.mk' (mv := mv) (fl := fl) (mv' := mv) (fl' := cur) h3 ⟨mi.at_.self t (by rw [hu]; exact heap_set (heap_set mi.at_.heap 2 _) 4 _), ?_, ?_, (unhide H1).lo, (unhide H1).hi, fun e => by cases e⟩ mi.files (mi.touch.trans (t.mono (fun k hk => .inl hk))) mi.own
        · rw [hu]; exact Nat.le_trans (midU_le _ _ _) hus
        · have := congrArg List.length mi.same
          rw [List.length_map, List.length_map] at this
          rw [this]; exact (unhide H1).few
      clear mi MI
      go_wp2
      go_end0
      exact ⟨rfl, unhide WT⟩
    · intro s g w3 hsg hsl it3 hl3 t3 hen
      have mi := unhide MI
      obtain ⟨f0, hf0, e0⟩ := List.mem_map.1 (mi.sub _ hsg)
      obtain ⟨f, hf, ef⟩ := List.mem_map.1 (show (s, g) ∈ cur.map pr by rw [mi.same]; exact mi.sub _ hsg)
      have es : f.nm = s := by have := congrArg Prod.fst ef; exact this
      have eg : f.fb = g := by have := congrArg Prod.snd ef; exact this
      have es0 : f0.nm = s := by have := congrArg Prod.fst e0; exact this
      have hin : isIn todo s = true := isIn_mem hsg
      -- the file is as it was
      have ff0 : f.toFt = f0.toFt := by
        have h1 : f.toFt ∈ midF K todo (fts fl) := by rw [← mi.files]; exact List.mem_map.2 ⟨f, hf, rfl⟩
        obtain ⟨x, hx, ex⟩ := List.mem_map.1 h1
        have enx : x.nm = s := by
          have : (if isIn todo x.nm then x else crashF K x).nm = f.toFt.nm := by rw [ex]
          have h2 : (if isIn todo x.nm then x else crashF K x).nm = x.nm := by split <;> rfl
          rw [h2] at this
          rw [this]; exact es
        rw [enx, hin] at ex
        have : x = f.toFt := ex
        rw [← this]
        obtain ⟨y, hy, rfl⟩ := List.mem_map.1 hx
        have : y = f0 := name_one (unhide H1).apart hy hf0 (by rw [es0]; exact enx)
        rw [this]
      have hrn : ∀ k, Owns db mv cur k → k ≠ w.heap.size := fun k hk e => by
        rcases hk with h | h | ⟨x, hx, h | h⟩
        · exact mi.it.not_cells mi.at_.heap (by rw [← e, h])
        · rcases mi.at_.map with ⟨e1, _⟩ | ⟨mb, e1, hm⟩
          · rw [h] at e1; cases e1
          · rw [h] at e1; cases e1
            obtain ⟨es, cl, hb⟩ := hm.block
            rcases mi.it with ⟨e2, _⟩ | ⟨b, e2, hrg⟩
            · rw [h] at e2; cases e2
            · obtain ⟨_, _, _, _, hi⟩ := hrg.iter
              rw [← e, hb] at hi; cases hi
        · exact mi.it.not_cells (mi.at_.each x hx).heap (by rw [← e, h])
        · obtain ⟨cs, hc⟩ := row_heap (mi.at_.each x hx).row h
          exact mi.it.not_cells hc e.symm
      have at3 := mi.at_.keep t3 (fun k hk => hrn k hk)
      have hat := at3.each f hf
      have hfu : f.text.length ≤ 4194304 := by
        have h1 : f0.toFt ∈ fts fl := List.mem_map.2 ⟨f0, hf0, rfl⟩
        have := used_mem h1
        have e : f.text.length = f0.toFt.text.length := by rw [← ff0]
        omega
      have CR := crash_any hat K hKl hfu
      rw [eg] at CR
      have CRH := hide CR
      have AT3 := hide at3
      have IT3 := hide it3
      have HL3 := hide hl3
      have T3 := hide t3
      have hcc : (crashF K f.toFt).text.length = (f.text.take (crashN K f.toFt)).length := rfl
      obtain ⟨L, hL⟩ : ∃ L, L = (crashF K f.toFt).text.length := ⟨_, rfl⟩
      have hLu := midU_step K todo hap (List.mem_map.2 ⟨f0, hf0, rfl⟩ : f0.toFt ∈ fts fl) (by show isIn todo f0.nm = true; rw [es0]; exact hin)
      have hLu2 : usedF (midU K (del todo s) (fts fl)) = usedF (midU K todo (fts fl)) + L := by
        have e : f0.toFt.nm = s := es0
        rw [e] at hLu
        rw [hLu, hL, ff0]
      have hLe := midU_le K (del todo s) (fts fl)
      clear CR at3 it3 hl3 hat mi
      go_wp2_with fail
      refine (unhide CRH).mono ?_
      rintro e w4 ⟨rfl, f', to4, et4⟩
      have hne := (unhide AT3).db_ne hf
      have hdb4 := to4.touch.keep (unhide AT3).heap (fun e => hne e.symm)
      have b1 : w4.cell? ⟨db, 1, none⟩ = some (.int .i64 (usedF (midU K todo (fts fl)) : Nat)) := cell_of hdb4 1
      have y1 := frozen_of hdb4 1
      obtain ⟨a4, c4, ev4, _⟩ := to4.at_.row.parts
      have hfl4 : f'.text.length = L := by
        have := congrArg Ft.text et4
        rw [hL, ← this]
      have x0 : w4.cell? ⟨g, 0, none⟩ = some (.slice a4 L c4) := by
        have := to4.at_.cell0
        rw [to4.fb, eg, ev4, hfl4] at this
        exact this
      have hsum : IntKind.i64.wrap ((usedF (midU K todo (fts fl)) : Int) + (L : Int)) = (usedF (midU K todo (fts fl)) : Int) + (L : Int) := by simp [IntKind.wrap, IntKind.bits, IntKind.signed]; omega
      have NX : Hid (Mid w (w4.setCell ⟨db, 1, none⟩ (.int .i64 ((usedF (midU K todo (fts fl)) : Int) + (L : Int)))).drew db w.heap.size mv fl (swap cur f') armed fuse dead K (del todo s) ∧ leftM mv w.heap.size (w4.setCell ⟨db, 1, none⟩ (.int .i64 ((usedF (midU K todo (fts fl)) : Int) + (L : Int)))).drew < leftM mv w.heap.size wr) := by
        have mi := unhide MI
        have tdb : Touch (· = db) w4 (w4.setCell ⟨db, 1, none⟩ (.int .i64 ((usedF (midU K todo (fts fl)) : Int) + (L : Int)))).drew := (touch_set w4 db 1 _).drew
        have hdbne : db ≠ w.heap.size := fun e => by have := lt_of_heap (unhide H1).heap; omega
        have hgne : f.fb ≠ w.heap.size := (unhide IT3).not_cells ((unhide AT3).each f hf).heap |>.symm
        have hmb : ∀ b, mv = .map (some b) → b ≠ f.fb ∧ b ≠ db := fun b hb => ⟨fun e => (unhide AT3).map_ne hb |>.2.1 f hf e.symm, ((unhide AT3).map_ne hb).1⟩
        obtain ⟨i1, l1⟩ := (unhide IT3).keep to4.touch (fun e => hgne e.symm) (fun b hb e => (hmb b hb).1 e)
        obtain ⟨i2, l2⟩ := i1.keep tdb (fun e => hdbne e.symm) (fun b hb e => (hmb b hb).2 e)
        have rowne : ∀ k, f'.v.ownBlock = some k → k ≠ db := fun k hk e => by
          rcases to4.row k hk with h | h
          · exact (unhide AT3).row_ne_db hf k h e
          · have := lt_of_heap (unhide AT3).heap; omega
        have tt : Touch (fun k => k = db ∨ k = f.fb ∨ f.v.ownBlock = some k) w3 (w4.setCell ⟨db, 1, none⟩ (.int .i64 ((usedF (midU K todo (fts fl)) : Int) + (L : Int)))).drew := (to4.touch.mono (fun k hk => .inr (.inl hk))).trans (tdb.mono (fun k hk => .inl hk))
        refine ⟨⟨i2, fun p hp => mi.sub p (del_not hp).1, ?_, ?_, ?_, ?_, ?_, Nat.le_refl _⟩, by rw [l2, l1]; exact unhide HL3⟩
        · refine (unhide AT3).change hf to4.nm to4.fb (to4.at_.keep tdb (by rw [to4.fb]; exact hne) rowne) tt to4.row ?_
          rw [hLu2]
          exact heap_set hdb4 1 _
        · rw [swap_pr mi.at_.apart hf to4.nm to4.fb, mi.same]
        · have e : f0.toFt.nm = s := es0
          rw [fts_swap, mi.files, et4, ff0, ← e]
          exact (mid_step K todo hap (List.mem_map.2 ⟨f0, hf0, rfl⟩)).symm
        · refine touch_more (touch_more mi.touch (unhide T3) (fun k hk => .inr (by omega))) tt (fun k hk => ?_)
          rcases hk with e | e | e
          · exact .inl (.inl e)
          · exact mi.own k (.inr (.inr ⟨f, hf, .inl e⟩))
          · exact mi.own k (.inr (.inr ⟨f, hf, .inr e⟩))
        · intro k hk
          rcases owns_swap (n := w3.heap.size) mi.at_.apart hf to4.nm to4.fb to4.row k hk with e | e
          · exact mi.own k e
          · exact .inr (Nat.le_trans mi.touch.size (Nat.le_trans (unhide T3).size e))
      clear to4 et4 hdb4 ev4 hfl4 CRH AT3 IT3 HL3 T3 MI hLu2 hLu hcc hL
      go_wp2_with fail
      go_region
      all_goals
        go_wp2
        go_roundw
        case rel => exact ⟨_, _, (unhide NX).1⟩
        case measure => exact (unhide NX).2
end
end Go.Proofs.Ytfdpnfeaagijhaa
