/-
  Sync, Read, Size, Remove, Arm, Dead and New of a disk. Conditions: names are at most 2^62 bytes.
-/
import Derived.Test.YtcnmenfianeakacDk4
namespace Go.Proofs.Ytcnmenfianeakac
open Go.RowKit Go.Maps
set_option linter.unusedVariables false

theorem dnew_any (w : World) :
    Calls Try.prog 6 #[] w fun e w' => e = .returned (.pointer (some ⟨w.heap.size, 0, none⟩)) ∧ Went w w' w.heap.size (fun _ => False) ⟨[], false, 0, false⟩ := by
  have F : Hid (Went w (w.alloc (.cells #[.map none, .int .i64 0, .bool false, .int .i64 0, .bool false] 44)) w.heap.size (fun _ => False) ⟨[], false, 0, false⟩) := by
    refine ⟨fun k => k = w.heap.size, ⟨⟨.map none, [], ⟨⟨heap_new _ _, .inl ⟨rfl, rfl⟩, (fun f hf => by cases hf), List.Pairwise.nil⟩, by simp [usedF], by simp, by simp, by simp, fun h => by cases h⟩, rfl, ?_⟩, fun k hk => by rw [hk]; simp⟩, (Touch.refl _ _).alloc _, fun k hk => .inr (by omega)⟩
    rintro k (e | e | ⟨g, hg, _⟩)
    · exact e
    · cases e
    · cases hg
  go_enter Try.func6, Try.ntmps6
  go_wp2
  go_returns
  exact ⟨rfl, unhide F⟩

section
variable {w : World} {db : Nat} {mv : Value} {fl : List Fl} {armed dead : Bool} {fuse : Int} {f : Fl}
/-- So many of a file's bytes last. -/
theorem DiskAt.lasts (h : DiskAt w db mv fl armed fuse dead) (hf : f ∈ fl) {n : Nat} (hn : n ≤ f.text.length) :
    DiskAt (w.setCell ⟨f.fb, 1, none⟩ (.int .i64 (n : Nat))) db mv (swap fl { f with last := n }) armed fuse dead ∧ Touch (Owns db mv fl) w (w.setCell ⟨f.fb, 1, none⟩ (.int .i64 (n : Nat))) ∧ ∀ k, Owns db mv (swap fl { f with last := n }) k → Owns db mv fl k ∨ w.heap.size ≤ k := by
  have hat := h.each f hf
  have hne := h.db_ne hf
  have t1 := touch_set w f.fb 1 (.int .i64 (n : Nat))
  have hu : usedF (fts (swap fl { f with last := n })) = usedF (fts fl) := by
    have := used_swapF (f' := (⟨f.nm, f.text, n⟩ : Ft)) (apart_names h.apart) (List.mem_map.2 ⟨f, hf, rfl⟩ : f.toFt ∈ fts fl) rfl
    rw [fts_swap]
    simp only at this ⊢
    omega
  refine ⟨⟨h.toDiskU.change (f' := { f with last := n }) hf rfl rfl ⟨heap_set hat.heap 1 _, hat.row.keep t1 (fun k hk e => hat.row_ne k hk e), hn, hat.name⟩ (t1.mono (fun k hk => .inr (.inl hk))) (fun k hk => .inl hk) (by rw [hu]; exact t1.keep h.heap (fun e => hne e.symm)), by rw [hu]; exact h.used, by rw [swap_len]; exact h.few, h.lo, h.hi, h.arm⟩, t1.mono (fun k hk => .inr (.inr ⟨f, hf, .inl hk⟩)), owns_swap (f' := { f with last := n }) h.apart hf rfl rfl (fun k hk => .inl hk)⟩
end

def syncF (l : List Ft) (s : ByteArray) : List Ft :=
  match ftOf l s with
  | some f => swapF l { f with last := f.text.length }
  | none => l
def syD (d : Dk) (s : ByteArray) : Dk := if findE d.dead d.fs s = 0 then { d with fs := syncF d.fs s } else d
def rdF (d : Dk) (s : ByteArray) : Ft := if findE d.dead d.fs s = 0 then (ftOf d.fs s).getD ⟨s, [], 0⟩ else ⟨s, [], 0⟩
def rmD (d : Dk) (s : ByteArray) : Dk := if findE d.dead d.fs s = 0 then { d with fs := withoutF d.fs s } else d
def armD (d : Dk) (n : Int) : Dk := if d.dead then d else { d with armed := decide (0 ≤ n), fuse := n }

section
variable {w : World} {db : Nat} {S : Nat → Prop} {d : Dk} {s : ByteArray}

set_option maxRecDepth 100000 in
theorem dsync_any (h : Disky w db S d) (hs : s.size ≤ maxLen) :
    Calls Try.prog 27 #[.pointer (some ⟨db, 0, none⟩), .string s] w fun e w' => e = .returned (.int .i64 (findE d.dead d.fs s : Nat)) ∧ Went w w' db S (syD d s) := by
  have HW := hide (Went.same h (Touch.refl _ w))
  obtain ⟨⟨mv, fl, h1, h2, h3⟩, hlt⟩ := h
  obtain ⟨fs, armed, fuse, dead⟩ := d
  simp only at h1 h2 ⊢
  subst h2
  have FD := hide (find_any h1 hs)
  by_cases hE : findE dead (fts fl) s = 0
  · obtain ⟨rfl, hnm, f, hf, rfl, hfo, hG⟩ := find_zero hE
    have e1 : syD ⟨fts fl, armed, fuse, false⟩ f.nm = ⟨swapF (fts fl) { f.toFt with last := f.text.length }, armed, fuse, false⟩ := by
      unfold syD syncF
      rw [if_pos hE, ft_fileOf, hfo]; rfl
    rw [e1]
    rw [hE, hG] at FD
    rw [hE]
    simp only [ptrV] at FD
    have hat := h1.each f hf
    obtain ⟨av, cv, ev, _⟩ := hat.row.parts
    have x0 : w.cell? ⟨f.fb, 0, none⟩ = some (.slice av f.text.length cv) := by rw [← ev]; exact hat.cell0
    have x1 := hat.cell1
    have y1 := hat.frozen 1
    obtain ⟨dA, tA, oA⟩ := h1.lasts hf (Nat.le_refl _)
    have WT : Hid (Went w (w.setCell ⟨f.fb, 1, none⟩ (.int .i64 (f.text.length : Nat))) db S ⟨swapF (fts fl) { f.toFt with last := f.text.length }, armed, fuse, false⟩) := Went.mk' (mv := mv) (fl := fl) h3 dA (by rw [fts_swap]) tA oA
    clear h1 dA tA oA hat ev e1 hE hG hfo HW hlt
    go_enter Try.func27, Try.ntmps27
    go_wp2_with fail
    refine (unhide FD).mono ?_
    rintro e w1 ⟨rfl, rfl⟩
    go_wp2
    go_returns
    exact ⟨rfl, unhide WT⟩
  · have e1 : syD ⟨fts fl, armed, fuse, dead⟩ s = ⟨fts fl, armed, fuse, dead⟩ := by unfold syD; rw [if_neg hE]
    rw [e1]
    clear h1 e1
    generalize findE dead (fts fl) s = E at *
    generalize findG dead fl s = G at *
    have q1 : ((E : Int) != 0) = true := by rw [bne_iff_ne]; omega
    have q2 : ¬ (E : Int) = 0 := by omega
    cases G <;> simp only [ptrV] at FD
    all_goals
      go_enter Try.func27, Try.ntmps27
      go_wp2_with fail
      refine (unhide FD).mono ?_
      rintro e w1 ⟨rfl, rfl⟩
      go_wp2
      go_returns
      exact ⟨rfl, unhide HW⟩
theorem dsync_nil (s : ByteArray) (w : World) :
    Calls Try.prog 27 #[.pointer none, .string s] w fun e w' => e = .returned (.int .i64 5) ∧ w' = w := by
  go_enter Try.func27, Try.ntmps27
  go_wp2_with fail
  refine (find_nil s w).mono ?_
  rintro e w1 ⟨rfl, rfl⟩
  go_wp2
  go_returns
  exact ⟨rfl, rfl⟩

set_option maxRecDepth 100000 in
theorem dread_any (h : Disky w db S d) (hs : s.size ≤ maxLen) :
    Calls Try.prog 28 #[.pointer (some ⟨db, 0, none⟩), .string s] w fun e w' => ∃ v, e = .returned (.tuple #[v, .int .i64 (findE d.dead d.fs s : Nat)]) ∧ Fresh5 w w' v (rdF d s).text := by
  obtain ⟨⟨mv, fl, h1, h2, h3⟩, hlt⟩ := h
  obtain ⟨fs, armed, fuse, dead⟩ := d
  simp only at h1 h2 ⊢
  subst h2
  have FD := hide (find_any h1 hs)
  by_cases hE : findE dead (fts fl) s = 0
  · obtain ⟨rfl, hnm, f, hf, rfl, hfo, hG⟩ := find_zero hE
    have e1 : (rdF ⟨fts fl, armed, fuse, false⟩ f.nm).text = f.text := by
      unfold rdF
      rw [if_pos hE, ft_fileOf, hfo]; rfl
    rw [e1]
    rw [hE, hG] at FD
    rw [hE]
    simp only [ptrV] at FD
    have hat := h1.each f hf
    have hfu : f.text.length ≤ usedF (fts fl) := used_mem (List.mem_map.2 ⟨f, hf, rfl⟩ : f.toFt ∈ fts fl)
    have hus := h1.used
    obtain ⟨av, cv, ev, lv, _, _, hnv, _⟩ := hat.row.parts
    have x0 : w.cell? ⟨f.fb, 0, none⟩ = some (.slice av f.text.length cv) := by rw [← ev]; exact hat.cell0
    have CL := hide (clone_any av f.text cv w lv hnv (by omega))
    clear h1 hat ev e1 hE hG hfo hlt lv hnv
    go_enter Try.func28, Try.ntmps28
    go_wp2_with fail
    refine (unhide FD).mono ?_
    rintro e w1 ⟨rfl, rfl⟩
    go_wp2_with fail
    refine (unhide CL).mono ?_
    rintro e w2 ⟨v2, rfl, r2, n2, b2⟩
    have F : Hid (Fresh5 w1 w2 v2 f.text) := ⟨r2, n2, b2⟩
    obtain ⟨a2, m2, c2, rfl⟩ := r2.shape
    clear r2 n2 b2 CL
    go_wp2
    go_returns
    exact ⟨_, rfl, unhide F⟩
  · have e1 : (rdF ⟨fts fl, armed, fuse, dead⟩ s).text = [] := by unfold rdF; rw [if_neg hE]
    rw [e1]
    clear h1 e1
    generalize findE dead (fts fl) s = E at *
    generalize findG dead fl s = G at *
    have q1 : ((E : Int) != 0) = true := by rw [bne_iff_ne]; omega
    have q2 : ¬ (E : Int) = 0 := by omega
    cases G <;> simp only [ptrV] at FD
    all_goals
      go_enter Try.func28, Try.ntmps28
      go_wp2_with fail
      refine (unhide FD).mono ?_
      rintro e w1 ⟨rfl, rfl⟩
      go_wp2
      go_returns
      exact ⟨_, rfl, Row.nil _, New.nil _, Below.refl _ _⟩
theorem dread_nil (s : ByteArray) (w : World) :
    Calls Try.prog 28 #[.pointer none, .string s] w fun e w' => e = .returned (.tuple #[.slice none 0 0, .int .i64 5]) ∧ w' = w := by
  go_enter Try.func28, Try.ntmps28
  go_wp2_with fail
  refine (find_nil s w).mono ?_
  rintro e w1 ⟨rfl, rfl⟩
  go_wp2
  go_returns
  exact ⟨rfl, rfl⟩

set_option maxRecDepth 100000 in
theorem dsize_any (h : Disky w db S d) (hs : s.size ≤ maxLen) :
    Calls Try.prog 39 #[.pointer (some ⟨db, 0, none⟩), .string s] w fun e w' => e = .returned (.tuple #[.int .i64 ((rdF d s).text.length : Nat), .int .i64 ((rdF d s).last : Nat), .int .i64 (findE d.dead d.fs s : Nat)]) ∧ ∃ n, w' = w.drewN n := by
  obtain ⟨⟨mv, fl, h1, h2, h3⟩, hlt⟩ := h
  obtain ⟨fs, armed, fuse, dead⟩ := d
  simp only at h1 h2 ⊢
  subst h2
  have FD := hide (find_any h1 hs)
  by_cases hE : findE dead (fts fl) s = 0
  · obtain ⟨rfl, hnm, f, hf, rfl, hfo, hG⟩ := find_zero hE
    have e1 : rdF ⟨fts fl, armed, fuse, false⟩ f.nm = f.toFt := by
      unfold rdF
      rw [if_pos hE, ft_fileOf, hfo]; rfl
    rw [e1]
    rw [hE, hG] at FD
    rw [hE]
    simp only [ptrV] at FD
    have hat := h1.each f hf
    obtain ⟨av, cv, ev, lv, _, _, hnv, _⟩ := hat.row.parts
    have x0 : w.cell? ⟨f.fb, 0, none⟩ = some (.slice av f.text.length cv) := by rw [← ev]; exact hat.cell0
    have x1 := hat.cell1
    clear h1 hat ev e1 hE hG hfo hlt lv hnv
    go_enter Try.func39, Try.ntmps39
    go_wp2_with fail
    refine (unhide FD).mono ?_
    rintro e w1 ⟨rfl, rfl⟩
    go_wp2_with fail
    go_quiet (fail)
    go_wp2
    go_returns
    exact ⟨rfl, nq, rfl⟩
  · have e1 : rdF ⟨fts fl, armed, fuse, dead⟩ s = ⟨s, [], 0⟩ := by unfold rdF; rw [if_neg hE]
    rw [e1]
    clear h1 e1
    generalize findE dead (fts fl) s = E at *
    generalize findG dead fl s = G at *
    have q1 : ((E : Int) != 0) = true := by rw [bne_iff_ne]; omega
    have q2 : ¬ (E : Int) = 0 := by omega
    cases G <;> simp only [ptrV] at FD
    all_goals
      go_enter Try.func39, Try.ntmps39
      go_wp2_with fail
      refine (unhide FD).mono ?_
      rintro e w1 ⟨rfl, rfl⟩
      go_wp2
      go_returns
      exact ⟨rfl, 0, rfl⟩
theorem dsize_nil (s : ByteArray) (w : World) :
    Calls Try.prog 39 #[.pointer none, .string s] w fun e w' => e = .returned (.tuple #[.int .i64 0, .int .i64 0, .int .i64 5]) ∧ w' = w := by
  go_enter Try.func39, Try.ntmps39
  go_wp2_with fail
  refine (find_nil s w).mono ?_
  rintro e w1 ⟨rfl, rfl⟩
  go_wp2
  go_returns
  exact ⟨rfl, rfl⟩

set_option maxRecDepth 100000 in
theorem dremove_any (h : Disky w db S d) (hs : s.size ≤ maxLen) :
    Calls Try.prog 31 #[.pointer (some ⟨db, 0, none⟩), .string s] w fun e w' => e = .returned (.int .i64 (findE d.dead d.fs s : Nat)) ∧ Went w w' db S (rmD d s) := by
  have HW := hide (Went.same h (Touch.refl _ w))
  obtain ⟨⟨mv, fl, h1, h2, h3⟩, hlt⟩ := h
  obtain ⟨fs, armed, fuse, dead⟩ := d
  simp only at h1 h2 ⊢
  subst h2
  have FD := hide (find_any h1 hs)
  by_cases hE : findE dead (fts fl) s = 0
  · obtain ⟨rfl, hnm, f, hf, rfl, hfo, hG⟩ := find_zero hE
    have e1 : rmD ⟨fts fl, armed, fuse, false⟩ f.nm = ⟨withoutF (fts fl) f.nm, armed, fuse, false⟩ := by unfold rmD; rw [if_pos hE]
    rw [e1]
    rw [hE, hG] at FD
    rw [hE]
    simp only [ptrV] at FD
    have DR := hide (drop_any h1 hs)
    have WT : Hid (∀ w', DropTo w w' db mv fl armed fuse false f.nm → Went w w' db S ⟨withoutF (fts fl) f.nm, armed, fuse, false⟩) := fun w' hd => Went.mk' (mv := mv) (fl := fl) h3 hd.1 (fts_without _ _) (hd.2.mono (fun k hk => hk.imp id .inl)) (fun k hk => .inl (owns_without k hk))
    clear h1 e1 hE hG hfo HW hlt
    go_enter Try.func31, Try.ntmps31
    go_wp2_with fail
    refine (unhide FD).mono ?_
    rintro e w1 ⟨rfl, rfl⟩
    go_wp2_with fail
    refine (unhide DR).mono ?_
    rintro e w2 ⟨rfl, hd⟩
    have WW := hide (unhide WT w2 hd)
    clear hd DR
    go_wp2
    go_returns
    exact ⟨rfl, unhide WW⟩
  · have e1 : rmD ⟨fts fl, armed, fuse, dead⟩ s = ⟨fts fl, armed, fuse, dead⟩ := by unfold rmD; rw [if_neg hE]
    rw [e1]
    clear h1 e1
    generalize findE dead (fts fl) s = E at *
    generalize findG dead fl s = G at *
    have q1 : ((E : Int) != 0) = true := by rw [bne_iff_ne]; omega
    have q2 : ¬ (E : Int) = 0 := by omega
    cases G <;> simp only [ptrV] at FD
    all_goals
      go_enter Try.func31, Try.ntmps31
      go_wp2_with fail
      refine (unhide FD).mono ?_
      rintro e w1 ⟨rfl, rfl⟩
      go_wp2
      go_returns
      exact ⟨rfl, unhide HW⟩
theorem dremove_nil (s : ByteArray) (w : World) :
    Calls Try.prog 31 #[.pointer none, .string s] w fun e w' => e = .returned (.int .i64 5) ∧ w' = w := by
  go_enter Try.func31, Try.ntmps31
  go_wp2_with fail
  refine (find_nil s w).mono ?_
  rintro e w1 ⟨rfl, rfl⟩
  go_wp2
  go_returns
  exact ⟨rfl, rfl⟩

set_option maxRecDepth 100000 in
theorem darm_any (h : Disky w db S d) (n : Int) (hlo : -9223372036854775808 ≤ n) (hhi : n ≤ 9223372036854775807) :
    Calls Try.prog 13 #[.pointer (some ⟨db, 0, none⟩), .int .i64 n] w fun e w' => e = .returned (.tuple #[]) ∧ Went w w' db S (armD d n) := by
  have HW := hide (Went.same h (Touch.refl _ w))
  obtain ⟨⟨mv, fl, h1, h2, h3⟩, hlt⟩ := h
  obtain ⟨fs, armed, fuse, dead⟩ := d
  simp only at h1 h2 ⊢
  subst h2
  have WK := hide (working_any h1)
  cases dead
  · have e1 : armD ⟨fts fl, armed, fuse, false⟩ n = ⟨fts fl, decide (0 ≤ n), n, false⟩ := rfl
    rw [e1]
    have z2 := h1.frozen 2
    have z3 := h1.frozen 3
    have c2 : w.cell? ⟨db, 2, none⟩ = some (.bool armed) := h1.cell 2
    have c3 : w.cell? ⟨db, 3, none⟩ = some (.int .i64 fuse) := h1.cell 3
    have WT : Hid (Went w ((w.setCell ⟨db, 2, none⟩ (.bool (decide (0 ≤ n)))).setCell ⟨db, 3, none⟩ (.int .i64 n)) db S ⟨fts fl, decide (0 ≤ n), n, false⟩) := by
      have t := (touch_set w db 2 (.bool (decide (0 ≤ n)))).trans (touch_set _ db 3 (.int .i64 n))
      exact Went.mk' (mv := mv) (fl := fl) h3 ⟨h1.toDiskU.self t (heap_set (heap_set h1.heap 2 _) 3 _), h1.used, h1.few, hlo, hhi, fun e => of_decide_eq_true e⟩ rfl (t.mono (fun k hk => .inl hk)) (fun k hk => .inl hk)
    clear h1 e1 HW hlt
    go_enter Try.func13, Try.ntmps13
    go_wp2_with fail
    refine (unhide WK).mono ?_
    rintro e w1 ⟨rfl, rfl⟩
    go_wp2
    go_end0
    exact ⟨rfl, unhide WT⟩
  · clear h1
    go_enter Try.func13, Try.ntmps13
    go_wp2_with fail
    refine (unhide WK).mono ?_
    rintro e w1 ⟨rfl, rfl⟩
    go_wp2
    go_returns
    exact ⟨rfl, unhide HW⟩
theorem darm_nil (n : Int) (w : World) :
    Calls Try.prog 13 #[.pointer none, .int .i64 n] w fun e w' => e = .returned (.tuple #[]) ∧ w' = w := by
  go_enter Try.func13, Try.ntmps13
  go_wp2_with fail
  refine (working_nil w).mono ?_
  rintro e w1 ⟨rfl, rfl⟩
  go_wp2
  go_returns
  exact ⟨rfl, rfl⟩
end
end Go.Proofs.Ytcnmenfianeakac
