/-
  What a disk becomes: one file is another, one is there more, one is gone; and the inner calls burn, add, drop, keep and crash. Conditions: what the disk is.
-/
import Derived.Test.YtfdpnfeaagijhaaDk0
import Derived.Test.YtfdpnfeaagijhaaWr
import Derived.BigQuiet
import Derived.Deep.RegionLaw

namespace Go.Proofs.Ytfdpnfeaagijhaa
open Go.RowKit
set_option linter.unusedVariables false

/-- One file in the place of that of its name. -/
def swap (fl : List Fl) (f : Fl) : List Fl := fl.map (fun g => if g.nm = f.nm then f else g)
def swapF (l : List Ft) (f : Ft) : List Ft := l.map (fun g => if g.nm = f.nm then f else g)
theorem fts_swap (fl : List Fl) (f : Fl) : fts (swap fl f) = swapF (fts fl) f.toFt := by
  unfold swap swapF fts
  rw [List.map_map, List.map_map]
  apply List.map_congr_left
  intro g _
  show (if g.nm = f.nm then f else g).toFt = if g.nm = f.nm then f.toFt else g.toFt
  split <;> rfl
theorem name_one {fl : List Fl} (ha : fl.Pairwise Apart) {f g : Fl} (hf : f ∈ fl) (hg : g ∈ fl) (e : f.nm = g.nm) : f = g := by
  induction fl with
  | nil => cases hf
  | cons x r ih =>
    obtain ⟨h1, h2⟩ := List.pairwise_cons.1 ha
    rcases List.mem_cons.1 hf with rfl | hf' <;> rcases List.mem_cons.1 hg with rfl | hg'
    · rfl
    · exact absurd e (h1 g hg').1
    · exact absurd e.symm (h1 f hf').1
    · exact ih h2 hf' hg'
theorem pair_apart {fl : List Fl} (ha : fl.Pairwise Apart) {f g : Fl} (hf : f ∈ fl) (hg : g ∈ fl) (e : f.nm ≠ g.nm) : Apart f g := by
  induction fl with
  | nil => cases hf
  | cons x r ih =>
    obtain ⟨h1, h2⟩ := List.pairwise_cons.1 ha
    rcases List.mem_cons.1 hf with rfl | hf' <;> rcases List.mem_cons.1 hg with rfl | hg'
    · exact absurd rfl e
    · exact h1 g hg'
    · exact (h1 f hf').symm
    · exact ih h2 hf' hg'
theorem fileOf_mem {fl : List Fl} (ha : fl.Pairwise Apart) {f : Fl} (hf : f ∈ fl) : fileOf fl f.nm = some f := by
  cases e : fileOf fl f.nm with
  | none => unfold fileOf at e; rw [List.find?_eq_none] at e; exact absurd (e f hf) (by simp)
  | some g => obtain ⟨h1, h2⟩ := fileOf_some e; rw [name_one ha h1 hf h2]
theorem swap_pr {fl : List Fl} (ha : fl.Pairwise Apart) {f f' : Fl} (hf : f ∈ fl) (h1 : f'.nm = f.nm) (h2 : f'.fb = f.fb) : (swap fl f').map pr = fl.map pr := by
  unfold swap
  rw [List.map_map]
  apply List.map_congr_left
  intro g hg
  show pr (if g.nm = f'.nm then f' else g) = pr g
  split
  · rename_i e
    have := name_one ha hg hf (by rw [e, h1])
    subst this
    show (f'.nm, f'.fb) = (g.nm, g.fb)
    rw [h1, h2]
  · rfl
theorem swap_len (fl : List Fl) (f : Fl) : (swap fl f).length = fl.length := by simp [swap]
theorem used_swapF {l : List Ft} {f f' : Ft} (ha : l.Pairwise (fun a b => a.nm ≠ b.nm)) (hf : f ∈ l) (h1 : f'.nm = f.nm) : usedF (swapF l f') + f.text.length = usedF l + f'.text.length := by
  induction l with
  | nil => cases hf
  | cons x r ih =>
    obtain ⟨h2, h3⟩ := List.pairwise_cons.1 ha
    unfold swapF usedF at *
    simp only [List.map_cons, List.sum_cons]
    by_cases hx : x.nm = f'.nm
    · have hfx : f = x := by
        rcases List.mem_cons.1 hf with e | e
        · exact e
        · exact absurd (hx.trans h1) (h2 f e)
      subst hfx
      have : List.map (fun g => if g.nm = f'.nm then f' else g) r = r := by
        conv => rhs; rw [← List.map_id r]
        apply List.map_congr_left
        intro g hg
        rw [if_neg (fun e => h2 g hg (hx.trans e.symm))]; rfl
      rw [this, if_pos hx]
      omega
    · have hfr : f ∈ r := by
        rcases List.mem_cons.1 hf with e | e
        · subst e; exact absurd h1.symm hx
        · exact e
      have := ih h3 hfr
      rw [if_neg hx]
      omega
theorem apart_names {fl : List Fl} (ha : fl.Pairwise Apart) : (fts fl).Pairwise (fun a b => a.nm ≠ b.nm) := by
  unfold fts
  rw [List.pairwise_map]; exact ha.imp (fun h => h.1)

section
variable {w w' : World} {db : Nat} {mv : Value} {fl : List Fl} {armed dead armed' dead' : Bool} {fuse u fuse' u' : Int} {f f' : Fl}

/-- The kinds of blocks are apart. -/
theorem DiskU.db_ne (h : DiskU w db mv fl u armed fuse dead) (hf : f ∈ fl) : f.fb ≠ db := fun e => by
  have h1 := (h.each f hf).heap
  rw [e, h.heap] at h1
  simp at h1
theorem DiskU.row_ne_db (h : DiskU w db mv fl u armed fuse dead) (hf : f ∈ fl) : ∀ k, f.v.ownBlock = some k → k ≠ db := fun k hk e => by
  obtain ⟨cs, h1⟩ := row_heap (h.each f hf).row hk
  rw [e, h.heap] at h1
  simp at h1
theorem DiskU.row_ne_fb (h : DiskU w db mv fl u armed fuse dead) {g : Fl} (hf : f ∈ fl) (hg : g ∈ fl) : ∀ k, f.v.ownBlock = some k → k ≠ g.fb := fun k hk e => by
  obtain ⟨cs, h1⟩ := row_heap (h.each f hf).row hk
  rw [e, (h.each g hg).heap] at h1
  simp at h1
theorem DiskU.map_ne (h : DiskU w db mv fl u armed fuse dead) {mb : Nat} (hm : mv = .map (some mb)) : mb ≠ db ∧ (∀ f ∈ fl, f.fb ≠ mb) ∧ (∀ f ∈ fl, ∀ k, f.v.ownBlock = some k → k ≠ mb) := by
  rcases h.map with ⟨e1, _⟩ | ⟨mb', e1, hm'⟩
  · rw [hm] at e1; cases e1
  · rw [hm] at e1; cases e1
    obtain ⟨es, cl, hb⟩ := hm'.block
    refine ⟨fun e => ?_, fun f hf e => ?_, fun f hf k hk e => ?_⟩
    · rw [e, h.heap] at hb; cases hb
    · have := (h.each f hf).heap; rw [e, hb] at this; cases this
    · obtain ⟨cs, h1⟩ := row_heap (h.each f hf).row hk
      rw [e, hb] at h1; cases h1

/-- One file is another, and the disk's own block is written. -/
theorem DiskU.change (h : DiskU w db mv fl u armed fuse dead) (hf : f ∈ fl) (h1 : f'.nm = f.nm) (h2 : f'.fb = f.fb) (hat : FileAt w' f') (t : Touch (fun k => k = db ∨ k = f.fb ∨ f.v.ownBlock = some k) w w')
    (hmv : ∀ k, f'.v.ownBlock = some k → f.v.ownBlock = some k ∨ w.heap.size ≤ k) (hh : w'.heap[db]? = some (.cells #[mv, .int .i64 u', .bool armed', .int .i64 fuse', .bool dead'] 38)) : DiskU w' db mv (swap fl f') u' armed' fuse' dead' := by
  have old : ∀ g ∈ fl, g.nm ≠ f.nm → FileAt w' g := fun g hg hne => by
    have ap := pair_apart h.apart hg hf hne
    refine (h.each g hg).keep t ?_ ?_
    · rintro (e | e | e)
      · exact h.db_ne hg e
      · exact ap.2.1 e
      · exact h.row_ne_fb hf hg _ e rfl
    · rintro k hk (e | e | e)
      · exact h.row_ne_db hg k hk e
      · exact h.row_ne_fb hg hf k hk e
      · exact ap.2.2 k hk e
  refine ⟨hh, ?_, ?_, ?_⟩
  · rcases h.map with ⟨_, e2⟩ | ⟨mb, e1, hm⟩
    · rw [e2] at hf; cases hf
    · refine .inr ⟨mb, e1, ?_⟩
      rw [swap_pr h.apart hf h1 h2]
      obtain ⟨n1, n2, n3⟩ := h.map_ne e1
      refine hm.keep t ?_
      rintro (e | e | e)
      · exact n1 e
      · exact n2 f hf e.symm
      · exact n3 f hf mb e rfl
  · intro g hg
    obtain ⟨g0, hg0, rfl⟩ := List.mem_map.1 hg
    by_cases e : g0.nm = f'.nm
    · rw [if_pos e]; exact hat
    · rw [if_neg e]; exact old g0 hg0 (fun e2 => e (by rw [e2, h1]))
  · unfold swap
    rw [List.pairwise_map]
    have : fl.Pairwise (fun a b => a ∈ fl ∧ b ∈ fl ∧ Apart a b) := List.Pairwise.imp_of_mem (fun ha hb hab => ⟨ha, hb, hab⟩) h.apart
    refine this.imp ?_
    rintro a b ⟨ha, hb, hab⟩
    have lt : ∀ g ∈ fl, ∀ k, g.v.ownBlock = some k → k < w.heap.size := fun g hg k hk => (h.each g hg).row.lt k hk
    by_cases ea : a.nm = f'.nm
    · have e1 : a = f := name_one h.apart ha hf (by rw [ea, h1])
      have eb : ¬ b.nm = f'.nm := fun e => hab.1 (by rw [ea, e])
      rw [if_pos ea, if_neg eb]
      subst e1
      exact ⟨by rw [h1]; exact hab.1, by rw [h2]; exact hab.2.1, fun k hk hk2 => by
        rcases hmv k hk with e | e
        · exact hab.2.2 k e hk2
        · have := lt b hb k hk2; omega⟩
    · rw [if_neg ea]
      by_cases eb : b.nm = f'.nm
      · have e1 : b = f := name_one h.apart hb hf (by rw [eb, h1])
        rw [if_pos eb]
        subst e1
        exact ⟨by rw [h1]; exact hab.1, by rw [h2]; exact hab.2.1, fun k hk hk2 => by
          rcases hmv k hk2 with e | e
          · exact hab.2.2 k hk e
          · have := lt a ha k hk; omega⟩
      · rw [if_neg eb]; exact hab
theorem owns_swap {fl : List Fl} (ha : fl.Pairwise Apart) (hf : f ∈ fl) (h1 : f'.nm = f.nm) (h2 : f'.fb = f.fb) {n : Nat} (hmv : ∀ k, f'.v.ownBlock = some k → f.v.ownBlock = some k ∨ n ≤ k) : ∀ k, Owns db mv (swap fl f') k → Owns db mv fl k ∨ n ≤ k := by
  rintro k (e | e | ⟨g, hg, e⟩)
  · exact .inl (.inl e)
  · exact .inl (.inr (.inl e))
  · obtain ⟨g0, hg0, rfl⟩ := List.mem_map.1 hg
    by_cases c : g0.nm = f'.nm
    · rw [if_pos c] at e
      rcases e with e | e
      · exact .inl (.inr (.inr ⟨f, hf, .inl (by rw [e, h2])⟩))
      · rcases hmv k e with e2 | e2
        · exact .inl (.inr (.inr ⟨f, hf, .inr e2⟩))
        · exact .inr e2
    · rw [if_neg c] at e
      exact .inl (.inr (.inr ⟨g0, hg0, e⟩))

/-- The disk's own block alone is written. -/
theorem DiskU.self (h : DiskU w db mv fl u armed fuse dead) (t : Touch (· = db) w w') (hh : w'.heap[db]? = some (.cells #[mv, .int .i64 u', .bool armed', .int .i64 fuse', .bool dead'] 38)) : DiskU w' db mv fl u' armed' fuse' dead' := by
  refine ⟨hh, ?_, fun f hf => (h.each f hf).keep t (h.db_ne hf) (h.row_ne_db hf), h.apart⟩
  rcases h.map with ⟨e1, e2⟩ | ⟨mb, e1, hm⟩
  · exact .inl ⟨e1, e2⟩
  · exact .inr ⟨mb, e1, hm.keep t (h.map_ne e1).1⟩
end

section
variable {w : World} {db : Nat} {mv : Value} {fl : List Fl} {armed dead : Bool} {fuse : Int} {s : ByteArray}

/-- What burn answers, and what it leaves. -/
def burnN (armed : Bool) (fuse : Int) (n : Nat) : Nat := if armed = true ∧ fuse < n then fuse.toNat else n
def burnF (armed : Bool) (fuse : Int) (n : Nat) : Int := if armed = true then fuse - burnN armed fuse n else fuse
def burnD (armed : Bool) (fuse : Int) (n : Nat) (dead : Bool) : Bool := dead || decide (armed = true ∧ fuse < n)
theorem burnN_le (armed : Bool) (fuse : Int) (n : Nat) : burnN armed fuse n ≤ n := by unfold burnN; split <;> omega

theorem burn_any (h : DiskAt w db mv fl armed fuse dead) (n : Nat) (hn : n ≤ 4194304) :
    Calls Try.prog 34 #[.pointer (some ⟨db, 0, none⟩), .int .i64 (n : Nat)] w fun e w' => e = .returned (.int .i64 (burnN armed fuse n : Nat)) ∧ DiskAt w' db mv fl armed (burnF armed fuse n) (burnD armed fuse n dead) ∧ Touch (· = db) w w' := by
  have c2 : w.cell? ⟨db, 2, none⟩ = some (.bool armed) := h.cell 2
  have c3 : w.cell? ⟨db, 3, none⟩ = some (.int .i64 fuse) := h.cell 3
  have c4 : w.cell? ⟨db, 4, none⟩ = some (.bool dead) := h.cell 4
  have z3 := h.frozen 3
  have z4 := h.frozen 4
  have hlo := h.lo
  have hhi := h.hi
  have harm := h.arm
  have H := hide h
  cases armed
  · have e1 : burnN false fuse n = n := by simp [burnN]
    have e2 : burnF false fuse n = fuse := by simp [burnF]
    have e3 : burnD false fuse n dead = dead := by simp [burnD]
    rw [e1, e2, e3]
    clear e1 e2 e3 h harm
    go_enter Try.func34, Try.ntmps34
    go_wp2
    go_returns
    exact ⟨rfl, unhide H, Touch.refl _ _⟩
  · have h0 := harm rfl
    obtain ⟨q, rfl⟩ := Int.eq_ofNat_of_zero_le h0
    by_cases hq : q < n
    · have e1 : burnN true q n = q := by unfold burnN; rw [if_pos ⟨rfl, by omega⟩]; simp
      have e2 : burnF true q n = 0 := by unfold burnF; rw [if_pos rfl, e1]; omega
      have e3 : burnD true q n dead = true := by unfold burnD; rw [decide_eq_true ⟨rfl, by omega⟩]; simp
      rw [e1, e2, e3]
      have hq' : (q : Int) < (n : Int) := by omega
      have hz : (q : Int) - (q : Int) = 0 := by omega
      have F : Hid (DiskAt ((w.setCell ⟨db, 4, none⟩ (.bool true)).setCell ⟨db, 3, none⟩ (.int .i64 0)) db mv fl true 0 true ∧ Touch (· = db) w ((w.setCell ⟨db, 4, none⟩ (.bool true)).setCell ⟨db, 3, none⟩ (.int .i64 0))) := by
        have t := (touch_set w db 4 (.bool true)).trans (touch_set _ db 3 (.int .i64 0))
        exact ⟨⟨h.toDiskU.self t (heap_set (heap_set h.heap 4 _) 3 _), h.used, h.few, by omega, by omega, fun _ => Int.le_refl _⟩, t⟩
      clear e1 e2 e3 h harm hlo hhi h0 hq
      go_enter Try.func34, Try.ntmps34
      go_wp2
      go_returns
      exact ⟨rfl, unhide F⟩
    · have e1 : burnN true q n = n := by unfold burnN; rw [if_neg (by omega)]
      have e2 : burnF true q n = (q : Int) - n := by unfold burnF; rw [if_pos rfl, e1]
      have e3 : burnD true q n dead = dead := by unfold burnD; rw [decide_eq_false (by omega)]; simp
      rw [e1, e2, e3]
      have hq' : ¬ (q : Int) < (n : Int) := by omega
      have F : Hid (DiskAt (w.setCell ⟨db, 3, none⟩ (.int .i64 ((q : Int) - n))) db mv fl true ((q : Int) - n) dead ∧ Touch (· = db) w (w.setCell ⟨db, 3, none⟩ (.int .i64 ((q : Int) - n)))) := by
        have t := touch_set w db 3 (.int .i64 ((q : Int) - n))
        exact ⟨⟨h.toDiskU.self t (heap_set h.heap 3 _), h.used, h.few, by omega, by omega, fun _ => by omega⟩, t⟩
      clear e1 e2 e3 h harm h0 hq
      go_enter Try.func34, Try.ntmps34
      go_wp2
      go_returns
      exact ⟨rfl, unhide F⟩
end
end Go.Proofs.Ytfdpnfeaagijhaa
