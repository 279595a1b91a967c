/-
  Rename of a disk. Conditions: names are at most 2^62 bytes.
-/
import Derived.Test.YtfdpnfeaagijhaaDk6

namespace Go.Proofs.Ytfdpnfeaagijhaa
open Go.RowKit Go.Maps
set_option linter.unusedVariables false

def rnE (d : Dk) (s t : ByteArray) : Nat := if d.dead then 9 else match ftOf d.fs s with | none => 4 | some _ => if okName t then 0 else 1
def rnD (d : Dk) (s t : ByteArray) : Dk :=
  if rnE d s t ≠ 0 ∨ s = t then d
  else match ftOf d.fs s with
    | none => d
    | some f => { d with fs := ⟨t, f.text, f.text.length⟩ :: withoutF (withoutF d.fs t) s }

theorem del_del_self (ps : Prs) (s t : ByteArray) : del (del (del ps t) s) t = del (del ps t) s := by
  unfold del
  rw [List.filter_filter, List.filter_filter, List.filter_filter]
  apply List.filter_congr
  intro p _
  by_cases h1 : p.1 = t <;> by_cases h2 : p.1 = s <;> simp [h1, h2]

section
variable {w : World} {db : Nat} {mv : Value} {fl : List Fl} {armed dead : Bool} {fuse : Int} {f : Fl}
/-- All that is written by a rename. -/
theorem rename_done {t : ByteArray} {mb : Nat} (h : DiskAt w db (.map (some mb)) (without fl t) armed fuse dead) (hf : f ∈ without fl t) (hne : f.nm ≠ t) (ht : 0 < t.size ∧ t.size ≤ 24) {w3 : World} (hm : FM w3 mb ((t, f.fb) :: del ((without fl t).map pr) f.nm)) (t3 : Touch (· = mb) w w3) :
    DiskAt (w3.setCell ⟨f.fb, 1, none⟩ (.int .i64 (f.text.length : Nat))) db (.map (some mb)) ({ f with nm := t, last := f.text.length } :: without (without fl t) f.nm) armed fuse dead ∧
    Touch (Owns db (.map (some mb)) (without fl t)) w (w3.setCell ⟨f.fb, 1, none⟩ (.int .i64 (f.text.length : Nat))) ∧
    ∀ k, Owns db (.map (some mb)) ({ f with nm := t, last := f.text.length } :: without (without fl t) f.nm) k → Owns db (.map (some mb)) (without fl t) k := by
  obtain ⟨n1, n2, n3⟩ := h.map_ne rfl
  have hat := h.each f hf
  have hfb3 := t3.keep hat.heap (n2 f hf)
  have hdb3 := t3.keep h.heap (fun e => n1 e.symm)
  have hdbne := h.db_ne hf
  have tt : Touch (fun k => k = mb ∨ k = f.fb) w (w3.setCell ⟨f.fb, 1, none⟩ (.int .i64 (f.text.length : Nat))) := (t3.mono (fun k hk => .inl hk)).trans ((touch_set w3 f.fb 1 _).mono (fun k hk => .inr hk))
  have hu : usedF (fts ({ f with nm := t, last := f.text.length } :: without (without fl t) f.nm)) = usedF (fts (without fl t)) := by
    have := used_without (apart_names h.apart) (List.mem_map.2 ⟨f, hf, rfl⟩ : f.toFt ∈ fts (without fl t))
    show usedF (_ :: fts (without (without fl t) f.nm)) = _
    rw [used_cons, fts_without]
    show f.text.length + _ = _
    have e : f.toFt.text.length = f.text.length := rfl
    omega
  refine ⟨⟨⟨?_, .inr ⟨mb, rfl, ?_⟩, ?_, ?_⟩, by rw [hu]; exact h.used, ?_, h.lo, h.hi, h.arm⟩, tt.mono ?_, ?_⟩
  · rw [hu]
    exact (touch_set w3 f.fb 1 _).keep hdb3 (fun e => hdbne e.symm)
  · rw [List.map_cons, pr_without]
    exact hm.keep (touch_set w3 f.fb 1 _) (fun e => n2 f hf e.symm)
  · intro g hg
    rcases List.mem_cons.1 hg with rfl | hg'
    · exact ⟨heap_set hfb3 1 _, hat.row.keep tt (fun k hk e => by rcases e with e | e; exact n3 f hf k hk e; exact hat.row_ne k hk e), Nat.le_refl _, ht⟩
    · obtain ⟨hg1, hg2⟩ := List.mem_filter.1 hg'
      have hgn : g.nm ≠ f.nm := by simpa using hg2
      have ap := pair_apart h.apart hg1 hf hgn
      exact (h.each g hg1).keep tt (fun e => by rcases e with e | e; exact n2 g hg1 e; exact ap.2.1 e) (fun k hk e => by rcases e with e | e; exact n3 g hg1 k hk e; exact h.row_ne_fb hg1 hf k hk e)
  · refine List.pairwise_cons.2 ⟨fun g hg => ?_, h.apart.filter _⟩
    obtain ⟨hg1, hg2⟩ := List.mem_filter.1 hg
    have hgn : g.nm ≠ f.nm := by simpa using hg2
    have ap := pair_apart h.apart hf hg1 (Ne.symm hgn)
    have hgt : g.nm ≠ t := by have := (List.mem_filter.1 hg1).2; simpa using this
    exact ⟨Ne.symm hgt, ap.2.1, ap.2.2⟩
  · have h1 : (without (without fl t) f.nm).length < (without fl t).length := by
      unfold without
      rw [List.length_filter_lt_length_iff_exists]
      exact ⟨f, hf, by simp⟩
    have := h.few
    simp only [List.length_cons]
    omega
  · rintro k (e | e)
    · exact .inr (.inl (by rw [e]))
    · exact .inr (.inr ⟨f, hf, .inl e⟩)
  · rintro k (e | e | ⟨g, hg, e⟩)
    · exact .inl e
    · exact .inr (.inl e)
    · rcases List.mem_cons.1 hg with rfl | hg'
      · exact .inr (.inr ⟨f, hf, e⟩)
      · exact .inr (.inr ⟨g, (List.mem_filter.1 hg').1, e⟩)
end

section
variable {w : World} {db : Nat} {S : Nat → Prop} {d : Dk} {s t : ByteArray}
set_option maxRecDepth 100000 in
set_option maxHeartbeats 2000000 in
theorem drename_any (h : Disky w db S d) (hs : s.size ≤ maxLen) (ht : t.size ≤ maxLen) :
    Calls Try.prog 38 #[.pointer (some ⟨db, 0, none⟩), .string s, .string t] w fun e w' => e = .returned (.int .i64 (rnE d s t : Nat)) ∧ Went w w' db S (rnD d s t) := by
  have HW := hide (Went.same h (Touch.refl _ w))
  obtain ⟨⟨mv, fl, h1, h2, h3⟩, hlt⟩ := h
  obtain ⟨fs, armed, fuse, dead⟩ := d
  simp only at h1 h2 ⊢
  subst h2
  have WK := hide (working_any h1)
  have NM := hide (isname_any t w ht)
  have c0 : w.cell? ⟨db, 0, none⟩ = some mv := h1.cell 0
  have hl := h1.toDiskU.look hs
  cases dead
  · cases hf : fileOf fl s with
    | none =>
      have e1 : rnE ⟨fts fl, armed, fuse, false⟩ s t = 4 := by unfold rnE; simp only; rw [ft_fileOf, hf]; rfl
      have e2 : rnD ⟨fts fl, armed, fuse, false⟩ s t = ⟨fts fl, armed, fuse, false⟩ := by unfold rnD; rw [if_pos (by rw [e1]; exact .inl (by decide))]
      rw [e1, e2]
      rw [hf] at hl
      have hl2 : (Instr.lookup 36 mv (.string s) true).run Try.prog w = .ok (.tuple #[.pointer none, .bool false]) w := hl
      clear hl h1 e1 e2 hf NM
      go_enter Try.func38, Try.ntmps38
      go_wp2_with fail
      refine (unhide WK).mono ?_
      rintro e w1 ⟨rfl, rfl⟩
      go_wp2
      go_returns
      exact ⟨rfl, unhide HW⟩
    | some f =>
      obtain ⟨hfm, rfl⟩ := fileOf_some hf
      rw [hf] at hl
      have hl2 : (Instr.lookup 36 mv (.string f.nm) true).run Try.prog w = .ok (.tuple #[.pointer (some ⟨f.fb, 0, none⟩), .bool true]) w := hl
      have e1 : rnE ⟨fts fl, armed, fuse, false⟩ f.nm t = if okName t then 0 else 1 := by unfold rnE; simp only; rw [ft_fileOf, hf]; rfl
      cases hn : okName t
      · rw [hn] at e1 NM
        have e2 : rnD ⟨fts fl, armed, fuse, false⟩ f.nm t = ⟨fts fl, armed, fuse, false⟩ := by unfold rnD; rw [if_pos (by rw [e1]; exact .inl (by decide))]
        rw [e1, e2]
        clear hl h1 e1 e2 hf
        go_enter Try.func38, Try.ntmps38
        go_wp2_with fail
        refine (unhide WK).mono ?_
        rintro e w1 ⟨rfl, rfl⟩
        go_wp2_with fail
        refine (unhide NM).mono ?_
        rintro e w1 ⟨rfl, rfl⟩
        go_wp2
        go_returns
        exact ⟨rfl, unhide HW⟩
      · rw [hn] at e1 NM
        have hts : 0 < t.size ∧ t.size ≤ 24 := of_decide_eq_true hn
        by_cases heq : f.nm = t
        · have e2 : rnD ⟨fts fl, armed, fuse, false⟩ f.nm t = ⟨fts fl, armed, fuse, false⟩ := by unfold rnD; rw [if_pos (.inr heq)]
          rw [e1, e2]
          clear hl h1 e1 e2 hf
          subst heq
          go_enter Try.func38, Try.ntmps38
          go_wp2_with fail
          refine (unhide WK).mono ?_
          rintro e w1 ⟨rfl, rfl⟩
          go_wp2_with fail
          refine (unhide NM).mono ?_
          rintro e w1 ⟨rfl, rfl⟩
          go_wp2
          go_returns
          exact ⟨rfl, unhide HW⟩
        · have e2 : rnD ⟨fts fl, armed, fuse, false⟩ f.nm t = ⟨⟨t, f.text, f.text.length⟩ :: withoutF (withoutF (fts fl) t) f.nm, armed, fuse, false⟩ := by
            unfold rnD
            rw [if_neg (by rw [e1]; rintro (h | h); exact h rfl; exact heq h)]
            simp only
            rw [ft_fileOf, hf]; rfl
          rw [e1, e2]
          have hq1 : ¬ f.nm.toList = t.toList := fun e => heq (byte_ext (by rw [← ByteArray.toList_eq, ← ByteArray.toList_eq]; exact e))
          have hq2 : (f.nm.toList == t.toList) = false := by rw [beq_eq_false_iff_ne]; exact hq1
          obtain ⟨mb, rfl, hm⟩ : ∃ mb, mv = .map (some mb) ∧ FM w mb (fl.map pr) := by
            rcases h1.map with ⟨_, e⟩ | h
            · rw [e] at hfm; cases hfm
            · exact h
          have hfw : f ∈ without fl t := List.mem_filter.2 ⟨hfm, by simpa using heq⟩
          have DR := hide (drop_any h1 ht)
          have HNE := hide heq
          clear hl h1 e1 e2 hf heq hm HW
          go_enter Try.func38, Try.ntmps38
          go_wp2_with fail
          refine (unhide WK).mono ?_
          rintro e w0 ⟨rfl, rfl⟩
          go_wp2_with fail
          refine (unhide NM).mono ?_
          rintro e w0 ⟨rfl, rfl⟩
          go_wp2_with fail
          refine (unhide DR).mono ?_
          rintro e w1 ⟨rfl, d1, t1⟩
          have D1 := hide d1
          have T1 := hide t1
          obtain ⟨_, hmb, hm1⟩ : ∃ mb', Value.map (some mb) = .map (some mb') ∧ FM w1 mb' ((without fl t).map pr) := by
            rcases d1.map with ⟨e, _⟩ | h
            · cases e
            · exact h
          cases hmb
          have M1 := hide hm1
          have c01 : w1.cell? ⟨db, 0, none⟩ = some (.map (some mb)) := d1.cell 0
          have hne := d1.toDiskU.map_ne rfl
          clear d1 t1 hm1 DR
          go_wp2_with (at_delete; refine wpList_fmdel _ rfl _ _ rfl mb ((without fl t).map pr) rfl (unhide M1) f.nm rfl hs ?_)
          intro w2 m2 t2
          have M2 := hide m2
          have T2 := hide t2
          have c02 : w2.cell? ⟨db, 0, none⟩ = some (.map (some mb)) := cell_of (t2.keep (unhide D1).heap (fun e => hne.1 e.symm)) 0
          have hl2' : (del ((without fl t).map pr) f.nm).length < maxLen := by
            have h1 : (del ((without fl t).map pr) f.nm).length ≤ ((without fl t).map pr).length := List.length_filter_le _ _
            rw [List.length_map] at h1
            have := (unhide D1).few
            unfold maxLen; omega
          clear m2 t2 M1 c01
          go_wp2_with (at_mapUpdate; refine wpList_fmput _ rfl _ _ _ rfl mb (del ((without fl t).map pr) f.nm) rfl (unhide M2) hl2' t f.fb rfl rfl ht ?_)
          intro w3 m3 t3
          have hm3 : FM w3 mb ((t, f.fb) :: del ((without fl t).map pr) f.nm) := by
            rw [pr_without] at m3 ⊢
            rw [del_del_self] at m3
            exact m3
          obtain ⟨dF, tF, oF⟩ := rename_done (unhide D1) hfw (unhide HNE) hts hm3 ((unhide T2).trans t3)
          have hat := (unhide D1).each f hfw
          have hf3 := ((unhide T2).trans t3).keep hat.heap (hne.2.1 f hfw)
          obtain ⟨av, cv, ev, _⟩ := hat.row.parts
          have x0 : w3.cell? ⟨f.fb, 0, none⟩ = some (.slice av f.text.length cv) := by rw [← ev]; exact cell_of hf3 0
          have x1 : w3.cell? ⟨f.fb, 1, none⟩ = some (.int .i64 (f.last : Nat)) := cell_of hf3 1
          have y1 := frozen_of hf3 1
          have WT : Hid (Went w0 (w3.setCell ⟨f.fb, 1, none⟩ (.int .i64 (f.text.length : Nat))) db S ⟨⟨t, f.text, f.text.length⟩ :: withoutF (withoutF (fts fl) t) f.nm, armed, fuse, false⟩) := by
            refine Went.mk' (mv := .map (some mb)) (fl := fl) h3 dF ?_ (((unhide T1).mono (fun k hk => hk.imp id .inl)).trans (tF.mono (fun k hk => owns_without k hk))) (fun k hk => .inl (owns_without k (oF k hk)))
            show _ :: fts (without (without fl t) f.nm) = _
            rw [fts_without, fts_without]
          clear dF tF oF hat hf3 ev m3 t3 hm3 M2 T2 T1 D1 c02
          go_wp2
          go_returns
          exact ⟨rfl, unhide WT⟩
  · clear h1 hl NM
    go_enter Try.func38, Try.ntmps38
    go_wp2_with fail
    refine (unhide WK).mono ?_
    rintro e w1 ⟨rfl, rfl⟩
    go_wp2
    go_returns
    exact ⟨rfl, unhide HW⟩
end
end Go.Proofs.Ytfdpnfeaagijhaa
