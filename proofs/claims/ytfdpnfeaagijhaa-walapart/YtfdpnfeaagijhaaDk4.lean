/-
  A disk as plain data (its files, its fuse, whether it has broken), and Append. Conditions: names and bytes are at most 2^47.
-/
import Derived.Test.YtfdpnfeaagijhaaDk3

namespace Go.Proofs.Ytfdpnfeaagijhaa
open Go.RowKit Go.Maps
set_option linter.unusedVariables false

/-- A new row of bytes. -/
def Fresh5 (w w' : World) (v : Value) (l : List Nat) : Prop := Row w' v l ∧ New w v ∧ Below w.heap.size w w'

structure Dk where
  fs : List Ft
  armed : Bool
  fuse : Int
  dead : Bool
/-- The object at db is that disk; S holds its blocks. -/
structure Disky (w : World) (db : Nat) (S : Nat → Prop) (d : Dk) : Prop where
  ex : ∃ mv fl, DiskAt w db mv fl d.armed d.fuse d.dead ∧ fts fl = d.fs ∧ ∀ k, Owns db mv fl k → S k
  lt : ∀ k, S k → k < w.heap.size
theorem Disky.keep {w w' : World} {db : Nat} {S T : Nat → Prop} {d : Dk} (h : Disky w db S d) (t : Touch T w w') (hs : ∀ k, S k → ¬ T k) : Disky w' db S d := by
  obtain ⟨mv, fl, h1, h2, h3⟩ := h.ex
  exact ⟨⟨mv, fl, h1.keep t (fun k hk => hs k (h3 k hk)), h2, h3⟩, fun k hk => Nat.lt_of_lt_of_le (h.lt k hk) t.size⟩
theorem Disky.db {w : World} {db : Nat} {S : Nat → Prop} {d : Dk} (h : Disky w db S d) : S db := by obtain ⟨mv, fl, h1, h2, h3⟩ := h.ex; exact h3 db (.inl rfl)
/-- What a call leaves. -/
def Went (w w' : World) (db : Nat) (S : Nat → Prop) (d' : Dk) : Prop := ∃ S', Disky w' db S' d' ∧ Touch S w w' ∧ ∀ k, S' k → S k ∨ w.heap.size ≤ k
theorem Went.same {w w' : World} {db : Nat} {S : Nat → Prop} {d : Dk} (h : Disky w db S d) (t : Touch (fun _ => False) w w') : Went w w' db S d := ⟨S, h.keep t (fun _ _ h => h), t.mono (fun _ h => h.elim), fun k hk => .inl hk⟩
theorem Went.mk' {w w' : World} {db : Nat} {S : Nat → Prop} {mv mv' : Value} {fl fl' : List Fl} {d' : Dk} (hs : ∀ k, Owns db mv fl k → S k) (h : DiskAt w' db mv' fl' d'.armed d'.fuse d'.dead) (e : fts fl' = d'.fs) (t : Touch (Owns db mv fl) w w') (ho : ∀ k, Owns db mv' fl' k → Owns db mv fl k ∨ w.heap.size ≤ k) : Went w w' db S d' :=
  ⟨Owns db mv' fl', ⟨⟨mv', fl', h, e, fun k hk => hk⟩, h.toDiskU.lt⟩, t.mono hs, fun k hk => (ho k hk).imp (hs k) id⟩

/-- Append. -/
def apF (l : List Ft) (s : ByteArray) (t : List Nat) : List Ft :=
  match ftOf l s with
  | some f => swapF l { f with text := f.text ++ t }
  | none => ⟨s, t, 0⟩ :: l
/-- It is refused so. -/
def apR (d : Dk) (s : ByteArray) (n : Nat) : Nat :=
  if findE d.dead d.fs s ≠ 0 ∧ findE d.dead d.fs s ≠ 4 then findE d.dead d.fs s else if 4194304 < usedF d.fs + n ∨ (findE d.dead d.fs s = 4 ∧ 4096 ≤ d.fs.length) then 3 else 0
def apE (d : Dk) (s : ByteArray) (n : Nat) : Nat := if apR d s n ≠ 0 then apR d s n else if burnD d.armed d.fuse n d.dead then 9 else 0
def apD (d : Dk) (s : ByteArray) (b : List Nat) : Dk :=
  if apR d s b.length ≠ 0 then d else ⟨apF d.fs s (b.take (burnN d.armed d.fuse b.length)), d.armed, burnF d.armed d.fuse b.length, burnD d.armed d.fuse b.length d.dead⟩

theorem step_row5 {ops : Array Oper} {o : Oper} {a : Act} {w : World} {K : Act → World → Prop} {Q : Exit → Act → World → Prop} {E : Prop}
    (hg : o.guard = none) (s x : Operand) (hop : o.op = Op.call { callee := Callee.builtin Builtin.append, args := #[s, x], argTypes := #[32, 32] })
    (v : Value) (l : List Nat) (hs : a.eval s = v) (hr : Row w v l) (ao : Option Addr) (c : Nat) (l2 : List Nat) (hx : a.eval x = .slice ao l2.length c) (hb : LAt w ao l2) (hnone : ao = none → c = 0) (hlen : l.length + l2.length ≤ 140737488355328)
    (hK : ∀ v' w', Row w' v' (l ++ l2) → Touch (fun k => v.ownBlock = some k) w w' → Moved w v v' → K (a.put o.dst v') w') :
    if Region.wanted o (yielded ops a.tmps) = true then Oper.wp Try.prog o a w K Q else E := by
  have hw : Region.wanted o (yielded ops a.tmps) = true := by simp [Region.wanted, hg]
  rw [if_pos hw]
  obtain ⟨i, hi, hz, hsz, hby⟩ := u8_info
  obtain ⟨v', w', hrun, r1, r2, r3⟩ := run_app (P := Try.prog) w 32 o.type 5 i (.int .u8 0) 1 Try.underlying32 hi hz hsz hby rfl v (vals l) hr.own ao l2.length c (vals l2) (vals_len l2) (src_vals hb) (one_vals l2) hnone (by rw [vals_len]; unfold maxLen; omega) (by rw [vals_len]; omega)
  unfold Oper.wp
  simp [execOp, hop, resolve, invoke, builtin, hs, hx, hrun, Result.andThen]
  exact hK v' w' ⟨by rw [← vals_app]; exact r1, fun y hy => by rcases List.mem_append.1 hy with h | h; exact hr.bytes y h; exact hb.bytes y h⟩ r2 r3

section
variable {w : World} {db : Nat} {mv : Value} {fl : List Fl} {armed dead : Bool} {fuse : Int} {f : Fl}

/-- The bytes are behind the file's others: all that is written. -/
theorem append_done (h : DiskAt w db mv fl armed fuse dead) (hf : f ∈ fl) {w3 : World} {v3 : Value} {t : List Nat} (r3 : Row w3 v3 (f.text ++ t)) (t3 : Touch (fun k => f.v.ownBlock = some k) w w3) (m3 : Moved w f.v v3) (hroom : usedF (fts fl) + t.length ≤ 4194304) :
    DiskAt ((w3.setCell ⟨f.fb, 0, none⟩ v3).setCell ⟨db, 1, none⟩ (.int .i64 ((usedF (fts fl) + t.length : Nat) : Int))) db mv (swap fl { f with v := v3, text := f.text ++ t }) armed fuse dead ∧
    Touch (Owns db mv fl) w ((w3.setCell ⟨f.fb, 0, none⟩ v3).setCell ⟨db, 1, none⟩ (.int .i64 ((usedF (fts fl) + t.length : Nat) : Int))) ∧
    ∀ k, Owns db mv (swap fl { f with v := v3, text := f.text ++ t }) k → Owns db mv fl k ∨ w.heap.size ≤ k := by
  have hat := h.each f hf
  have hfb3 : w3.heap[f.fb]? = some (.cells #[f.v, .int .i64 (f.last : Nat)] 77) := t3.keep hat.heap (fun e => hat.row_ne _ e rfl)
  have hdb3 := t3.keep h.heap (fun e => h.row_ne_db hf _ e rfl)
  have hmv : ∀ k, v3.ownBlock = some k → f.v.ownBlock = some k ∨ w.heap.size ≤ k := m3
  have hne := h.db_ne hf
  have tt : Touch (fun k => k = db ∨ k = f.fb ∨ f.v.ownBlock = some k) w ((w3.setCell ⟨f.fb, 0, none⟩ v3).setCell ⟨db, 1, none⟩ (.int .i64 ((usedF (fts fl) + t.length : Nat) : Int))) :=
    ((t3.mono (fun k hk => .inr (.inr hk))).trans ((touch_set w3 f.fb 0 v3).mono (fun k hk => .inr (.inl hk)))).trans ((touch_set _ db 1 _).mono (fun k hk => .inl hk))
  have hu : usedF (fts (swap fl { f with v := v3, text := f.text ++ t })) = usedF (fts fl) + t.length := by
    have := used_swapF (f' := (⟨f.nm, f.text ++ t, f.last⟩ : Ft)) (apart_names h.apart) (List.mem_map.2 ⟨f, hf, rfl⟩ : f.toFt ∈ fts fl) rfl
    rw [fts_swap]
    simp only [List.length_append] at this ⊢
    omega
  have rowne : ∀ k, v3.ownBlock = some k → k ≠ f.fb ∧ k ≠ db := fun k hk => by
    rcases hmv k hk with e | e
    · exact ⟨hat.row_ne k e, h.row_ne_db hf k e⟩
    · have h1 := lt_of_heap hat.heap
      have h2 := lt_of_heap h.heap
      omega
  refine ⟨⟨h.toDiskU.change (f' := { f with v := v3, text := f.text ++ t }) hf rfl rfl ⟨?_, ?_, ?_, hat.name⟩ tt hmv ?_, by rw [hu]; exact hroom, by rw [swap_len]; exact h.few, h.lo, h.hi, h.arm⟩, tt.mono ?_, owns_swap (f' := { f with v := v3, text := f.text ++ t }) h.apart hf rfl rfl hmv⟩
  · refine (touch_set _ db 1 _).keep ?_ hne
    exact heap_set hfb3 0 v3
  · exact (r3.keep (touch_set w3 f.fb 0 v3) (fun k hk e => (rowne k hk).1 e)).keep (touch_set _ db 1 _) (fun k hk e => (rowne k hk).2 e)
  · show f.last ≤ (f.text ++ t).length
    rw [List.length_append]; have := hat.last; omega
  · rw [hu]
    exact heap_set ((touch_set w3 f.fb 0 v3).keep hdb3 (fun e => hne e.symm)) 1 _
  · rintro k (e | e | e)
    · exact .inl e
    · exact .inr (.inr ⟨f, hf, .inl e⟩)
    · exact .inr (.inr ⟨f, hf, .inr e⟩)
end

section
variable {w : World} {db : Nat} {S : Nat → Prop} {d : Dk} {s : ByteArray} {a : Option Addr} {cap : Nat} {b : List Nat}

theorem findE_le (dead : Bool) (l : List Ft) (s : ByteArray) : findE dead l s = 0 ∨ findE dead l s = 4 ∨ findE dead l s = 9 ∨ findE dead l s = 1 := by
  unfold findE
  cases dead
  · cases okName s
    · right; right; right; rfl
    · simp only [if_true, Bool.false_eq_true, if_false]
      by_cases h : (ftOf l s).isSome = true
      · rw [if_pos h]; exact .inl rfl
      · rw [if_neg h]; exact .inr (.inl rfl)
  · right; right; left; rfl
theorem find_zero {dead : Bool} {fl : List Fl} {s : ByteArray} (h : findE dead (fts fl) s = 0) : dead = false ∧ okName s = true ∧ ∃ f ∈ fl, f.nm = s ∧ fileOf fl s = some f ∧ findG dead fl s = some f.fb := by
  unfold findE at h
  cases dead
  · cases hn : okName s
    · rw [hn] at h; simp at h
    · rw [hn] at h
      simp only [if_true, Bool.false_eq_true, if_false] at h
      rw [ft_fileOf, Option.isSome_map] at h
      cases hf : fileOf fl s with
      | none => rw [hf] at h; simp at h
      | some f =>
        obtain ⟨h1, h2⟩ := fileOf_some hf
        refine ⟨rfl, rfl, f, h1, h2, rfl, ?_⟩
        unfold findG
        rw [hf, hn]; rfl
  · simp at h
theorem find_four {dead : Bool} {fl : List Fl} {s : ByteArray} (h : findE dead (fts fl) s = 4) : dead = false ∧ okName s = true ∧ fileOf fl s = none ∧ findG dead fl s = none := by
  unfold findE at h
  cases dead
  · cases hn : okName s
    · rw [hn] at h; simp at h
    · rw [hn] at h
      simp only [if_true, Bool.false_eq_true, if_false] at h
      rw [ft_fileOf, Option.isSome_map] at h
      cases hf : fileOf fl s with
      | none => exact ⟨rfl, rfl, rfl, by unfold findG; rw [hf, hn]; rfl⟩
      | some f => rw [hf] at h; simp at h
  · simp at h

theorem used_mem {l : List Ft} {f : Ft} (hf : f ∈ l) : f.text.length ≤ usedF l := by
  induction l with
  | nil => cases hf
  | cons x r ih =>
    rw [used_cons]
    rcases List.mem_cons.1 hf with e | e
    · subst e; omega
    · have := ih e; omega
/-- The last steps of Append. -/
def ApTo (w w' : World) (db : Nat) (mv : Value) (fl : List Fl) (armed : Bool) (fuse : Int) (dead : Bool) (f : Fl) (t : List Nat) : Prop :=
  ∃ v3, DiskAt w' db mv (swap fl { f with v := v3, text := f.text ++ t }) armed fuse dead ∧ Touch (Owns db mv fl) w w' ∧ ∀ k, Owns db mv (swap fl { f with v := v3, text := f.text ++ t }) k → Owns db mv fl k ∨ w.heap.size ≤ k

set_option maxRecDepth 100000 in
set_option maxHeartbeats 2000000 in
theorem dappend_any (h : Disky w db S d) (hs : s.size ≤ maxLen) (hb : LAt w a b) (hn : a = none → cap = 0) (hc : b.length ≤ cap) (hd : 0 < b.length → ∀ x, a = some x → ¬ S x.block) :
    Calls Try.prog 18 #[.pointer (some ⟨db, 0, none⟩), .string s, .slice a b.length cap] w fun e w' => e = .returned (.int .i64 (apE d s b.length : Nat)) ∧ Went w w' db S (apD d s b) := by
  have HW := hide (Went.same h (Touch.refl _ w))
  obtain ⟨⟨mv, fl, h1, h2, h3⟩, hlt⟩ := h
  obtain ⟨fs, armed, fuse, dead⟩ := d
  simp only at h1 h2
  subst h2
  have FD := hide (find_any h1 hs)
  have hfe := findE_le dead (fts fl) s
  by_cases hR : findE dead (fts fl) s ≠ 0 ∧ findE dead (fts fl) s ≠ 4
  · have e1 : apR ⟨fts fl, armed, fuse, dead⟩ s b.length = findE dead (fts fl) s := by unfold apR; rw [if_pos hR]
    have e2 : apE ⟨fts fl, armed, fuse, dead⟩ s b.length = findE dead (fts fl) s := by unfold apE; rw [e1, if_pos hR.1]
    have e3 : apD ⟨fts fl, armed, fuse, dead⟩ s b = ⟨fts fl, armed, fuse, dead⟩ := by unfold apD; rw [e1, if_pos hR.1]
    rw [e2, e3]
    clear e1 e2 e3 h1 hb hd
    generalize findE dead (fts fl) s = E at *
    generalize findG dead fl s = G at *
    have q1 : ((E : Int) != 0) = true := by rw [bne_iff_ne]; omega
    have q2 : ((E : Int) != 4) = true := by rw [bne_iff_ne]; omega
    cases G <;> simp only [ptrV] at FD
    all_goals
      go_enter Try.func18, Try.ntmps18
      go_wp2_with fail
      refine (unhide FD).mono ?_
      rintro e w1 ⟨rfl, rfl⟩
      go_wp2
      go_returns
      exact ⟨rfl, unhide HW⟩
  · have c1 : w.cell? ⟨db, 1, none⟩ = some (.int .i64 (usedF (fts fl) : Nat)) := h1.cell 1
    have c0 : w.cell? ⟨db, 0, none⟩ = some mv := h1.cell 0
    have hlen := h1.toDiskU.len 3
    have hus := h1.used
    have hfw := h1.few
    have e1 : apR ⟨fts fl, armed, fuse, dead⟩ s b.length = if 4194304 < usedF (fts fl) + b.length ∨ (findE dead (fts fl) s = 4 ∧ 4096 ≤ (fts fl).length) then 3 else 0 := by unfold apR; rw [if_neg hR]
    rw [List.length_map] at e1
    by_cases hfull : 4194304 < usedF (fts fl) + b.length ∨ (findE dead (fts fl) s = 4 ∧ 4096 ≤ fl.length)
    · rw [if_pos hfull] at e1
      have e2 : apE ⟨fts fl, armed, fuse, dead⟩ s b.length = 3 := by unfold apE; rw [e1]; rfl
      have e3 : apD ⟨fts fl, armed, fuse, dead⟩ s b = ⟨fts fl, armed, fuse, dead⟩ := by unfold apD; rw [e1]; rfl
      rw [e2, e3]
      have hg4 : findE dead (fts fl) s = 4 → findG dead fl s = none := fun h => (find_four h).2.2.2
      have hg0 : findE dead (fts fl) s = 0 → ∃ g, findG dead fl s = some g := fun h => by obtain ⟨_, _, f, _, _, _, e⟩ := find_zero h; exact ⟨_, e⟩
      clear e1 e2 e3 h1 hb hd
      generalize findE dead (fts fl) s = E at *
      generalize findG dead fl s = G at *
      generalize usedF (fts fl) = U at *
      by_cases hbig : 4194304 < U + b.length
      · have hbig' : 4194304 - (U : Int) < (b.length : Int) := by omega
        have hE : E = 0 ∨ E = 4 := by omega
        rcases hE with rfl | rfl
        · obtain ⟨g, rfl⟩ := hg0 rfl
          simp only [ptrV] at FD
          go_enter Try.func18, Try.ntmps18
          go_wp2_with fail
          refine (unhide FD).mono ?_
          rintro e w1 ⟨rfl, rfl⟩
          go_wp2
          go_returns
          exact ⟨rfl, unhide HW⟩
        · rw [hg4 rfl] at FD
          simp only [ptrV] at FD
          go_enter Try.func18, Try.ntmps18
          go_wp2_with fail
          refine (unhide FD).mono ?_
          rintro e w1 ⟨rfl, rfl⟩
          go_wp2
          go_returns
          exact ⟨rfl, unhide HW⟩
      · have hbig' : ¬ 4194304 - (U : Int) < (b.length : Int) := by omega
        obtain ⟨rfl, h46⟩ : E = 4 ∧ 4096 ≤ fl.length := by omega
        have h46' : (4096 : Int) ≤ (fl.length : Int) := by omega
        rw [hg4 rfl] at FD
        simp only [ptrV] at FD
        go_enter Try.func18, Try.ntmps18
        go_wp2_with fail
        refine (unhide FD).mono ?_
        rintro e w1 ⟨rfl, rfl⟩
        go_wp2
        go_returns
        exact ⟨rfl, unhide HW⟩
    · rw [if_neg hfull] at e1
      have hbig : usedF (fts fl) + b.length ≤ 4194304 := by omega
      have hbig' : ¬ 4194304 - (usedF (fts fl) : Int) < (b.length : Int) := by omega
      have HB := hide hb
      have HD := hide hd
      clear hb hd HW
      have hE : findE dead (fts fl) s = 0 ∨ findE dead (fts fl) s = 4 := by omega
      obtain rfl : dead = false := by
        rcases hE with hE | hE
        · exact (find_zero hE).1
        · exact (find_four hE).1
      have hbn := burnN_le armed fuse b.length
      have htl : (b.take (burnN armed fuse b.length)).length = burnN armed fuse b.length := by rw [List.length_take]; omega
      have hsl := slice_h a b.length cap (burnN armed fuse b.length) (by omega)
      have EA : apD ⟨fts fl, armed, fuse, false⟩ s b = ⟨apF (fts fl) s (b.take (burnN armed fuse b.length)), armed, burnF armed fuse b.length, burnD armed fuse b.length false⟩ ∧ apE ⟨fts fl, armed, fuse, false⟩ s b.length = if burnD armed fuse b.length false = true then 9 else 0 := by
        refine ⟨?_, ?_⟩
        · unfold apD; rw [e1, if_neg (by simp)]
        · unfold apE; rw [e1, if_neg (by simp)]
      rw [EA.1, EA.2]
      clear EA e1
      have BU : Hid (∀ w1 mv1 fl1, DiskAt w1 db mv1 fl1 armed fuse false → Calls Try.prog 34 #[.pointer (some ⟨db, 0, none⟩), .int .i64 (b.length : Nat)] w1 fun e w' => e = .returned (.int .i64 (burnN armed fuse b.length : Nat)) ∧ DiskAt w' db mv1 fl1 armed (burnF armed fuse b.length) (burnD armed fuse b.length false) ∧ Touch (· = db) w1 w') := fun w1 mv1 fl1 hh => burn_any hh b.length (by omega)
      generalize burnD armed fuse b.length false = dd at *
      generalize burnF armed fuse b.length = ff at *
      generalize burnN armed fuse b.length = n at *
      generalize hT : b.take n = T at *
      have LB1 : Hid (∀ w1, LAt w1 a b → LAt w1 a T) := fun w1 hh => by rw [← hT]; exact hh.take n
      clear hT
      subst htl
      obtain ⟨er, her⟩ : ∃ er : Nat, er = if dd = true then 9 else 0 := ⟨_, rfl⟩
      have WKE : Hid (∀ w1 mv1 fl1, DiskAt w1 db mv1 fl1 armed ff dd → Calls Try.prog 35 #[.pointer (some ⟨db, 0, none⟩)] w1 fun e w' => e = .returned (.int .i64 (er : Nat)) ∧ w' = w1) := fun w1 mv1 fl1 hh => by
        have := working_any hh
        have e : ((if dd = true then 9 else 0 : Int)) = (er : Int) := by rw [her]; cases dd <;> rfl
        rw [e] at this
        exact this
      rw [← her]
      clear her
      rcases hE with hE | hE
      · obtain ⟨_, hnm, f, hf, rfl, hfo, hG⟩ := find_zero hE
        have EF : apF (fts fl) f.nm T = swapF (fts fl) { f.toFt with text := f.text ++ T } := by
          unfold apF; rw [ft_fileOf, hfo]; rfl
        rw [EF]
        rw [hE, hG] at FD
        have D1 := hide h1
        have T1 : Hid (Touch (Owns db mv fl) w w) := Touch.refl _ _
        clear h1 hfull hR hfe hE hG hfo EF
        simp only [ptrV] at FD
        go_enter Try.func18, Try.ntmps18
        go_wp2_with fail
        refine (unhide FD).mono ?_
        rintro e w1 ⟨rfl, rfl⟩
        have LBW := hide ((unhide HB).keep (unhide T1) (fun h0 x hx e => unhide HD h0 x hx (h3 _ e)))
        go_wp2_with fail
        refine (unhide BU _ _ _ (unhide D1)).mono ?_
        rintro e w2 ⟨rfl, d2, t2⟩
        have T2 := hide t2
        have hat := d2.each f hf
        have LB2 : Hid (LAt w2 a T) := by
          refine (unhide LB1 _ (unhide LBW)).keep t2 (fun h0 x hx e => ?_)
          exact unhide HD (by have := hbn; omega) x hx (by rw [e]; exact h3 _ (.inl rfl))
        obtain ⟨av, cv, ev, _⟩ := hat.row.parts
        have x0 : w2.cell? ⟨f.fb, 0, none⟩ = some (.slice av f.text.length cv) := by rw [← ev]; exact hat.cell0
        have y0 := hat.frozen 0
        have RF : Hid (Row w2 (.slice av f.text.length cv) f.text) := by rw [← ev]; exact hat.row
        have hfu : f.text.length ≤ usedF (fts fl) := used_mem (List.mem_map.2 ⟨f, hf, rfl⟩ : f.toFt ∈ fts fl)
        have AD : Hid (∀ w3 v3, Row w3 v3 (f.text ++ T) → Touch (fun k => (Value.slice av f.text.length cv).ownBlock = some k) w2.drew w3 → Moved w2.drew (.slice av f.text.length cv) v3 → DiskAt ((w3.setCell ⟨f.fb, 0, none⟩ v3).setCell ⟨db, 1, none⟩ (.int .i64 ((usedF (fts fl) : Int) + (T.length : Int)))) db mv (swap fl { f with v := v3, text := f.text ++ T }) armed ff dd ∧ Touch (Owns db mv fl) w2 ((w3.setCell ⟨f.fb, 0, none⟩ v3).setCell ⟨db, 1, none⟩ (.int .i64 ((usedF (fts fl) : Int) + (T.length : Int)))) ∧ ∀ k, Owns db mv (swap fl { f with v := v3, text := f.text ++ T }) k → Owns db mv fl k ∨ w2.heap.size ≤ k) := by
          intro w3 v3 r3 t3 m3
          rw [← ev] at t3 m3
          exact append_done d2 hf r3 ((Touch.refl _ w2).drew.trans t3) m3 (by omega)
        have HROOM : Hid (f.text.length + T.length ≤ 140737488355328) := by show f.text.length + T.length ≤ 140737488355328; omega
        have KC : Hid (∀ w3, Touch (fun k => (Value.slice av f.text.length cv).ownBlock = some k) w2.drew w3 → w3.cell? ⟨f.fb, 0, none⟩ = some (.slice av f.text.length cv) ∧ w3.frozen? ⟨f.fb, 0, none⟩ = false ∧ w3.cell? ⟨db, 1, none⟩ = some (.int .i64 (usedF (fts fl) : Nat)) ∧ w3.frozen? ⟨db, 1, none⟩ = false ∧ w3.cell? ⟨db, 4, none⟩ = some (.bool dd)) := by
          intro w3 t3
          have g1 := t3.keep (w := w2.drew) hat.heap (fun e => hat.row_ne _ (by rw [ev]; exact e) rfl)
          have g2 := t3.keep (w := w2.drew) d2.heap (fun e => d2.row_ne_db hf _ (by rw [ev]; exact e) rfl)
          rw [ev] at g1
          exact ⟨cell_of g1 0, frozen_of g1 0, cell_of g2 1, frozen_of g2 1, cell_of g2 4⟩
        have HNE : Hid (db ≠ f.fb) := fun e => d2.db_ne hf e.symm
        clear d2 t2 hat ev BU
        go_wp2_with fail
        go_region_law (first | (refine step_row5 rfl (.tmp 56) (.tmp 59) rfl (.slice av f.text.length cv) f.text (by simp [Act.eval]) ⟨(unhide RF).own, (unhide RF).bytes⟩ a cap T (by simp [Act.eval]) (unhide LB2) hn (unhide HROOM) ?_; intro v3 w3 r3 t3 m3; obtain ⟨g1, g2, g3, g4, g5⟩ := unhide KC w3 t3; obtain ⟨a3, n3, c3, rfl⟩ := r3.shape))
        all_goals
          obtain ⟨dA, tA, oA⟩ := unhide AD w3 (.slice a3 n3 c3) r3 t3 m3
          have WK := hide (unhide WKE _ _ _ dA)
          have WT : Hid (Went w1 ((w3.setCell ⟨f.fb, 0, none⟩ (.slice a3 n3 c3)).setCell ⟨db, 1, none⟩ (.int .i64 ((usedF (fts fl) : Int) + (T.length : Int)))) db S ⟨swapF (fts fl) { f.toFt with text := f.text ++ T }, armed, ff, dd⟩) := Went.mk' (mv := mv) (fl := fl) h3 dA (by rw [fts_swap]) ((unhide T1).trans (((unhide T2).mono (fun k hk => .inl hk)).trans tA)) (fun k hk => (oA k hk).imp id (fun e => Nat.le_trans (unhide T2).size e))
          have g6 : (w3.setCell ⟨f.fb, 0, none⟩ (.slice a3 n3 c3)).cell? ⟨db, 1, none⟩ = some (.int .i64 (usedF (fts fl) : Nat)) := by
            rw [World.cell?_of_block (w := w3) (a := ⟨db, 1, none⟩) (Below.heap_setCell _ _ _ _ (unhide HNE))]; exact g3
          have g7 : (w3.setCell ⟨f.fb, 0, none⟩ (.slice a3 n3 c3)).frozen? ⟨db, 1, none⟩ = false := by
            unfold World.frozen? at g4 ⊢
            rw [Below.heap_setCell _ _ _ _ (unhide HNE)]; exact g4
          have hsum : IntKind.i64.wrap ((usedF (fts fl) : Int) + (T.length : Int)) = (usedF (fts fl) : Int) + (T.length : Int) := by simp [IntKind.wrap, IntKind.bits, IntKind.signed]; omega
          clear dA tA oA r3 t3 m3 g1 g2 g3 g4 AD KC RF x0 y0
          generalize w3.setCell ⟨f.fb, 0, none⟩ (.slice a3 n3 c3) = w4 at *
          go_wp2_with fail
          refine (unhide WK).mono ?_
          rintro e w5 ⟨rfl, rfl⟩
          go_wp2
          go_returns
          exact ⟨rfl, unhide WT⟩
      · obtain ⟨_, hnm, hfo, hG⟩ := find_four hE
        have EF : apF (fts fl) s T = ⟨s, T, 0⟩ :: fts fl := by unfold apF; rw [ft_fileOf, hfo]; rfl
        rw [EF]
        have hfew : fl.length < 4096 := by omega
        have hfew' : ¬ (4096 : Int) ≤ (fl.length : Int) := by omega
        have ADD := hide (add_any h1 hnm hfo hfew)
        have HNN : Hid (∀ g ∈ fl, g.nm ≠ s) := fun g hg e => by
          unfold fileOf at hfo
          rw [List.find?_eq_none] at hfo
          exact hfo g hg (by simp [e])
        rw [hE, hG] at FD
        clear h1 hfull hR hfe hE hG hfo EF
        simp only [ptrV] at FD
        go_enter Try.func18, Try.ntmps18
        go_wp2_with fail
        refine (unhide FD).mono ?_
        rintro e w0 ⟨rfl, rfl⟩
        go_wp2_with fail
        refine (unhide ADD).mono ?_
        rintro e w1 ⟨mv1, f, rfl, hft, d1, t1, o1⟩
        obtain ⟨fl1, hfl1⟩ : ∃ fl1, fl1 = f :: fl := ⟨_, rfl⟩
        rw [← hfl1] at d1 o1
        have hf : f ∈ fl1 := by rw [hfl1]; exact List.mem_cons_self ..
        have hu1 : usedF (fts fl1) = usedF (fts fl) := by
          rw [hfl1]
          show usedF (f.toFt :: fts fl) = _
          rw [used_cons, hft]; simp
        have hbig1 : usedF (fts fl1) + b.length ≤ 4194304 := by omega
        have hus1 : usedF (fts fl1) ≤ 4194304 := by omega
        have EFS : Hid (∀ v3, fts (swap fl1 { f with v := v3, text := f.text ++ T }) = ⟨s, T, 0⟩ :: fts fl) := by
          intro v3
          have hfn : f.nm = s := by have := congrArg Ft.nm hft; exact this
          have hftx : f.text = [] := by have := congrArg Ft.text hft; exact this
          have hfl : f.last = 0 := by have := congrArg Ft.last hft; exact this
          rw [hfl1]
          unfold fts swap
          rw [List.map_cons, List.map_cons]
          have e2 : List.map Fl.toFt (List.map (fun g => if g.nm = f.nm then ({ f with v := v3, text := f.text ++ T } : Fl) else g) fl) = fts fl := by
            rw [List.map_map]
            apply List.map_congr_left
            intro g hg
            show (if g.nm = f.nm then ({ f with v := v3, text := f.text ++ T } : Fl) else g).toFt = g.toFt
            rw [if_neg (by rw [hfn]; exact unhide HNN g hg)]
          refine congr (congrArg List.cons ?_) e2
          show (if f.nm = f.nm then ({ f with v := v3, text := f.text ++ T } : Fl) else f).toFt = _
          rw [if_pos rfl]
          show ({ nm := f.nm, text := f.text ++ T, last := f.last } : Ft) = _
          rw [hfn, hftx, hfl]; rfl
        have D1 := hide d1
        have T1 := hide t1
        have O1 := hide o1
        clear d1 t1 o1 hu1 hfl1 hft ADD hbig hus c0 c1 hlen
        have LBW := hide ((unhide HB).keep (unhide T1) (fun h0 x hx e => unhide HD h0 x hx (h3 _ e)))
        go_wp2_with fail
        refine (unhide BU _ _ _ (unhide D1)).mono ?_
        rintro e w2 ⟨rfl, d2, t2⟩
        have T2 := hide t2
        have hat := d2.each f hf
        have LB2 : Hid (LAt w2 a T) := by
          refine (unhide LB1 _ (unhide LBW)).keep t2 (fun h0 x hx e => ?_)
          exact unhide HD (by have := hbn; omega) x hx (by rw [e]; exact h3 _ (.inl rfl))
        obtain ⟨av, cv, ev, _⟩ := hat.row.parts
        have x0 : w2.cell? ⟨f.fb, 0, none⟩ = some (.slice av f.text.length cv) := by rw [← ev]; exact hat.cell0
        have y0 := hat.frozen 0
        have RF : Hid (Row w2 (.slice av f.text.length cv) f.text) := by rw [← ev]; exact hat.row
        have hfu : f.text.length ≤ usedF (fts fl1) := used_mem (List.mem_map.2 ⟨f, hf, rfl⟩ : f.toFt ∈ fts fl1)
        have AD : Hid (∀ w3 v3, Row w3 v3 (f.text ++ T) → Touch (fun k => (Value.slice av f.text.length cv).ownBlock = some k) w2.drew w3 → Moved w2.drew (.slice av f.text.length cv) v3 → DiskAt ((w3.setCell ⟨f.fb, 0, none⟩ v3).setCell ⟨db, 1, none⟩ (.int .i64 ((usedF (fts fl1) : Int) + (T.length : Int)))) db mv1 (swap fl1 { f with v := v3, text := f.text ++ T }) armed ff dd ∧ Touch (Owns db mv1 fl1) w2 ((w3.setCell ⟨f.fb, 0, none⟩ v3).setCell ⟨db, 1, none⟩ (.int .i64 ((usedF (fts fl1) : Int) + (T.length : Int)))) ∧ ∀ k, Owns db mv1 (swap fl1 { f with v := v3, text := f.text ++ T }) k → Owns db mv1 fl1 k ∨ w2.heap.size ≤ k) := by
          intro w3 v3 r3 t3 m3
          rw [← ev] at t3 m3
          exact append_done d2 hf r3 ((Touch.refl _ w2).drew.trans t3) m3 (by omega)
        have HROOM : Hid (f.text.length + T.length ≤ 140737488355328) := by show f.text.length + T.length ≤ 140737488355328; omega
        have KC : Hid (∀ w3, Touch (fun k => (Value.slice av f.text.length cv).ownBlock = some k) w2.drew w3 → w3.cell? ⟨f.fb, 0, none⟩ = some (.slice av f.text.length cv) ∧ w3.frozen? ⟨f.fb, 0, none⟩ = false ∧ w3.cell? ⟨db, 1, none⟩ = some (.int .i64 (usedF (fts fl1) : Nat)) ∧ w3.frozen? ⟨db, 1, none⟩ = false ∧ w3.cell? ⟨db, 4, none⟩ = some (.bool dd)) := by
          intro w3 t3
          have g1 := t3.keep (w := w2.drew) hat.heap (fun e => hat.row_ne _ (by rw [ev]; exact e) rfl)
          have g2 := t3.keep (w := w2.drew) d2.heap (fun e => d2.row_ne_db hf _ (by rw [ev]; exact e) rfl)
          rw [ev] at g1
          exact ⟨cell_of g1 0, frozen_of g1 0, cell_of g2 1, frozen_of g2 1, cell_of g2 4⟩
        have HNE : Hid (db ≠ f.fb) := fun e => d2.db_ne hf e.symm
        clear d2 t2 hat ev BU
        go_wp2_with fail
        go_region_law (first | (refine step_row5 rfl (.tmp 56) (.tmp 59) rfl (.slice av f.text.length cv) f.text (by simp [Act.eval]) ⟨(unhide RF).own, (unhide RF).bytes⟩ a cap T (by simp [Act.eval]) (unhide LB2) hn (unhide HROOM) ?_; intro v3 w3 r3 t3 m3; obtain ⟨g1, g2, g3, g4, g5⟩ := unhide KC w3 t3; obtain ⟨a3, n3, c3, rfl⟩ := r3.shape))
        all_goals
          obtain ⟨dA, tA, oA⟩ := unhide AD w3 (.slice a3 n3 c3) r3 t3 m3
          have WK := hide (unhide WKE _ _ _ dA)
          have WT : Hid (Went w0 ((w3.setCell ⟨f.fb, 0, none⟩ (.slice a3 n3 c3)).setCell ⟨db, 1, none⟩ (.int .i64 ((usedF (fts fl1) : Int) + (T.length : Int)))) db S ⟨⟨s, T, 0⟩ :: fts fl, armed, ff, dd⟩) := Went.mk' (mv := mv) (fl := fl) h3 dA (unhide EFS _) (touch_more ((unhide T1).trans ((unhide T2).mono (fun k hk => .inl hk))) tA (fun k hk => unhide O1 k hk)) (fun k hk => by rcases oA k hk with e | e; exact unhide O1 k e; exact .inr (Nat.le_trans (unhide T1).size (Nat.le_trans (unhide T2).size e)))
          have g6 : (w3.setCell ⟨f.fb, 0, none⟩ (.slice a3 n3 c3)).cell? ⟨db, 1, none⟩ = some (.int .i64 (usedF (fts fl1) : Nat)) := by
            rw [World.cell?_of_block (w := w3) (a := ⟨db, 1, none⟩) (Below.heap_setCell _ _ _ _ (unhide HNE))]; exact g3
          have g7 : (w3.setCell ⟨f.fb, 0, none⟩ (.slice a3 n3 c3)).frozen? ⟨db, 1, none⟩ = false := by
            unfold World.frozen? at g4 ⊢
            rw [Below.heap_setCell _ _ _ _ (unhide HNE)]; exact g4
          have hsum : IntKind.i64.wrap ((usedF (fts fl1) : Int) + (T.length : Int)) = (usedF (fts fl1) : Int) + (T.length : Int) := by simp [IntKind.wrap, IntKind.bits, IntKind.signed]; omega
          clear dA tA oA r3 t3 m3 g1 g2 g3 g4 AD KC RF x0 y0
          generalize w3.setCell ⟨f.fb, 0, none⟩ (.slice a3 n3 c3) = w4 at *
          go_wp2_with fail
          refine (unhide WK).mono ?_
          rintro e w5 ⟨rfl, rfl⟩
          go_wp2
          go_returns
          exact ⟨rfl, unhide WT⟩
end
end Go.Proofs.Ytfdpnfeaagijhaa
