/-
  A table of producers, any: the further steps of Apply; Check of any table. Conditions: none but the table's own.
-/
import Derived.Test.YtjocjnjdmmihnaaQc9
namespace Go.Proofs.Ytjocjnjdmmihnaa
open Go.RowKit
set_option linter.unusedVariables false

theorem PM.later {w w' : World} {b : Nat} {m : Pps} (h : PM w b m) (hb : Below w.heap.size w w') : PM w' b m := h.keep (Touch.of_below (S := fun _ => False) hb) (fun h => h)
section
variable {w W W' : World} {tb gp n c : Nat} {mv av : Value} {m : Pps} {K : Nat → Option Kn} {R S : Nat → Prop} {b : Bt} {a : Option Addr} {cap : Nat} {p p2 : Pd} {ls ls2 : List Sn}
theorem Tb.look (h : Tb w tb mv av m K n c R) {s : Nat} (hs : s < 18446744073709551616) (hb : Below w.heap.size w W) : (Instr.lookup 46 mv (.int .u64 (s : Int)) true).run Try.prog W = .ok (.tuple #[pdV (gotP (patx m s)), .bool (patx m s).isSome]) W := by
  rcases h.map with ⟨e1, e2⟩ | ⟨mb, e1, e2, _⟩
  · rw [e1, e2]
    exact plook_nil hs W
  · rw [e1]
    exact (e2.later hb).look hs
theorem Tb.isMap (h : Tb w tb mv av m K n c R) : ∃ mb, mv = .map mb := by
  rcases h.map with ⟨e1, e2⟩ | ⟨mb, e1, e2, _⟩
  · exact ⟨_, e1⟩
  · exact ⟨_, e1⟩
/-- The producer of a number, when a batch of an epoch comes. -/
theorem Tb.at (h : Tb w tb mv av m K n c R) (s : Nat) (ep : Int) : Fits (atP (gotP (patx m s)) (patx m s).isSome ep) (atK (K s) ep) ∧ Lst9 w (atP (gotP (patx m s)) (patx m s).isSome ep) (atK (K s) ep).ls ∧ (atK (K s) ep).ls.length ≤ 5 ∧ ∀ k, (pdS (atP (gotP (patx m s)) (patx m s).isSome ep)).ownBlock = some k → R k ∧ ∀ t r, (t, r) ∈ m → t ≠ s → (pdS r).ownBlock ≠ some k := by
  cases hq : patx m s with
  | none =>
    rw [h.non s hq]
    have e : atP (gotP none) (none : Option Pd).isSome ep = ⟨ep, 0, none, 0, 0, false, 0⟩ := by unfold atP; rw [if_pos (.inl rfl)]; rfl
    rw [e]
    refine ⟨⟨rfl, rfl, rfl, rfl⟩, ⟨Wide.nil _ _ _, rfl⟩, by simp [atK], fun k hk => ?_⟩
    simp [Value.ownBlock] at hk
  | some q =>
    have hm := pat_some hq
    obtain ⟨k, k1, k2, k3, k4⟩ := h.hav s q hm
    rw [k1]
    have e : atP (gotP (some q)) (some q).isSome ep = if q.ep < ep then ⟨ep, 0, none, 0, 0, q.op, q.fi⟩ else q := by
      unfold atP
      simp [gotP]
    have e2 : atK (some k) ep = if k.ep < ep then ⟨ep, 0, k.op, k.fi, []⟩ else k := rfl
    rw [e, e2, k2.ep]
    by_cases hlt : k.ep < ep
    · rw [if_pos hlt, if_pos hlt]
      refine ⟨⟨rfl, rfl, k2.op, k2.fi⟩, ⟨Wide.nil _ _ _, rfl⟩, by simp, fun k hk => ?_⟩
      simp [Value.ownBlock] at hk
    · rw [if_neg hlt, if_neg hlt]
      exact ⟨k2, k3, k4, fun k hk => ⟨h.own s q hm k hk, fun t r ht hne e => h.apt t r s q ht hm hne k e hk⟩⟩
theorem Tb.lt (h : Tb w tb mv av m K n c R) : tb < w.heap.size := lt_of_heap h.tab
/-- Apply begins. -/
theorem Tb.start (h : Tb w tb mv av m K n c R) (hb : Below w.heap.size w W) (hbat : W.heap[w.heap.size]? = some (.cells (btC b a cap) 30)) (hp : PdAt W gp (atP (gotP (patx m b.pid)) (patx m b.pid).isSome b.pep)) (hg : w.heap.size < gp) :
    ApS w W tb gp mv av m K n R b a cap (atP (gotP (patx m b.pid)) (patx m b.pid).isSome b.pep) (atK (K b.pid) b.pep).ls := by
  obtain ⟨a1, a2, a3, a4⟩ := h.at b.pid b.pep
  refine ⟨below_keep hb h.tab, hbat, hp, a2.later hb, ?_, fun s q hq hs => ?_, fun s q hq _ => h.own s q hq, fun s q t r hq hr _ _ => h.apt s q t r hq hr, fun s q hq hs k hk e => ?_, fun k hk => .inl (a4 k hk).1, ?_, fun k hk => .inl (h.abo k hk), Touch.of_below hb, hg, h.lt, h.tbr⟩
  · rcases h.map with e | ⟨mb, e1, e2, e3⟩
    · exact .inl e
    · exact .inr ⟨mb, e1, e2.later hb, .inl e3⟩
  · obtain ⟨k, k1, k2, k3, k4⟩ := h.hav s q hq
    exact ⟨k, k1, k2, k3.later hb, k4⟩
  · exact (a4 k e).2 s q hq hs hk
  · obtain ⟨xs, hx⟩ := h.abr
    exact ⟨xs, hx.later hb⟩
/-- A map is made. -/
theorem ApS.made (h : ApS w W tb gp mv av m K n R b a cap p ls) (hm : mv = .map none) : ApS w ((W.setCell ⟨tb, 0, none⟩ (.map (some W.heap.size))).alloc (.map #[] 0)) tb gp (.map (some W.heap.size)) av [] K n R b a cap p ls := by
  have t1 := touch_set W tb 0 (.map (some W.heap.size))
  have hs0 : (W.setCell ⟨tb, 0, none⟩ (.map (some W.heap.size))).heap.size = W.heap.size := by simp [World.setCell]
  have t2 : Touch (fun _ => False) (W.setCell ⟨tb, 0, none⟩ (.map (some W.heap.size))) ((W.setCell ⟨tb, 0, none⟩ (.map (some W.heap.size))).alloc (.map #[] 0)) := (Touch.refl _ _).alloc _
  have t : Touch (· = tb) W ((W.setCell ⟨tb, 0, none⟩ (.map (some W.heap.size))).alloc (.map #[] 0)) := touch_new t1 t2 (fun _ h => h.elim)
  have hsent : ∀ k, (pdS p).ownBlock = some k → k ≠ tb := fun k hk e => by
    obtain ⟨cs, hc⟩ := h.lst.1.heap hk
    rw [e] at hc
    exact absurd (Obj.cells.inj (heap_eq h.tab hc)).2.1 (by decide)
  have hT := h.tab
  have hmm : m = [] := by
    rcases h.map with e | ⟨mb, e1, _⟩
    · exact e.2
    · rw [hm] at e1; cases e1
  refine ⟨heap_old _ (heap_set h.tab 0 _), t.keep h.bat (show ¬ w.heap.size = tb by have := h.tbw; omega), t.keep h.pd (fun e => h.tb_gp e.symm), ⟨h.lst.1.keep t hsent, h.lst.2⟩, .inr ⟨W.heap.size, rfl, ?_, .inr h.tch.size⟩, fun _ _ hq => (List.not_mem_nil hq).elim, fun _ _ hq => (List.not_mem_nil hq).elim, fun _ _ _ _ hq => (List.not_mem_nil hq).elim, fun _ _ hq => (List.not_mem_nil hq).elim, h.mov, ?_, h.abo, touch_new h.tch t (fun k hk => .inl (by rw [hk]; exact h.tbr)), h.big, h.tbw, h.tbr⟩
  · have := PM.made (W.setCell ⟨tb, 0, none⟩ (.map (some W.heap.size)))
    rw [hs0] at this
    exact this
  · obtain ⟨xs, hx⟩ := h.abr
    exact ⟨xs, hx.keep t (fun k hk e => h.ab_not hk hT (by decide) e)⟩
/-- An aborted transaction more. -/
theorem ApS.aborts {X W3 : World} (h : ApS w W tb gp mv av m K n R b a cap p ls) (hX : Below W.heap.size W X) {v3 : Value} {ys : List Value} (o3 : Wide W3 57 3 v3 (n + 1) ys) (t3 : Touch (fun k => av.ownBlock = some k) X W3) (m3 : Moved X av v3) :
    W3.cell? ⟨tb, 1, none⟩ = some av ∧ W3.frozen? ⟨tb, 1, none⟩ = false ∧ ApS w (W3.setCell ⟨tb, 1, none⟩ v3) tb gp mv v3 m K (n + 1) R b a cap p ls := by
  have hx := h.later hX
  have nt : ¬ av.ownBlock = some tb := fun e => h.ab_not e h.tab (by decide) rfl
  have nb : ¬ av.ownBlock = some w.heap.size := fun e => h.ab_not e h.bat (by decide) rfl
  have hgW := h.pd
  have ng : ¬ av.ownBlock = some gp := fun e => h.ab_not e hgW (by decide) rfl
  have hT3 := t3.keep hx.tab nt
  have ts := touch_set W3 tb 1 v3
  have t : Touch (fun k => av.ownBlock = some k ∨ k = tb) X (W3.setCell ⟨tb, 1, none⟩ v3) := touch_new (t3.mono (fun _ h => .inl h)) ts (fun k hk => .inl (.inr hk))
  have hrow : ∀ (q : Pd) (l : List Sn), Lst9 X q l → ∀ k, (pdS q).ownBlock = some k → ¬ (av.ownBlock = some k ∨ k = tb) := by
    rintro q l hl k hk (e | e)
    · obtain ⟨cs, hc⟩ := hl.1.heap hk
      exact hx.ab_not e hc (by decide) rfl
    · obtain ⟨cs, hc⟩ := hl.1.heap hk
      rw [e] at hc
      exact absurd (Obj.cells.inj (heap_eq hx.tab hc)).2.1 (by decide)
  have hav : ∀ k, av.ownBlock = some k → R k ∨ w.heap.size ≤ k := h.abo
  refine ⟨by rw [cell_of hT3]; rfl, frozen_of hT3 1, heap_set hT3 1 v3, t.keep hx.bat ?_, t.keep hx.pd ?_, ⟨hx.lst.1.keep t (hrow p ls hx.lst), hx.lst.2⟩, ?_, fun s q hq hs => ?_, h.own, h.apt, h.apn, h.mov, ⟨ys, o3.keep ts ?_⟩, ?_, touch_new hx.tch t ?_, h.big, h.tbw, h.tbr⟩
  · rintro (e | e)
    · exact nb e
    · have := h.tbw; omega
  · rintro (e | e)
    · exact ng e
    · exact h.tb_gp e.symm
  · rcases hx.map with e | ⟨mb, e1, e2, e3⟩
    · exact .inl e
    · refine .inr ⟨mb, e1, e2.keep t ?_, e3⟩
      rintro (e | e)
      · obtain ⟨xs, hxs⟩ := hx.abr
        obtain ⟨cs, hc⟩ := hxs.heap e
        exact hx.mb_not e1 hc rfl
      · exact hx.mb_not e1 hx.tab e
  · obtain ⟨kn, e1, e2, e3, e4⟩ := hx.oth s q hq hs
    exact ⟨kn, e1, e2, ⟨e3.1.keep t (hrow q kn.ls e3), e3.2⟩, e4⟩
  · intro k hk e
    rcases m3 k hk with e2 | e2
    · exact nt (by rw [← e]; exact e2)
    · have := lt_of_heap hx.tab; omega
  · intro k hk
    rcases m3 k hk with e2 | e2
    · exact h.abo k e2
    · exact .inr (Nat.le_trans hx.tch.size e2)
  · rintro k (e | e)
    · exact h.abo k e
    · exact .inl (by rw [e]; exact h.tbr)
/-- The producer is put into the map. -/
theorem ApS.stored {mb : Nat} (h : ApS w W tb gp (.map (some mb)) av m K n R b a cap p ls) (hc : m.length ≤ c) (hn : n ≤ c + 1) (hcm : c < maxLen) (h64 : b.pid < 18446744073709551616) (hnon : ∀ s, patx m s = none → K s = none) (k' : Kn) (hf : Fits p k') (hls : k'.ls = ls) (h5 : ls.length ≤ 5) :
    ∃ w', (Instr.mapUpdate 46 (.map (some mb)) (.int .u64 (b.pid : Int)) (pdV p)).run Try.prog W = .ok () w' ∧ Tb w' tb (.map (some mb)) av ((b.pid, p) :: pdel m b.pid) (fun s => if s = b.pid then some k' else K s) n (c + 1) (fun k => R k ∨ (w.heap.size ≤ k ∧ k < w'.heap.size)) ∧ Touch R w w' := by
  obtain ⟨mb', e1, hpm, hmb⟩ : ∃ mb', Value.map (some mb) = .map (some mb') ∧ PM W mb' m ∧ (R mb' ∨ w.heap.size ≤ mb') := by
    rcases h.map with ⟨e, _⟩ | ⟨mb', e1, e2, e3⟩
    · cases e
    · exact ⟨mb', e1, e2, e3⟩
  cases e1
  obtain ⟨w', hrun, m3, t3⟩ := hpm.store (by omega) h64 p
  have hmbn : ∀ {k : Nat} {cs : Array Value} {t : TypeId}, W.heap[k]? = some (.cells cs t) → ¬ k = mb := fun hk e => h.mb_not rfl hk e.symm
  have hrow : ∀ (q : Pd) (l : List Sn), Lst9 W q l → ∀ k, (pdS q).ownBlock = some k → ¬ k = mb := fun q l hl k hk => by
    obtain ⟨cs, hc⟩ := hl.1.heap hk
    exact hmbn hc
  have hin : ∀ k, R k ∨ w.heap.size ≤ k → k < w'.heap.size → R k ∨ (w.heap.size ≤ k ∧ k < w'.heap.size) := fun k hk hlt => hk.imp id (fun e => ⟨e, hlt⟩)
  have hlt : ∀ (q : Pd) (l : List Sn), Lst9 W q l → ∀ k, (pdS q).ownBlock = some k → k < w'.heap.size := fun q l hl k hk => Nat.lt_of_lt_of_le (hl.1.lt k hk) t3.size
  have hT := h.tab
  refine ⟨w', hrun, ⟨t3.keep h.tab (hmbn hT), .inr ⟨mb, rfl, m3, hin mb hmb m3.lt⟩, ?_, ?_, ?_, ?_, ?_, ?_, .inl h.tbr, ?_, hn⟩, touch_new h.tch t3 (fun k hk => by rw [hk]; exact hmb)⟩
  · intro s hs
    have h1 := pat_none hs
    have h2 : s ≠ b.pid := fun e => h1 (b.pid, p) (List.mem_cons_self ..) e.symm
    show (if s = b.pid then some k' else K s) = none
    rw [if_neg h2]
    apply hnon
    cases hq : patx m s with
    | none => rfl
    | some q =>
      have h3 := pat_some hq
      exact absurd rfl (h1 (s, q) (List.mem_cons_of_mem _ (by simp [pdel, h3, h2])))
  · intro s q hq
    rcases List.mem_cons.1 hq with e | e
    · cases e
      exact ⟨k', if_pos rfl, hf, by rw [hls]; exact ⟨h.lst.1.keep t3 (hrow p ls h.lst), h.lst.2⟩, by rw [hls]; exact h5⟩
    · obtain ⟨e1, e2⟩ := pdel_not e
      obtain ⟨k, k1, k2, k3, k4⟩ := h.oth s q e1 e2
      exact ⟨k, by show (if s = b.pid then some k' else K s) = _; rw [if_neg e2]; exact k1, k2, ⟨k3.1.keep t3 (hrow q k.ls k3), k3.2⟩, k4⟩
  · intro s q hq k hk
    rcases List.mem_cons.1 hq with e | e
    · cases e
      exact hin k (h.mov k hk) (hlt p ls h.lst k hk)
    · obtain ⟨e1, e2⟩ := pdel_not e
      exact .inl (h.own s q e1 e2 k hk)
  · intro s q t r hq hr hst k hk
    rcases List.mem_cons.1 hq with e | e
    · cases e
      rcases List.mem_cons.1 hr with e' | e'
      · cases e'; exact absurd rfl hst
      · obtain ⟨e1, e2⟩ := pdel_not e'
        exact fun e3 => h.apn t r e1 e2 k e3 hk
    · obtain ⟨e1, e2⟩ := pdel_not e
      rcases List.mem_cons.1 hr with e' | e'
      · cases e'
        exact h.apn s q e1 e2 k hk
      · obtain ⟨e3, e4⟩ := pdel_not e'
        exact h.apt s q t r e1 e3 e2 e4 hst k hk
  · obtain ⟨xs, hx⟩ := h.abr
    exact ⟨xs, hx.keep t3 (fun k hk => by obtain ⟨cs, hc⟩ := hx.heap hk; exact hmbn hc)⟩
  · intro k hk
    obtain ⟨xs, hx⟩ := h.abr
    exact hin k (h.abo k hk) (Nat.lt_of_lt_of_le (hx.lt k hk) t3.size)
  · have : (pdel m b.pid).length ≤ m.length := List.length_filter_le _ _
    rw [List.length_cons]
    omega
theorem abort_info : ∃ i z, Try.prog.info? 57 = some i ∧ i.zero = some z ∧ i.size = 3 ∧ i.bytes = 24 ∧ z.cells.size = 3 := by
  have h : (Try.prog.info? 57).map (fun i => (i.zero.map (fun z => z.cells.size), i.size, i.bytes)) = some (some 3, 3, 24) := by kernel_rfl
  cases hi : Try.prog.info? 57 with
  | none => rw [hi] at h; cases h
  | some i =>
    rw [hi] at h
    simp only [Option.map_some, Option.some.injEq, Prod.mk.injEq] at h
    obtain ⟨h1, h2, h3⟩ := h
    cases hz : i.zero with
    | none => rw [hz] at h1; cases h1
    | some z => rw [hz] at h1; exact ⟨i, z, rfl, hz, h2, h3, by simpa using h1⟩
theorem step_abort {ops : Array Oper} {o : Oper} {a : Act} {w : World} {K : Act → World → Prop} {Q : Exit → Act → World → Prop} {E : Prop}
    (hg : o.guard = none) (s x : Operand) (hop : o.op = Op.call { callee := Callee.builtin Builtin.append, args := #[s, x], argTypes := #[47, 47] })
    (v : Value) (n : Nat) (xs : List Value) (hs : a.eval s = v) (hr : Wide w 57 3 v n xs) (g : Nat) (cs : Array Value) (news : List Value) (hx : a.eval x = .slice (some ⟨g, 0, none⟩) 1 1) (hu : w.heap[g]? = some (.cells cs 57)) (hcs : cs.toList = news) (hl : news.length = 3) (h1 : ∀ u ∈ news, u.oneCell' = true) (hlen : n ≤ 2000000000000)
    (hK : ∀ v' w', Wide w' 57 3 v' (n + 1) (xs ++ news) → Touch (fun k => v.ownBlock = some k) w w' → Moved w v v' → K (a.put o.dst v') w') :
    if Region.wanted o (yielded ops a.tmps) = true then Oper.wp Try.prog o a w K Q else E := by
  have hw : Region.wanted o (yielded ops a.tmps) = true := by simp [Region.wanted, hg]
  rw [if_pos hw]
  obtain ⟨i, z, hi, hz, hsz, hby, hzs⟩ := abort_info
  obtain ⟨v', w', hrun, r1, r2, r3⟩ := run_wide (P := Try.prog) w 47 o.type 57 i z 3 24 Try.underlying47 hi hz hsz hby hzs (by omega) v n xs hr g 0 1 news hl (fun j u hj => by rw [cell_of hu, Nat.zero_add, ← Array.getElem?_toList, hcs]; exact hj) h1 (by unfold maxLen; omega) (by omega)
  unfold Oper.wp
  simp [execOp, hop, resolve, invoke, builtin, hs, hx, hrun, Result.andThen]
  exact hK v' w' r1 r2 r3
end
end Go.Proofs.Ytjocjnjdmmihnaa
