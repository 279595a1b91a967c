/-
  The document's net in memory; its Send and At. Conditions: the net is one, and so is the packet.
-/
import Derived.Test.YtgpfkedihgoohaaPr11
namespace Go.Proofs.Ytgpfkedihgoohaa
open Go.RowKit
set_option linter.unusedVariables false

/-- append of m elements to a row of several cells. -/
theorem run_wides {P : Program} (w : World) (t ty e : TypeId) (i : TypeInfo) (z : Value) (sz bytes : Nat) (ht : P.underlying t = some (.slice e)) (hi : P.info? e = some i) (hz : i.zero = some z)
    (hsize : i.size = sz) (hby : i.bytes = bytes) (hzs : z.cells.size = sz) (hsz : 0 < sz) (v : Value) (n : Nat) (xs : List Value) (hown : Wide w e sz v n xs)
    (ad : Addr) (m c : Nat) (news : List Value) (hm : news.length = m * sz) (hn' : ∀ j u, news[j]? = some u → w.cell? (ad.add j) = some u) (h1 : ∀ u ∈ news, u.oneCell' = true)
    (h63 : n + m ≤ maxLen) (hbytes : (n + m) * bytes ≤ 140737488355328) :
    ∃ v' w', (Builtin.append_ #[t, t] ty #[v, .slice (some ad) m c]).run P w = .ok v' w' ∧ Wide w' e sz v' (n + m) (xs ++ news) ∧ Touch (fun k => v.ownBlock = some k) w w' ∧ Moved w v v' := by
  obtain ⟨v', w', hrun, o', g', _⟩ := run_append_own (P := P) w 0 t ty e i z sz bytes ht hi hz hsize hby hzs hsz v n xs hown ad m c news hm hn' h1 h63 hbytes (Nat.zero_le _)
  refine ⟨v', w', hrun, o', ⟨g'.os, g'.tape, g'.output, g'.size, fun k hk hs => g'.block k hk (fun e => hs e.symm)⟩, ?_⟩
  intro k hk
  have hsm : n + m ≤ 9223372036854775807 := by simp only [maxLen] at h63; omega
  rcases hown.2 with ⟨rfl, hx0⟩ | ⟨g, cap, cur, rfl, _, hgg, hnc, hcm, hcs, htk⟩
  · by_cases hm0 : m = 0
    · subst hm0
      have hr : (Builtin.append_ #[t, t] ty #[.slice none 0 0, .slice (some ad) 0 c]).run P w = .ok (.slice none 0 0) w := by
        simp [Builtin.append_, run_underlying ht, sizeOf, typeInfo, hi, Builtin.lenOf, Builtin.firstCells, loadCells, loadCellsFrom]
      rw [hr] at hrun
      cases hrun
      exact .inl hk
    · have hb : (0 + m) * bytes ≤ 140737488355328 := by rw [hx0] at hbytes; exact hbytes
      have hr := run_append_nil (P := P) w t ty e i z ht hi hz _ m c news (by rw [hsize]; exact hm) hn' (by omega) (by omega) (by simp only [Nat.zero_add] at hb; rw [hby]; omega)
      rw [hr] at hrun
      cases hrun
      right
      have hk' : some w.heap.size = some k := hk
      cases hk'; exact Nat.le_refl _
  · by_cases hroom : n + m ≤ cap
    · have hfit : n * i.size + news.length ≤ cur.size := by rw [hsize, hm, hcs, ← Nat.add_mul]; exact Nat.mul_le_mul_right _ hroom
      have hr := run_append_room (P := P) w t ty e i ht hi g n cap cur hgg _ m c news (by rw [hsize]; exact hm) hn' h1 hroom hfit
      rw [hr] at hrun
      cases hrun
      exact .inl hk
    · have holds : ∀ j u, xs[j]? = some u → w.cell? ((⟨g, 0, none⟩ : Addr).add j) = some u := World.ownsRow.cells hown (g := g) rfl
      have hr := run_append_grow (P := P) w t ty e i z ht hi hz ⟨g, 0, none⟩ n cap xs (by rw [hsize]; exact hown.1) holds _ m c news (by rw [hsize]; exact hm) hn' (by omega) (by omega) (by rw [hby]; exact growslice_fits (by omega) hbytes)
      rw [hr] at hrun
      cases hrun
      right
      have hk' : some w.heap.size = some k := hk
      cases hk'; exact Nat.le_refl _
theorem wpList_pks (w : World) {ops : Array Oper} {rest : List Oper} {o : Oper} {a : Act} {Q : Exit → Act → World → Prop}
    (hg : o.guard = none) (s x : Operand) (hop : o.op = Op.call { callee := Callee.builtin Builtin.append, args := #[s, x], argTypes := #[26, 26] })
    (v : Value) (n : Nat) (xs : List Value) (hs : a.eval s = v) (hown : Wide w 33 3 v n xs)
    (ad : Addr) (m c : Nat) (news : List Value) (hx : a.eval x = .slice (some ad) m c) (hm : news.length = m * 3) (hn' : ∀ j u, news[j]? = some u → w.cell? (ad.add j) = some u) (h1 : ∀ u ∈ news, u.oneCell' = true)
    (hl : n + m ≤ 1099511627776)
    (hK : ∀ v' w', Wide w' 33 3 v' (n + m) (xs ++ news) → Touch (fun k => v.ownBlock = some k) w w' → Moved w v v' → wpList Try.prog ops Q rest (a.put o.dst v') w') :
    wpList Try.prog ops Q (o :: rest) a w := by
  refine wpList_plain hg fun K hK' => ?_
  obtain ⟨i, z, hi, hz, hsz, hby, hzs⟩ := pk_info
  obtain ⟨v', w', hrun, r1, r2, r3⟩ := run_wides (P := Try.prog) w 26 o.type 33 i z 3 40 Try.underlying26 hi hz hsz hby hzs (by omega) v n xs hown ad m c news hm hn' h1 (by unfold maxLen; omega) (by omega)
  unfold Oper.wp
  simp [execOp, hop, resolve, invoke, builtin, hs, hx, hrun, Result.andThen]
  exact hK' _ _ (hK v' w' r1 r2 r3)

structure RefAt (w : World) (rb : Nat) (v cv : Value) (ps : List Pk) (D : Cts) : Prop where
  box : w.heap[rb]? = some (.cells #[v, cv] 29)
  list : PL w v ps
  cuts : Wide w 46 2 cv D.length (D.flatMap prC)
  cin : ∀ x ∈ D, InR x.1 ∧ InR x.2
def RB (rb : Nat) (v cv : Value) (ps : List Pk) (k : Nat) : Prop := k = rb ∨ cv.ownBlock = some k ∨ PLB v ps k
structure RS (w : World) (rb : Nat) (R : Nat → Prop) (qs : List Pa) (D : Cts) : Prop where
  ex : ∃ v cv ps, RefAt w rb v cv ps D ∧ ps.map Pk.abs = qs ∧ ∀ k, RB rb v cv ps k → R k
  lt : ∀ k, R k → k < w.heap.size
/-- What a call leaves; X: blocks that it was handed. -/
def RPost (w : World) (rb : Nat) (R X : Nat → Prop) (qs : List Pa) (D : Cts) (w' : World) : Prop := ∃ R', RS w' rb R' qs D ∧ Touch R w w' ∧ ∀ k, R' k → R k ∨ X k ∨ w.heap.size ≤ k
section
variable {w w' : World} {rb : Nat} {v cv : Value} {ps : List Pk} {D : Cts} {R S X : Nat → Prop} {qs : List Pa}
theorem RefAt.keep (h : RefAt w rb v cv ps D) (t : Touch S w w') (hs : ∀ k, RB rb v cv ps k → ¬ S k) : RefAt w' rb v cv ps D :=
  ⟨t.keep h.box (hs rb (.inl rfl)), h.list.keep t (fun k hk => hs k (.inr (.inr hk))), h.cuts.keep t (fun m hm => hs m (.inr (.inl hm))), h.cin⟩
theorem RefAt.lt (h : RefAt w rb v cv ps D) : ∀ k, RB rb v cv ps k → k < w.heap.size := by
  rintro k (rfl | hk | hk)
  · exact lt_of_heap h.box
  · exact h.cuts.lt k hk
  · exact h.list.lt k hk
theorem RS.keep (h : RS w rb R qs D) (t : Touch S w w') (hs : ∀ k, R k → ¬ S k) : RS w' rb R qs D := by
  obtain ⟨v, cm, ps, h1, h2, h3⟩ := h.ex
  exact ⟨⟨v, cm, ps, h1.keep t (fun k hk => hs k (h3 k hk)), h2, h3⟩, fun k hk => Nat.lt_of_lt_of_le (h.lt k hk) t.size⟩
theorem RS.later (h : RS w rb R qs D) (hb : Below w.heap.size w w') : RS w' rb R qs D := h.keep (Touch.of_below (S := fun _ => False) hb) (fun _ _ h => h)
theorem RS.post (h : RS w rb R qs D) (hb : Below w.heap.size w w') : RPost w rb R X qs D w' := ⟨R, h.later hb, Touch.of_below hb, fun k hk => .inl hk⟩
theorem RPost.later {w'' : World} (h : RPost w rb R X qs D w') (hb : Below w'.heap.size w' w'') : RPost w rb R X qs D w'' := by
  obtain ⟨R', h1, h2, h3⟩ := h
  exact ⟨R', h1.later hb, h2.trans (Touch.of_below hb), h3⟩
theorem RPost.after {w0 : World} (h : RPost w rb R X qs D w') (hb : Below w0.heap.size w0 w) : RPost w0 rb R X qs D w' := by
  obtain ⟨R', h1, h2, h3⟩ := h
  refine ⟨R', h1, (Touch.of_below hb).trans h2, fun k hk => ?_⟩
  rcases h3 k hk with e | e | e
  · exact .inl e
  · exact .inr (.inl e)
  · exact .inr (.inr (Nat.le_trans hb.size e))
theorem RPost.of {qs' : List Pa} {D' : Cts} {v' cv' : Value} {ps' : List Pk} (hR : ∀ k, RB rb v cv ps k → R k) (h : RefAt w' rb v' cv' ps' D') (hq : ps'.map Pk.abs = qs') (t : Touch (RB rb v cv ps) w w') (hn : ∀ k, RB rb v' cv' ps' k → RB rb v cv ps k ∨ X k ∨ w.heap.size ≤ k) : RPost w rb R X qs' D' w' :=
  ⟨RB rb v' cv' ps', ⟨⟨v', cv', ps', h, hq, fun k hk => hk⟩, h.lt⟩, t.mono hR, fun k hk => (hn k hk).imp (hR k) id⟩
theorem RefAt.apart (h : RefAt w rb v cv ps D) : (∀ p ∈ ps, (pkS p).ownBlock ≠ some rb) ∧ v.ownBlock ≠ some rb ∧ cv.ownBlock ≠ some rb ∧ (∀ m, cv.ownBlock = some m → v.ownBlock ≠ some m ∧ ∀ p ∈ ps, (pkS p).ownBlock ≠ some m) := by
  refine ⟨fun p hp e => ?_, fun e => ?_, fun e => ?_, fun m hm => ⟨fun e => ?_, fun p hp e => ?_⟩⟩
  · obtain ⟨c2, h2⟩ := (h.list.each p hp).row.heap e
    rw [h.box] at h2
    exact absurd (Obj.cells.inj (Option.some.inj h2)).2.1 (by decide)
  · obtain ⟨c2, h2⟩ := h.list.row.heap e
    rw [h.box] at h2
    exact absurd (Obj.cells.inj (Option.some.inj h2)).2.1 (by decide)
  · obtain ⟨c2, h2⟩ := h.cuts.heap e
    rw [h.box] at h2
    exact absurd (Obj.cells.inj (Option.some.inj h2)).2.1 (by decide)
  · obtain ⟨c1, h1⟩ := h.cuts.heap hm
    obtain ⟨c2, h2⟩ := h.list.row.heap e
    rw [h1] at h2
    exact absurd (Obj.cells.inj (Option.some.inj h2)).2.1 (by decide)
  · obtain ⟨c1, h1⟩ := h.cuts.heap hm
    obtain ⟨c2, h2⟩ := (h.list.each p hp).row.heap e
    rw [h1] at h2
    exact absurd (Obj.cells.inj (Option.some.inj h2)).2.1 (by decide)
theorem RefAt.cell (h : RefAt w rb v cv ps D) : ∃ a cap, v = .slice a ps.length cap ∧ w.cell? ⟨rb, 0, none⟩ = some (.slice a ps.length cap) ∧ ps.length ≤ cap ∧ cap ≤ maxLen := by
  obtain ⟨a, cap, e, h1, h2, _⟩ := h.list.row.parts
  refine ⟨a, cap, e, ?_, h1, h2⟩
  rw [cell_of h.box, ← e]; rfl
end
theorem RS.new (w : World) : RS (w.alloc (.cells #[.slice none 0 0, .slice none 0 0] 29)) w.heap.size (· = w.heap.size) [] [] := by
  refine ⟨⟨.slice none 0 0, .slice none 0 0, [], ⟨heap_new _ _, PL.nil _, Wide.nil _ _ _, fun x hx => by cases hx⟩, rfl, ?_⟩, fun k hk => by rw [hk]; simp⟩
  rintro k (h | h | h | ⟨p, hp, _⟩)
  · exact h
  · simp [Value.ownBlock] at h
  · simp [Value.ownBlock] at h
  · cases hp

/-- Behind a list that grew by one packet. -/
theorem rsend_post {w w3 : World} {rb : Nat} {v cv : Value} {ps : List Pk} {D : Cts} {R : Nat → Prop} {p : Pk} (h : RefAt w rb v cv ps D) (hR : ∀ k, RB rb v cv ps k → R k) (hp : PRow w p)
    (ha : AdPost w rb v (ps.flatMap pkC) ps.length p [cv] 29 (.returned (.tuple #[])) w3) : RPost w rb R (fun k => (pkS p).ownBlock = some k) (ps.map Pk.abs ++ [p.abs]) D w3 := by
  obtain ⟨_, v', h1, h2, h3, h4⟩ := ha
  obtain ⟨a1, a2, a3, a4⟩ := h.apart
  have body : ∀ k, (pkS p).ownBlock = some k → ¬ (k = rb ∨ v.ownBlock = some k) := fun k hk hS => by
    obtain ⟨c2, e2⟩ := hp.row.heap hk
    rcases hS with rfl | hS
    · rw [h.box] at e2
      exact absurd (Obj.cells.inj (Option.some.inj e2)).2.1 (by decide)
    · obtain ⟨c1, e1⟩ := h.list.row.heap hS
      rw [e1] at e2
      exact absurd (Obj.cells.inj (Option.some.inj e2)).2.1 (by decide)
  have hT : Touch (RB rb v cv ps) w w3 := h3.mono (fun k hk => hk.elim (fun e => .inl e) (fun e => .inr (.inr (.inl e))))
  refine RPost.of (ps' := ps ++ [p]) hR ⟨h1, ⟨?_, fun p' hp' => ?_⟩, h.cuts.keep h3 (fun m hm hk => ?_), h.cin⟩ (by simp) hT (fun k hk => ?_)
  · rw [List.length_append, List.length_singleton, List.flatMap_append, List.flatMap_cons, List.flatMap_nil, List.append_nil]
    exact h2
  · rcases List.mem_append.1 hp' with e | e
    · refine (h.list.each p' e).keep h3 (fun k hk hS => ?_)
      rcases hS with rfl | hS
      · exact a1 p' e hk
      · exact h.list.apart hS p' e hk
    · obtain rfl := List.mem_singleton.1 e
      exact hp.keep h3 body
  · rcases hk with rfl | hk
    · exact a3 hm
    · exact (a4 m hm).1 hk
  · rcases hk with rfl | hk | hk | ⟨p', hp', hk⟩
    · exact .inl (.inl rfl)
    · exact .inl (.inr (.inl hk))
    · rcases h4 k hk with e | e
      · exact .inl (.inr (.inr (.inl e)))
      · exact .inr (.inr e)
    · rcases List.mem_append.1 hp' with e | e
      · exact .inl (.inr (.inr (.inr ⟨p', e, hk⟩)))
      · obtain rfl := List.mem_singleton.1 e
        exact .inr (.inl hk)
def RsPost (w : World) (rb : Nat) (R : Nat → Prop) (qs : List Pa) (D : Cts) (p : Pk) (e : Ending) (w' : World) : Prop := e = .returned (.bool (decide (qs.length < 256))) ∧ RPost w rb R (fun k => (pkS p).ownBlock = some k) (sendE qs p.abs) D w'
set_option maxRecDepth 100000 in
set_option maxHeartbeats 1000000 in
theorem rsend_any {w : World} {rb : Nat} {R : Nat → Prop} {qs : List Pa} {D : Cts} (h : RS w rb R qs D) {p : Pk} (hp : PRow w p) :
    Calls Try.prog 13 #[.pointer (some ⟨rb, 0, none⟩), pkV p] w fun e w' => RsPost w rb R qs D p e w' := by
  have hA : Below w.heap.size w (w.alloc (.cells #[.int .i64 p.fr, .int .i64 p.to, .slice p.a p.l.length p.c] 33)) := (Below.refl _ _).alloc (Nat.le_refl _) _
  have HRS := hide (h.later hA)
  obtain ⟨v, cv, ps, h1, rfl, h3⟩ := h.ex
  have N1 : RefAt (w.alloc (.cells #[.int .i64 p.fr, .int .i64 p.to, .slice p.a p.l.length p.c] 33)) rb v cv ps D := h1.keep (Touch.of_below (S := fun _ => False) hA) (fun _ _ h => h)
  have P1 : Hid (PRow (w.alloc (.cells #[.int .i64 p.fr, .int .i64 p.to, .slice p.a p.l.length p.c] 33)) p) := hp.later hA
  obtain ⟨k0, k1, k2⟩ := (BoxP.new w p).cells
  obtain ⟨av, cv', hv, c0, hl, hm⟩ := N1.cell
  have HN := hide N1
  have HA := hide hA
  have HR := hide h3
  have hne : v.ownBlock ≠ some rb := N1.apart.2.1
  clear N1 hA hp h1 h
  subst hv
  by_cases hn : ps.length < 256
  · have F : Hid (∀ w3, AdPost (w.alloc (.cells #[.int .i64 p.fr, .int .i64 p.to, .slice p.a p.l.length p.c] 33)) rb (.slice av ps.length cv') (ps.flatMap pkC) ps.length p [cv] 29 (.returned (.tuple #[])) w3 → RsPost w rb R (ps.map Pk.abs) D p (.returned (.bool true)) w3) := fun w3 e5 => by
      refine ⟨by simp [hn], ?_⟩
      unfold sendE
      rw [List.length_map, if_pos hn]
      exact (rsend_post (unhide HN) (unhide HR) (unhide P1) e5).after (unhide HA)
    have hn' : ¬ (256 : Int) ≤ (ps.length : Int) := by omega
    have ROW := hide (unhide HN).list.row
    have GB := hide (unhide HN).box
    clear HRS P1 HR HA
    obtain ⟨fr, to, a, c, l⟩ := p
    simp only [pkV, pkS] at *
    have FX : Hid (∀ X v3 w3, Below (w.alloc (.cells #[.int .i64 fr, .int .i64 to, .slice a l.length c] 33)).heap.size (w.alloc (.cells #[.int .i64 fr, .int .i64 to, .slice a l.length c] 33)) X → Wide w3 33 3 v3 (ps.length + 1) (ps.flatMap pkC ++ [.int .i64 fr, .int .i64 to, .slice a l.length c]) → Touch (fun k => (Value.slice av ps.length cv').ownBlock = some k) X w3 → Moved X (.slice av ps.length cv') v3 →
        w3.cell? ⟨rb, 0, none⟩ = some (.slice av ps.length cv') ∧ w3.frozen? ⟨rb, 0, none⟩ = false ∧ RsPost w rb R (ps.map Pk.abs) D ⟨fr, to, a, c, l⟩ (.returned (.bool true)) (w3.setCell ⟨rb, 0, none⟩ v3)) := fun X v3 w3 hX o3 t3 m3 => by
      have g3 := keep_heap t3 hne hX (unhide GB)
      have ts := touch_set w3 rb 0 v3
      refine ⟨by rw [cell_of g3]; rfl, frozen_of g3 0, unhide F _ ⟨rfl, v3, ?_, o3.keep ts (fun k hk e => ?_), ?_, fun k hk => ?_⟩⟩
      · have := heap_set g3 0 v3
        simpa using this
      · rcases m3 k hk with e2 | e2
        · exact hne (by rw [← e]; exact e2)
        · have h2 := hX.size
          have h3 := lt_of_heap (unhide GB)
          omega
      · exact ((Touch.of_below (S := fun k => k = rb ∨ (Value.slice av ps.length cv').ownBlock = some k) hX).trans (t3.mono (fun k hk => .inr hk))).trans (ts.mono (fun k hk => .inl hk))
      · rcases m3 k hk with e | e
        · exact .inl e
        · have h2 := hX.size
          exact .inr (by omega)
    clear F HN
    generalize l.length = m at *
    generalize hps : ps.length = n at *
    clear hps
    go_enter Try.func13, Try.ntmps13
    go_wp2_with fail
    generalize w.alloc (.cells #[.int .i64 fr, .int .i64 to, .slice a m c] 33) = W at *
    have yA : ∀ X, (W.alloc X).cell? ⟨rb, 0, none⟩ = some (.slice av n cv') := fun X => (((Below.refl W.heap.size W).alloc (Nat.le_refl _) X).cell (p := ⟨rb, 0, none⟩) (lt_of_heap (unhide GB))).trans c0
    go_region_law (refine step_pk rfl (.tmp 15) (.tmp 17) rfl (.slice av n cv') n _ (by rfl) ((unhide ROW).later (by first | exact (Below.refl _ _).alloc (Nat.le_refl _) _ | exact (below_drewN3 (Below.refl _ _) _).alloc (Nat.le_refl _) _)) _ _ _ (by rfl) (heap_new _ _) rfl rfl (by intro u hu; simp at hu; rcases hu with rfl | rfl | rfl <;> rfl) (by omega) ?_; intro v3 w3 o3 t3 m3; obtain ⟨q1, q2, q3⟩ := unhide FX _ v3 w3 (by first | exact (Below.refl _ _).alloc (Nat.le_refl _) _ | exact (below_drewN3 (Below.refl _ _) _).alloc (Nat.le_refl _) _) o3 t3 m3; have Q3 := hide q3; obtain ⟨a3, c3, rfl⟩ := o3.shape; clear o3 t3 m3 q3)
    all_goals
      clear FX ROW GB k0 k1 k2 c0 q1 q2 yA
      go_wp2
      go_returns
      exact unhide Q3
  · have F : Hid (RsPost w rb R (ps.map Pk.abs) D p (.returned (.bool false)) (w.alloc (.cells #[.int .i64 p.fr, .int .i64 p.to, .slice p.a p.l.length p.c] 33))) := by
      refine ⟨by simp [hn], ?_⟩
      unfold sendE
      rw [List.length_map, if_neg hn]
      exact ⟨R, unhide HRS, Touch.of_below (unhide HA), fun k hk => .inl hk⟩
    have hn' : (256 : Int) ≤ (ps.length : Int) := by omega
    clear HRS P1 HN HR HA
    obtain ⟨fr, to, a, c, l⟩ := p
    simp only [pkV, pkS] at *
    generalize l.length = m at *
    generalize ps.length = n at *
    go_enter Try.func13, Try.ntmps13
    go_wp2
    go_returns
    exact unhide F
end Go.Proofs.Ytgpfkedihgoohaa
