/-
  raft's put: an entry laid behind the others. Conditions: the log is one, of at most 2^42 - 128 entries.
-/
import Derived.Test.YtibjfekfkllnjaaRt1
namespace Go.Proofs.Ytibjfekfkllnjaa
open Go.RowKit Go.Maps
set_option linter.unusedVariables false

/-- What put leaves. -/
def PuPost (w : World) (rb : Nat) (cs : Array Value) (v : Value) (ps : List En) (q : Int × List Nat) (e : Ending) (w' : World) : Prop :=
  e = .returned (.tuple #[]) ∧ ∃ v' p', w'.heap[rb]? = some (.cells ((cs.setIfInBounds 7 v').setIfInBounds 25 (.bool true)) 77) ∧ EL 64 w' v' (ps ++ [p']) ∧ p'.abs = q ∧ Touch (fun k => k = rb ∨ v.ownBlock = some k) w w' ∧ ∀ k, ELB v' (ps ++ [p']) k → ELB v ps k ∨ w.heap.size ≤ k
theorem set_keep {cs : Array Value} {i j : Nat} {v u : Value} (h : i ≠ j) (hj : cs[j]? = some u) : (cs.setIfInBounds i v)[j]? = some u := by
  rw [Array.getElem?_setIfInBounds_ne h]; exact hj
theorem EL.not {ty T : TypeId} {w : World} {v : Value} {ps : List En} {b : Nat} {cs : Array Value} (h : EL ty w v ps) (hb : w.heap[b]? = some (.cells cs T)) (h1 : T ≠ ty) (h2 : T ≠ 5) : ∀ k, ELB v ps k → k ≠ b := by
  rintro k (hk | ⟨p, hp, hk⟩) rfl
  · obtain ⟨c, hc⟩ := h.row.heap hk
    rw [hb] at hc
    exact h1 (Obj.cells.inj (Option.some.inj hc)).2.1
  · obtain ⟨c, hc⟩ := (h.each p hp).row.heap hk
    rw [hb] at hc
    exact h2 (Obj.cells.inj (Option.some.inj hc)).2.1
set_option maxRecDepth 100000 in
set_option maxHeartbeats 2000000 in
theorem put_any {w : World} {rb : Nat} {cs : Array Value} {v : Value} {sv : Bool} {ps : List En} {p : En} (h : w.heap[rb]? = some (.cells cs 77)) (h7 : cs[7]? = some v) (h25 : cs[25]? = some (.bool sv)) (L : EL 64 w v ps) (hn : ps.length ≤ 4398046510976) (hp : EIn w p) :
    Calls Try.prog 40 #[.pointer (some ⟨rb, 0, none⟩), enV p] w fun e w' => PuPost w rb cs v ps p.abs e w' := by
  have hnot := L.not h (by decide) (by decide)
  have hne : v.ownBlock ≠ some rb := fun e => hnot rb (.inl e) rfl
  have hrb := lt_of_heap h
  obtain ⟨t, a, c, l⟩ := p
  have hA : Below w.heap.size w (w.alloc (.cells #[.int .i64 t, .slice a l.length c] 64)) := (Below.refl _ _).alloc (Nat.le_refl _) _
  have HA := hide hA
  have GB := hide (below_keep hA h)
  have LA := hide (L.later hA)
  have OE : Hid (∀ X, Below (w.alloc (.cells #[.int .i64 t, .slice a l.length c] 64)).heap.size (w.alloc (.cells #[.int .i64 t, .slice a l.length c] 64)) X → Calls Try.prog 57 #[.agg #[.int .i64 t, .slice a l.length c]] X fun e w' => OePost X (t, l) e w') := fun X hX => ownEntry_any (p := ⟨t, a, c, l⟩) ((hp.later hA).later hX)
  have G : (w.alloc (.cells #[.int .i64 t, .slice a l.length c] 64)).heap[w.heap.size]? = some (.cells #[.int .i64 t, .slice a l.length c] 64) := heap_new _ _
  have k0 : (w.alloc (.cells #[.int .i64 t, .slice a l.length c] 64)).cell? ⟨w.heap.size, 0, none⟩ = some (.int .i64 t) := by rw [cell_of G]; rfl
  have k1 : (w.alloc (.cells #[.int .i64 t, .slice a l.length c] 64)).cell? ⟨w.heap.size, 1, none⟩ = some (.slice a l.length c) := by rw [cell_of G]; rfl
  obtain ⟨av, cv, hv⟩ := L.row.shape
  subst hv
  have c7 : (w.alloc (.cells #[.int .i64 t, .slice a l.length c] 64)).cell? ⟨rb, 7, none⟩ = some (.slice av ps.length cv) := by rw [cell_of (unhide GB)]; exact h7
  have hsz : (w.alloc (.cells #[.int .i64 t, .slice a l.length c] 64)).heap.size = w.heap.size + 1 := by simp
  have HSZ := hide hsz
  clear G hA h hsz hp
  have FX : Hid (∀ W X p' v3 w3, Below w.heap.size w W → W.heap[rb]? = some (.cells cs 77) → EL 64 W (.slice av ps.length cv) ps → Below W.heap.size W X → Wide w3 64 2 v3 (ps.length + 1) (ps.flatMap enC ++ enC p') → Touch (fun k => (Value.slice av ps.length cv).ownBlock = some k) X w3 → Moved X (.slice av ps.length cv) v3 → ERow X p' → New W (enS p') → p'.abs = (t, l) →
      w3.cell? ⟨rb, 7, none⟩ = some (.slice av ps.length cv) ∧ w3.frozen? ⟨rb, 7, none⟩ = false ∧ (w3.setCell ⟨rb, 7, none⟩ v3).cell? ⟨rb, 25, none⟩ = some (.bool sv) ∧ (w3.setCell ⟨rb, 7, none⟩ v3).frozen? ⟨rb, 25, none⟩ = false ∧ PuPost w rb cs (.slice av ps.length cv) ps (t, l) (.returned (.tuple #[])) ((w3.setCell ⟨rb, 7, none⟩ v3).setCell ⟨rb, 25, none⟩ (.bool true))) := fun W X p' v3 w3 hW hb hLW hX o3 t3 m3 e3 n3 ha3 => by
    have hWX : Below w.heap.size w X := hW.trans (hX.mono hW.size)
    have h3 := keep_heap t3 hne hX hb
    have h4 := heap_set h3 7 v3
    have h5 := heap_set h4 25 (.bool true)
    have ts := (touch_set w3 rb 7 v3).trans (touch_set (w3.setCell ⟨rb, 7, none⟩ v3) rb 25 (.bool true))
    have hnew : ∀ k, v3.ownBlock = some k → (Value.slice av ps.length cv).ownBlock = some k ∨ w.heap.size ≤ k := fun k hk => by
      rcases m3 k hk with e | e
      · exact .inl e
      · exact .inr (Nat.le_trans hWX.size e)
    have hrow : ∀ q ∈ ps, ERow w3 q := fun q hq => ((hLW.later hX).each q hq).keep t3 (fun k hk e => hLW.apart (by decide) e q hq hk)
    have hp3 : ERow w3 p' := e3.keep t3 (fun k hk e => by
      have := n3 k hk
      have := hLW.row.lt k e
      omega)
    have EL3 : EL 64 w3 v3 (ps ++ [p']) := EL.snoc (w0 := w3) o3 hrow hp3 hLW.sep (fun q hq k hk e => by have := n3 k e; have := hLW.lt k (.inr ⟨q, hq, hk⟩); omega)
    have hn4 : ∀ k, ELB v3 (ps ++ [p']) k → ELB (.slice av ps.length cv) ps k ∨ w.heap.size ≤ k := by
      rintro k (hk | ⟨q, hq, hk⟩)
      · exact (hnew k hk).imp .inl id
      · rcases List.mem_append.1 hq with e | e
        · exact .inl (.inr ⟨q, e, hk⟩)
        · rw [List.mem_singleton.1 e] at hk
          exact .inr (Nat.le_trans hW.size (n3 k hk))
    refine ⟨by rw [cell_of h3]; exact h7, frozen_of h3 7, by rw [cell_of h4]; exact set_keep (by omega) h25, frozen_of h4 25, rfl, v3, p', h5, EL3.keep ts (fun k hk e => ?_), ha3, ?_, hn4⟩
    · rcases hn4 k hk with e2 | e2
      · exact hnot k e2 e
      · omega
    · exact ((Touch.of_below (S := fun k => k = rb ∨ (Value.slice av ps.length cv).ownBlock = some k) hWX).trans (t3.mono (fun k hk => .inr hk))).trans (ts.mono (fun k hk => .inl hk))
  unfold enV enS
  dsimp only
  generalize hm : l.length = m at *
  clear hm
  have hn2 := hide hn
  clear hn hnot L h7 h25
  go_enter Try.func40, Try.ntmps40
  go_wp2_with fail
  generalize w.alloc (.cells #[.int .i64 t, .slice a m c] 64) = W at *
  have hrW : rb < W.heap.size := by have := unhide HSZ; omega
  have yA : ∀ X, Below W.heap.size W X → X.cell? ⟨rb, 7, none⟩ = some (.slice av ps.length cv) := fun X hb => (hb.cell (p := ⟨rb, 7, none⟩) hrW).trans c7
  have YA := hide yA
  clear yA
  go_region_law (first
    | (go_simp; go_at_call 57; refine (unhide OE _ (by go_grown)).mono ?_; rintro e w2 ⟨p', rfl, pa, pr, pn, pb⟩; obtain ⟨t', a', c', l'⟩ := p'; have y2 : w2.cell? ⟨rb, 7, none⟩ = some (.slice av ps.length cv) := unhide YA w2 (by first | (go_grown; done) | exact pb | exact (below_drewN3 (Below.refl _ _) _).trans (pb.mono (Nat.le_refl _))); have B2 : Hid (Below W.heap.size W w2) := (by first | exact pb | exact (below_drewN3 (Below.refl _ _) _).trans (pb.mono (Nat.le_refl _))); have yB : ∀ X, (w2.alloc X).cell? ⟨rb, 7, none⟩ = some (.slice av ps.length cv) := fun X => unhide YA _ ((unhide B2).trans (((Below.refl _ _).alloc (Nat.le_refl _) X).mono (unhide B2).size)))
    | (refine step_two entry_info Try.underlying50 rfl (.tmp 9) (.tmp 12) rfl (.slice av ps.length cv) ps.length (ps.flatMap enC) (by rfl) ((unhide LA).row.later ((unhide B2).trans (((Below.refl _ _).alloc (Nat.le_refl _) _).mono (unhide B2).size))) _ _ _ (by rfl) (heap_new _ _) rfl rfl (by intro u hu; simp at hu; rcases hu with rfl | rfl <;> rfl) (unhide hn2) ?_; intro v3 w3 o3 t3 m3; obtain ⟨q1, q2, q3, q4, q5⟩ := unhide FX W _ ⟨t', a', c', l'⟩ v3 w3 (unhide HA) (unhide GB) (unhide LA) ((unhide B2).trans (((Below.refl _ _).alloc (Nat.le_refl _) _).mono (unhide B2).size)) o3 t3 m3 (pr.later ((Below.refl _ _).alloc (Nat.le_refl _) _)) pn pa; have Q5 := hide q5; obtain ⟨a3, c3, rfl⟩ := o3.shape; clear o3 t3 m3 q5))
  all_goals
    clear FX OE LA GB HA k0 k1 c7 q1 q2 YA pr pn pa pb B2 y2 yB
    go_wp2
    go_returns
    exact unhide Q5
end Go.Proofs.Ytibjfekfkllnjaa
