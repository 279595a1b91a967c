/-
  raft's ownEntries. Conditions: a list of at most 2^42 - 128 entries.
-/
import Derived.Test.YtibjfekfkllnjaaRt9
namespace Go.Proofs.Ytibjfekfkllnjaa
open Go.RowKit Go.Maps
set_option linter.unusedVariables false

/-- append(list, one pair). -/
theorem wpList_two {T L : TypeId} (hT : ∃ i z, Try.prog.info? T = some i ∧ i.zero = some z ∧ i.size = 2 ∧ i.bytes = 32 ∧ z.cells.size = 2) (hL : Try.prog.underlying L = some (.slice T)) (w : World) {ops : Array Oper} {rest : List Oper} {o : Oper} {a : Act} {Q : Exit → Act → World → Prop}
    (hg : o.guard = none) (s x : Operand) (hop : o.op = Op.call { callee := Callee.builtin Builtin.append, args := #[s, x], argTypes := #[L, L] })
    (v : Value) (n : Nat) (xs : List Value) (hs : a.eval s = v) (hown : Wide w T 2 v n xs) (g : Nat) (cs : Array Value) (news : List Value) (hx : a.eval x = .slice (some ⟨g, 0, none⟩) 1 1) (hu : w.heap[g]? = some (.cells cs T)) (hcs : cs.toList = news) (hl : news.length = 2) (h1 : ∀ u ∈ news, u.oneCell' = true) (hlen : n ≤ 4398046510976)
    (hK : ∀ v' w', Wide w' T 2 v' (n + 1) (xs ++ news) → Touch (fun k => v.ownBlock = some k) w w' → Moved w v v' → wpList Try.prog ops Q rest (a.put o.dst v') w') :
    wpList Try.prog ops Q (o :: rest) a w := by
  obtain ⟨i, z, hi, hz, hsz, hby, hzs⟩ := hT
  exact wpList_wide w hg s x L hop T i z 2 32 hL hi hz hsz hby hzs (by omega) v n xs hs hown g 0 1 news hx hl (fun j u hj => by rw [cell_of hu, Nat.zero_add, ← Array.getElem?_toList, hcs]; exact hj) h1 (by unfold maxLen; omega) (by omega) hK
theorem ELB_nil {j : Nat} (h : ELB (.slice none 0 0) [] j) : False := by
  rcases h with h | ⟨p, hp, _⟩
  · simp [Value.ownBlock] at h
  · cases hp
/-- One more behind a list of the call's own. -/
theorem EL.more {ty : TypeId} {w0 W X w3 : World} {v v3 : Value} {ps : List En} {p : En} (h : EL ty W v ps) (ht : ty ≠ 5) (hX : Below W.heap.size W X) (o3 : Wide w3 ty 2 v3 (ps.length + 1) (ps.flatMap enC ++ enC p)) (t3 : Touch (fun k => v.ownBlock = some k) X w3) (m3 : Moved X v v3) (hp : ERow X p) (hn : New W (enS p)) :
    EL ty w3 v3 (ps ++ [p]) ∧ ∀ k, ELB v3 (ps ++ [p]) k → ELB v ps k ∨ W.heap.size ≤ k := by
  refine ⟨EL.snoc (w0 := w3) o3 (fun q hq => ((h.later hX).each q hq).keep t3 (fun k hk e => h.apart ht e q hq hk)) (hp.keep t3 (fun k hk e => ?_)) h.sep (fun q hq k hk e => by have := hn k e; have := h.lt k (.inr ⟨q, hq, hk⟩); omega), ?_⟩
  · have := hn k hk
    have := h.row.lt k e
    omega
  · rintro k (hk | ⟨q, hq, hk⟩)
    · rcases m3 k hk with e | e
      · exact .inl (.inl e)
      · exact .inr (Nat.le_trans hX.size e)
    · rcases List.mem_append.1 hq with e | e
      · exact .inl (.inr ⟨q, e, hk⟩)
      · rw [List.mem_singleton.1 e] at hk
        exact .inr (hn k hk)
set_option maxRecDepth 100000 in
set_option maxHeartbeats 2000000 in
theorem ownEntries_any {w : World} {a : Option Addr} {cap : Nat} {ps : List En} (h : EArr w a ps) (hn : ps.length ≤ 4398046510976) : Calls Try.prog 43 #[.slice a ps.length cap] w fun e w' => OsPost w (ps.map En.abs) e w' := by
  have HA := hide h
  clear h
  go_enter Try.func43, Try.ntmps43
  go_wp2_with fail
  go_loopw [3, 8] (fun s3 s8 wr => ∃ k qs, k ≤ ps.length ∧ s8 = .int .i64 (k : Int) ∧ EL 64 wr s3 qs ∧ qs.map En.abs = (ps.take k).map En.abs ∧ (∀ j, ELB s3 qs j → w.heap.size ≤ j) ∧ Below w.heap.size w wr) (fun _ pl _ => ps.length - (intOf pl).toNat)
  case atStart => exact ⟨0, [], Nat.zero_le _, rfl, EL.nil _ _, by simp, fun j hj => (ELB_nil hj).elim, Below.refl _ _⟩
  case round =>
    obtain ⟨k, qs, hk, rfl, lq, hq, hb, br⟩ := hrel
    have hql : qs.length = k := by
      have := congrArg List.length hq
      simpa [Nat.min_eq_left hk] using this
    by_cases hkl : k < ps.length
    · have hkl' : (k : Int) < (ps.length : Int) := by omega
      have hz : (0 : Int) ≤ (k : Int) := by omega
      obtain ⟨b, off, rfl, hbl, y0, y1⟩ := ((unhide HA).later br).cell k hkl
      have PI := hide (((unhide HA).later br).each _ (List.getElem_mem hkl))
      have TK : Hid ((ps.take (k + 1)).map En.abs = (ps.take k).map En.abs ++ [ps[k].abs]) := by
        show _ = _
        rw [List.take_succ_eq_append_getElem hkl, List.map_append, List.map_singleton]
      generalize ps[k] = p at *
      obtain ⟨t, pa, pc, l⟩ := p
      simp only [enS] at y0 y1
      have hA : Below wr.heap.size wr (wr.alloc (.cells #[.int .i64 t, .slice pa l.length pc] 64)) := (Below.refl _ _).alloc (Nat.le_refl _) _
      have OE : Hid (Calls Try.prog 57 #[.agg #[.int .i64 t, .slice pa l.length pc]] (wr.alloc (.cells #[.int .i64 t, .slice pa l.length pc] 64)) fun e w' => OePost (wr.alloc (.cells #[.int .i64 t, .slice pa l.length pc] 64)) (t, l) e w') := ownEntry_any (p := ⟨t, pa, pc, l⟩) ((unhide PI).later hA)
      have G : (wr.alloc (.cells #[.int .i64 t, .slice pa l.length pc] 64)).heap[wr.heap.size]? = some (.cells #[.int .i64 t, .slice pa l.length pc] 64) := heap_new _ _
      have k0 : (wr.alloc (.cells #[.int .i64 t, .slice pa l.length pc] 64)).cell? ⟨wr.heap.size, 0, none⟩ = some (.int .i64 t) := cell_of G 0
      have k1 : (wr.alloc (.cells #[.int .i64 t, .slice pa l.length pc] 64)).cell? ⟨wr.heap.size, 1, none⟩ = some (.slice pa l.length pc) := cell_of G 1
      have SZ : Hid ((wr.alloc (.cells #[.int .i64 t, .slice pa l.length pc] 64)).heap.size = wr.heap.size + 1) := by show _ = _; simp
      have LQ := hide (lq.later hA)
      have HQ := hide hq
      have HB := hide hb
      have BA := hide (br.trans (hA.mono br.size))
      have HQL := hide hql
      obtain ⟨qa, qc, rfl⟩ := lq.row.shape
      clear lq hq hb G hA PI hql br
      generalize l.length = ml at *
      generalize hqn : qs.length = qn at *
      have HQN := hide hqn
      clear hqn
      go_wp2_with fail
      generalize wr.alloc (.cells #[.int .i64 t, .slice pa ml pc] 64) = W at *
      refine (unhide OE).mono ?_
      rintro e w2 ⟨p', rfl, pab, pr, pn, pb⟩
      obtain ⟨t', a', c', l'⟩ := p'
      have B3 : Hid (Below W.heap.size W (w2.alloc (.cells #[.int .i64 t', .slice a' l'.length c'] 64))) := pb.alloc pb.size _
      have PR := hide (pr.later ((Below.refl _ _).alloc (Nat.le_refl _) (.cells #[.int .i64 t', .slice a' l'.length c'] 64)))
      clear OE pr k0 k1 y0 y1
      have hn2 : qn ≤ 4398046510976 := by have := unhide HQL; omega
      go_wp2_with (at_builtin; refine wpList_two entry_info Try.underlying50 _ rfl (.tmp 12) (.tmp 15) rfl (.slice qa qn qc) qn (qs.flatMap enC) rfl (by have := ((unhide LQ).row.later (unhide B3)); rw [unhide HQN] at this; exact this) _ _ _ rfl (heap_new _ _) rfl rfl (by intro u hu; simp at hu; rcases hu with rfl | rfl <;> rfl) hn2 ?_; intro v3 w3 o3 t3 m3)
      obtain ⟨l3, n3⟩ := EL.more (p := ⟨t', a', c', l'⟩) (w0 := W) (unhide LQ) (by decide) (unhide B3) (by rw [unhide HQN]; exact o3) t3 m3 (unhide PR) pn
      have FF : Hid (∃ k_1 qs, k_1 ≤ ps.length ∧ (k : Int) + 1 = (k_1 : Int) ∧ EL 64 w3 v3 qs ∧ qs.map En.abs = (ps.take k_1).map En.abs ∧ (∀ j, ELB v3 qs j → w.heap.size ≤ j) ∧ Below w.heap.size w w3) := by
        refine ⟨k + 1, qs ++ [⟨t', a', c', l'⟩], by omega, by omega, l3, ?_, fun j hj => ?_, ?_⟩
        · rw [unhide TK, ← unhide HQ, List.map_append, List.map_singleton, pab]
        · rcases n3 j hj with e | e
          · exact unhide HB j e
          · exact Nat.le_trans (unhide BA).size e
        · refine below_touch ((unhide BA).trans ((unhide B3).mono (unhide BA).size)) t3 (Nat.le_trans (unhide BA).size (unhide B3).size) (fun j hj => unhide HB j (.inl hj))
      obtain ⟨a3, c3, rfl⟩ := o3.shape
      clear o3 t3 m3 l3 n3 PR B3 LQ HQ HB BA pn pb pab TK
      go_wp2
      go_roundw
      case rel =>
        obtain ⟨k1, qs1, f1, f2, f3⟩ := unhide FF
        exact ⟨k1, qs1, f1, by go_num, f3⟩
      case measure => simp [intOf]; omega
    · obtain rfl : k = ps.length := by omega
      obtain ⟨qa, qc, rfl⟩ := lq.row.shape
      have F : Hid (OsPost w (ps.map En.abs) (.returned (.slice qa qs.length qc)) wr) := ⟨_, qs, rfl, lq, by rw [hq, List.take_length], hb, br⟩
      clear lq hq hb br
      go_wp2
      go_returns
      exact unhide F
end Go.Proofs.Ytibjfekfkllnjaa
