/-
  CodecOwn walked: it answers true. No conditions.
-/
import Derived.Test.YtnhociggoagpoaaCodecTakesWalk
namespace Go.Proofs.Ytnhociggoagpoaa
open Go.RowKit
set_option linter.unusedVariables false

theorem rB_enc {t u : List Nat} {bs : List Nat} {s : Rst} (h0 : s.er = 0) (hd : t.drop s.pl = enc bs.length ++ (bs ++ u)) (h4 : bs.length ≤ 4096) : rB t s = (bs, ⟨s.pl + (enc bs.length).length + bs.length, 0⟩) := by
  have hr := rU_enc h0 hd (by omega)
  have hd2 := drop_next hd
  have hp := enc_pos bs.length
  have hlen : s.pl + (enc bs.length).length + bs.length + u.length = t.length := by
    have := congrArg List.length hd
    rw [List.length_drop, List.length_append, List.length_append] at this
    omega
  unfold rB
  rw [hr, if_pos rfl, if_neg (by simp; omega), if_pos (by show s.pl + (enc bs.length).length + bs.length ≤ t.length; omega)]
  show ((t.drop (s.pl + (enc bs.length).length)).take bs.length, _) = _
  rw [hd2, List.take_left]
theorem rL_enc {t u : List Nat} {ls : List Int} {s : Rst} (h0 : s.er = 0) (hd : t.drop s.pl = enc ls.length ++ (encL ls ++ u)) (h4 : ls.length ≤ 4096) (hf : ∀ x ∈ ls, -9223372036854775808 ≤ x ∧ x < 9223372036854775808) : rL t s = (ls, ⟨s.pl + (enc ls.length).length + (encL ls).length, 0⟩) := by
  have hr := rU_enc h0 hd (by omega)
  unfold rL
  rw [hr, if_pos rfl, if_neg (by simp; omega), rNs_enc ls [] rfl (drop_next hd) hf]
  simp

theorem isrc {w : World} {a : Option Addr} {l : List Int} (h : IAt w a l) : ∀ j u, (ivals l)[j]? = some u → ∃ b off, a = some ⟨b, off, none⟩ ∧ w.cell? ⟨b, off + j, none⟩ = some u := by
  intro j u hj
  have hjl : j < l.length := by
    have := (List.getElem?_eq_some_iff.1 hj).1
    rw [ivals_len] at this; exact this
  obtain ⟨b, off, h1, _, h3⟩ := h j hjl
  exact ⟨b, off, h1, by rw [h3, ← hj]; exact (ivals_at hjl).symm⟩
/-- append([]int{}, l...). -/
theorem wpList_ilist (w : World) {ops : Array Oper} {rest : List Oper} {o : Oper} {a : Act} {Q : Exit → Act → World → Prop}
    (hg : o.guard = none) (s x : Operand) (hop : o.op = Op.call { callee := Callee.builtin Builtin.append, args := #[s, x], argTypes := #[28, 28] })
    (g : Nat) (hs : a.eval s = .slice (some ⟨g, 0, none⟩) 0 0) (hgg : w.heap[g]? = some (.cells #[] 3)) (ao : Option Addr) (c : Nat) (l : List Int) (hx : a.eval x = .slice ao l.length c) (hb : IAt w ao l) (hnone : ao = none → c = 0) (hlen : l.length ≤ 4096)
    (hK : ∀ v' w', IRow w' v' l → Touch (· = g) w w' → (∀ k, v'.ownBlock = some k → k = g ∨ w.heap.size ≤ k) → wpList Try.prog ops Q rest (a.put o.dst v') w') :
    wpList Try.prog ops Q (o :: rest) a w := by
  obtain ⟨i, hi, hz, hsz, hby⟩ := int_info
  have hown : Own w 3 (.slice (some ⟨g, 0, none⟩) 0 0) [] := ⟨by simp, .inr ⟨g, 0, #[], rfl, Nat.zero_le _, hgg, Nat.le_refl _, Nat.zero_le _, rfl, rfl⟩⟩
  refine wpList_app w hg s x 28 hop 3 i (.int .i64 0) 8 Try.underlying28 hi hz hsz hby rfl _ [] hs hown ao l.length c (ivals l) hx (ivals_len l) (isrc hb) ?_ hnone (by simp [maxLen]; omega) (by simp; omega) ?_
  · intro u hu
    obtain ⟨_, _, rfl⟩ := List.mem_map.1 hu
    rfl
  · intro v' w' h1 h2 h3
    refine hK v' w' h1 (h2.mono (fun k hk => by simp [Value.ownBlock] at hk; omega)) (fun k hk => ?_)
    rcases h3 k hk with e | e
    · simp [Value.ownBlock] at e; exact .inl e.symm
    · exact .inr e
theorem IRow.set {w : World} {g n cap : Nat} {l : List Int} (h : IRow w (.slice (some ⟨g, 0, none⟩) n cap) l) (i : Nat) (x : Int) : IRow (w.setCell ⟨g, i, none⟩ (.int .i64 x)) (.slice (some ⟨g, 0, none⟩) n cap) (l.set i x) := by
  obtain ⟨h1, h2⟩ := h
  rcases h2 with ⟨e, _⟩ | ⟨g', cap', cur, e, hb, hgg, hn, hm, hs, ht⟩
  · cases e
  · cases e
    refine ⟨by simp, .inr ⟨g, cap, _, ?_, hb, heap_set hgg i _, ?_, hm, by simpa using hs, ?_⟩⟩
    · simp [ivals_len]
    · rw [ivals_len] at hn ⊢; simpa using hn
    · rw [ivals_len, List.length_set, Nat.mul_one]
      rw [ivals_len, Nat.mul_one] at ht
      rw [Array.toList_setIfInBounds, List.take_set, ht]
      simp [ivals, List.map_set]
theorem Row.put3 {w : World} {a : Option Addr} {n cap : Nat} {l : List Nat} (h : Row w (.slice a n cap) l) {k : Nat} (hk : k < n) :
    ∃ g, a = some ⟨g, 0, none⟩ ∧ (∃ y : Nat, y < 256 ∧ w.cell? ⟨g, k, none⟩ = some (.int .u8 (y : Nat))) ∧ w.frozen? ⟨g, k, none⟩ = false ∧ ∀ x : Nat, x < 256 → (∃ l', Row (w.setCell ⟨g, k, none⟩ (.int .u8 (x : Nat))) (.slice a n cap) l') ∧ Touch (fun i => (Value.slice a n cap).ownBlock = some i) w (w.setCell ⟨g, k, none⟩ (.int .u8 (x : Nat))) := by
  obtain ⟨a', cap', e, h1, _, _, _, _, h2⟩ := h.parts
  cases e
  obtain ⟨g, hg, hf⟩ := h2 k hk
  cases hg
  obtain ⟨b, off, e1, _, e3, e4⟩ := h1.cell hk
  cases e1
  rw [Nat.zero_add] at e3
  exact ⟨g, rfl, ⟨_, e4, e3⟩, hf, fun x hx => ⟨⟨_, h.set k hx⟩, (Touch.refl (fun i => (Value.slice (some ⟨g, 0, none⟩) l.length cap).ownBlock = some i) w).setCell (p := ⟨g, k, none⟩) rfl _⟩⟩
theorem IRow.put3 {w : World} {a : Option Addr} {n cap : Nat} {l : List Int} (h : IRow w (.slice a n cap) l) {k : Nat} (hk : k < n) :
    ∃ g, a = some ⟨g, 0, none⟩ ∧ (∃ y : Int, w.cell? ⟨g, k, none⟩ = some (.int .i64 y)) ∧ w.frozen? ⟨g, k, none⟩ = false ∧ ∀ x : Int, (∃ l', IRow (w.setCell ⟨g, k, none⟩ (.int .i64 x)) (.slice a n cap) l') ∧ Touch (fun i => (Value.slice a n cap).ownBlock = some i) w (w.setCell ⟨g, k, none⟩ (.int .i64 x)) := by
  obtain ⟨a', cap', e, h1, _, _, _, _, h2⟩ := h.parts
  cases e
  obtain ⟨g, hg, hf⟩ := h2 k hk
  cases hg
  obtain ⟨b, off, e1, _, e3⟩ := h1 k hk
  cases e1
  rw [Nat.zero_add] at e3
  exact ⟨g, rfl, ⟨_, e3⟩, hf, fun x => ⟨⟨_, h.set k x⟩, (Touch.refl (fun i => (Value.slice (some ⟨g, 0, none⟩) l.length cap).ownBlock = some i) w).setCell (p := ⟨g, k, none⟩) rfl _⟩⟩

theorem IRow.drewN {w : World} {v : Value} {l : List Int} (h : IRow w v l) (n : Nat) : IRow (w.drewN n) v l := h
theorem Row.drewN3 {w : World} {v : Value} {l : List Nat} (h : Row w v l) (n : Nat) : Row (w.drewN n) v l := ⟨h.own, h.bytes⟩
theorem Wc.drewN {w0 w : World} {b : Nat} {v : Value} {l : List Nat} (h : Wc w0 w b v l) (n : Nat) : Wc w0 (w.drewN n) b v l := ⟨⟨h.at_.heap, h.at_.row.drewN3 n, h.at_.apart⟩, below_drewN' h.below n, h.hb, h.hv⟩
theorem Wc.lt {w0 w : World} {b : Nat} {v : Value} {l : List Nat} (h : Wc w0 w b v l) : ∀ k, Mine (.pointer (some ⟨b, 0, none⟩)) v k → k < w.heap.size := h.v.mine

set_option maxRecDepth 100000 in
set_option maxHeartbeats 4000000 in
theorem codecOwn_walk (a0 : Option Addr) (cap0 : Nat) (t : List Nat) (a1 : Option Addr) (cap1 : Nat) (ls : List Int) (w : World) (h0 : LAt w a0 t) (hn0 : a0 = none → cap0 = 0) (h1 : IAt w a1 ls) (hn1 : a1 = none → cap1 = 0) (hf : ∀ x ∈ ls, -9223372036854775808 ≤ x ∧ x < 9223372036854775808) (hl1 : ls.length ≤ 9223372036854775807) (hl0 : t.length ≤ 140737488355328) :
    Calls Try.prog 8 #[.slice a0 t.length cap0, .slice a1 ls.length cap1] w fun e w' => e = .returned (.bool true) ∧ Below w.heap.size w w' := by
  have H0 := hide h0
  have H1 := hide h1
  have HF := hide hf
  clear h0 h1 hf
  by_cases hb4 : 4096 < t.length
  · have hb4' : (4096 : Int) < (t.length : Int) := by omega
    go_enter Try.func8, Try.ntmps8
    go_wp2_with fail
    refine (new_c w).mono ?_
    rintro e w1 ⟨rfl, x⟩
    have C := hide x
    clear x
    go_wp2_with fail
    refine (awake_c (unhide C)).mono ?_
    rintro e w2 ⟨rfl, x⟩
    have C := hide x
    clear x
    go_wp2_with fail
    refine (awake_c (unhide C)).mono ?_
    rintro e w3 ⟨rfl, x⟩
    have BB := hide x.below
    clear x C
    go_wp2
    go_returns
    exact ⟨rfl, unhide BB⟩
  have hb4' : ¬ (4096 : Int) < (t.length : Int) := by omega
  by_cases hc4 : 4096 < ls.length
  · have hc4' : (4096 : Int) < (ls.length : Int) := by omega
    go_enter Try.func8, Try.ntmps8
    go_wp2_with fail
    refine (new_c w).mono ?_
    rintro e w1 ⟨rfl, x⟩
    have C := hide x
    clear x
    go_wp2_with fail
    refine (awake_c (unhide C)).mono ?_
    rintro e w2 ⟨rfl, x⟩
    have C := hide x
    clear x
    go_wp2_with fail
    refine (awake_c (unhide C)).mono ?_
    rintro e w3 ⟨rfl, x⟩
    have BB := hide x.below
    clear x C
    go_wp2
    go_returns
    exact ⟨rfl, unhide BB⟩
  have hc4' : ¬ (4096 : Int) < (ls.length : Int) := by omega
  obtain ⟨T, hT⟩ : ∃ T, T = (enc t.length ++ t) ++ (enc ls.length ++ encL ls) := ⟨_, rfl⟩
  have e10 := enc_len10 (n := t.length) (by omega)
  have e11 := enc_len10 (n := ls.length) (by omega)
  have e12 := encL_len ls (unhide HF)
  have hTl : T.length = (enc t.length).length + t.length + ((enc ls.length).length + (encL ls).length) := by rw [hT]; simp; omega
  have hTs : T.length ≤ 100000 := by omega
  have RB1 : Hid (rB T ⟨0, 0⟩ = (t, ⟨(enc t.length).length + t.length, 0⟩)) := by
    have := rB_enc (t := T) (s := ⟨0, 0⟩) (bs := t) (u := enc ls.length ++ encL ls) rfl (by rw [hT]; simp) (by omega)
    rw [Nat.zero_add] at this
    exact this
  have hd1 : T.drop ((enc t.length).length + t.length) = enc ls.length ++ (encL ls ++ []) := by
    rw [hT, ← List.length_append, List.drop_left]; simp
  have RL1 : Hid (rL T ⟨(enc t.length).length + t.length, 0⟩ = (ls, ⟨T.length, 0⟩)) := by
    have := rL_enc (t := T) (s := ⟨(enc t.length).length + t.length, 0⟩) (ls := ls) (u := []) rfl hd1 (by omega) (unhide HF)
    rw [show (enc t.length).length + t.length + (enc ls.length).length + (encL ls).length = T.length by omega] at this
    exact this
  have RE1 : Hid (rE T ⟨T.length, 0⟩ = 0) := by show rE T ⟨T.length, 0⟩ = 0; unfold rE; rw [if_neg (by simp)]
  have HT := hide hT
  generalize (enc t.length).length + t.length = P1 at *
  clear hd1 hTl hT
  go_enter Try.func8, Try.ntmps8
  go_wp2_with fail
  refine (new_c w).mono ?_
  rintro e w1 ⟨rfl, x⟩
  have C := hide x
  clear x
  go_wp2_with fail
  refine (awake_c (unhide C)).mono ?_
  rintro e w2 ⟨rfl, x⟩
  have C2 := hide x
  clear x C
  have R0 := hide (Row.lit w2 [] (fun x hx => by cases hx) #[] rfl (by simp [maxLen]))
  have L2 := hide ((unhide H0).later (unhide C2).below)
  go_wp2_with (at_builtin; refine wpList_row _ rfl (.tmp 38) (.tmp 39) rfl _ [] rfl (unhide R0) a0 cap0 t rfl ((unhide L2).keep ((Touch.refl (fun _ => False) w2).alloc _) (fun _ _ _ h => h)) hn0 (by simpa using hl0) ?_)
  intro vc w3 r3 t3 m3
  have F3 := fresh_copy r3 t3 m3
  have NVC : Hid (∀ k, vc.ownBlock = some k → w2.heap.size ≤ k ∧ k < w3.heap.size) := fun k hk => ⟨F3.2.1 k hk, F3.1.lt k hk⟩
  have C3 := hide ((unhide C2).later F3.2.2)
  have VC3 := hide F3.1
  have hs23 := F3.2.2.size
  obtain ⟨xc, yc, zc, rfl⟩ := F3.1.shape
  clear r3 t3 m3 F3 R0 L2
  have hB3a : Below w3.heap.size w3 (w3.alloc (.cells #[] 3)) := (Below.refl _ _).alloc (Nat.le_refl _) _
  have L3 := hide (((unhide H1).later (unhide C3).below).keep ((Touch.refl (fun _ => False) w3).alloc (.cells #[] 3)) (fun _ _ _ h => h))
  have HN3 := hide (heap_new w3 (.cells #[] 3))
  have HB3 := hide hB3a
  clear hB3a
  go_wp2_with (at_builtin; refine wpList_ilist _ rfl (.tmp 41) (.tmp 42) rfl w3.heap.size rfl (unhide HN3) a1 cap1 ls rfl (unhide L3) hn1 (by omega) ?_)
  intro vm w4 r4 t4 m4
  have B34 := below_touch (unhide HB3) t4 (unhide HB3).size (fun k hk => by omega)
  have C4 := hide ((unhide C3).later B34)
  have VC4 := hide ((unhide VC3).later B34)
  have hs34 := B34.size
  have NVM : Hid (∀ k, vm.ownBlock = some k → w3.heap.size ≤ k ∧ k < w4.heap.size) := fun k hk => ⟨by
    rcases m4 k hk with e | e
    · omega
    · have := (unhide HB3).size; omega, Own.lt r4 k hk⟩
  have VM4 := hide r4
  obtain ⟨xm, zm, rfl, _⟩ := IRow.parts r4
  clear r4 t4 m4 B34 L3 HN3 HB3 C3 VC3
  obtain ⟨_, _, e, lc4, _, _, hnc4, hoc4, _⟩ := (unhide VC4).parts
  cases e
  have hlt2 := (unhide C2).lt
  have K5 := hide (wbytes_any (.pointer (some ⟨w.heap.size, 0, none⟩)) (.slice none 0 0) [] false xc zc t w4 (unhide C4).v lc4 hnc4 (fun h0 x hx hm => by have := hlt2 _ hm; have := unhide NVC _ (hoc4 x hx); omega) (by omega) (by simp; omega))
  clear lc4 hnc4 hoc4
  go_wp2_with fail
  refine (unhide K5).mono ?_
  rintro e w5 ⟨rfl, v5, h5, s5⟩
  have C5 := hide ((unhide C4).step h5 s5)
  have hs45 := s5.touch.size
  have VC5 := hide ((unhide VC4).keep s5.touch (fun k hk hm => by have := hlt2 _ hm; have := unhide NVC k hk; omega))
  have VM5 := hide ((unhide VM4).keep s5.touch (fun k hk hm => by have := hlt2 _ hm; have := unhide NVM k hk; omega))
  have M5 : Hid (∀ k, Mine (.pointer (some ⟨w.heap.size, 0, none⟩)) v5 k → k < w2.heap.size ∨ w4.heap.size ≤ k) := by
    rintro k (e | e)
    · exact .inl (hlt2 k (.inl e))
    · rcases s5.moved k e with e | e
      · simp [Value.ownBlock] at e
      · exact .inr e
  obtain ⟨_, _, e, lm5, _, _, hnm5, hom5, _⟩ := IRow.parts (unhide VM5)
  cases e
  have K6 := hide (wints_any (.pointer (some ⟨w.heap.size, 0, none⟩)) v5 (lays false [] (enc t.length ++ t)) false xm zm ls w5 (unhide C5).v lm5 (fun h0 x hx hm => by have := unhide M5 _ hm; have := unhide NVM _ (hom5 x hx); omega) (unhide HF) hl1 (.inl (by simp [lays]; omega)))
  clear h5 s5 K5 VC4 VM4 C4 lm5 hnm5 hom5
  go_wp2_with fail
  refine (unhide K6).mono ?_
  rintro e w6 ⟨rfl, v6, h6, s6⟩
  have hle : lays false (lays false [] (enc t.length ++ t)) (enc ls.length ++ encL ls) = T := by rw [unhide HT]; simp [lays]
  rw [hle] at h6
  have C6 := hide ((unhide C5).step h6 s6)
  have VC6 := hide ((unhide VC5).keep s6.touch (fun k hk hm => by have := unhide M5 _ hm; have := unhide NVC k hk; omega))
  have VM6 := hide ((unhide VM5).keep s6.touch (fun k hk hm => by have := unhide M5 _ hm; have := unhide NVM k hk; omega))
  have M6 : Hid (∀ k, Mine (.pointer (some ⟨w.heap.size, 0, none⟩)) v6 k → k < w2.heap.size ∨ w4.heap.size ≤ k) := by
    rintro k (e | e)
    · exact .inl (hlt2 k (.inl e))
    · rcases s6.moved k e with e | e
      · exact unhide M5 k (.inr e)
      · exact .inr (by omega)
  have hs56 := s6.touch.size
  clear h6 s6 K6 VC5 VM5 C5 hle M5 C2
  obtain ⟨_, _, e, lc6, _⟩ := (unhide VC6).parts
  cases e
  have SM := hide (same_any w6 xc a0 zc cap0 t lc6 ((unhide H0).later (unhide C6).below) (by omega))
  clear lc6
  go_wp2_with fail
  refine (unhide SM).mono ?_
  rintro e w7 ⟨rfl, n7, rfl⟩
  have C7 := hide ((unhide C6).drewN n7)
  have VC7 := hide ((unhide VC6).drewN3 n7)
  have VM7 := hide ((unhide VM6).drewN n7)
  have hs7 : w4.heap.size ≤ (w6.drewN n7).heap.size := by show w4.heap.size ≤ w6.heap.size; omega
  clear C6 VC6 VM6 SM
  generalize w6.drewN n7 = w7 at *
  obtain ⟨_, _, e, lm7, _⟩ := IRow.parts (unhide VM7)
  cases e
  have SM := hide (sameints_any w7 xm a1 zm cap1 ls lm7 ((unhide H1).later (unhide C7).below) hl1)
  clear lm7
  go_wp2_with fail
  refine (unhide SM).mono ?_
  rintro e w8 ⟨rfl, n8, rfl⟩
  have C8 := hide ((unhide C7).drewN n8)
  have VC8 := hide ((unhide VC7).drewN3 n8)
  have VM8 := hide ((unhide VM7).drewN n8)
  have hs8 : w4.heap.size ≤ (w7.drewN n8).heap.size := hs7
  clear C7 VC7 VM7 SM hs7
  generalize w7.drewN n8 = w8 at *
  have CVC : Hid (∀ k, (Value.slice xc t.length zc).ownBlock = some k → w.heap.size ≤ k) := fun k hk => by have := unhide NVC k hk; have := (unhide C8).hb; have := hlt2 w.heap.size (.inl rfl); omega
  have CVM : Hid (∀ k, (Value.slice xm ls.length zm).ownBlock = some k → w.heap.size ≤ k) := fun k hk => by have := unhide NVM k hk; have := (unhide C8).hb; have := hlt2 w.heap.size (.inl rfl); omega
  go_wp2_with fail
  go_loopw [62] (fun i wr => ∃ (j : Nat) (l' : List Nat), j ≤ t.length ∧ i = .int .i64 j ∧ Row wr (.slice xc t.length zc) l' ∧ Touch (fun i => (Value.slice xc t.length zc).ownBlock = some i) w8 wr) (fun i _ => t.length - (intOf i).toNat)
  case atStart => exact ⟨0, t, Nat.zero_le _, rfl, unhide VC8, Touch.refl _ _⟩
  case round =>
    obtain ⟨j, l', hj, rfl, rl, tl⟩ := hrel
    by_cases hjc : j < t.length
    · obtain ⟨gg, rfl, ⟨y, hy, hcell⟩, hfz, hput⟩ := rl.put3 (k := j) hjc
      obtain ⟨y2, hy2, hy3⟩ : ∃ y2 : Nat, y2 < 256 ∧ ((y : Int) + 1) % 256 = (y2 : Int) := ⟨(y + 1) % 256, by omega, by omega⟩
      have RL := hide (hput y2 hy2).1
      have TL := hide (tl.trans (hput y2 hy2).2)
      clear rl tl hput
      have hjc' : (j : Int) < (t.length : Int) := by omega
      have hwr : IntKind.u8.wrap ((y : Int) + 1) = (y2 : Int) := by rw [IntKind.wrap_u8']; exact hy3
      go_wp2
      go_roundw
      case rel =>
        obtain ⟨l2, hl2⟩ := unhide RL
        exact ⟨j + 1, l2, by omega, by go_num, hl2, unhide TL⟩
      case measure => simp [intOf]; omega
    obtain rfl : j = t.length := by omega
    have C9 := hide ((unhide C8).touch tl (unhide CVC) (fun k hm e => by have := unhide M6 k hm; have := unhide NVC k e; omega))
    have VM9 := hide ((unhide VM8).keep tl (fun k hk e => by have := unhide NVM k hk; have := unhide NVC k e; omega))
    have hs9 := tl.size
    clear rl tl C8 VC8 VM8
    go_wp2_with fail
    go_loopw [74] (fun i ws => ∃ (j : Nat) (l' : List Int), j ≤ ls.length ∧ i = .int .i64 j ∧ IRow ws (.slice xm ls.length zm) l' ∧ Touch (fun i => (Value.slice xm ls.length zm).ownBlock = some i) wr ws) (fun i _ => ls.length - (intOf i).toNat)
    case atStart => exact ⟨0, ls, Nat.zero_le _, rfl, unhide VM9, Touch.refl _ _⟩
    case round =>
      obtain ⟨j, l', hj, rfl, rl, tl⟩ := hrel
      by_cases hjc : j < ls.length
      · obtain ⟨gg, rfl, ⟨y, hcell⟩, hfz, hput⟩ := rl.put3 (k := j) hjc
        have RL := hide (fun x => (hput x).1)
        have TL := hide (fun x => tl.trans (hput x).2)
        clear rl tl hput
        have hjc' : (j : Int) < (ls.length : Int) := by omega
        go_wp2
        go_roundw
        case rel =>
          obtain ⟨l2, hl2⟩ := unhide RL _
          exact ⟨j + 1, l2, by omega, by go_num, hl2, unhide TL _⟩
        case measure => simp [intOf]; omega
      obtain rfl : j = ls.length := by omega
      have C10 := hide ((unhide C9).touch tl (unhide CVM) (fun k hm e => by have := unhide M6 k hm; have := unhide NVM k e; omega))
      clear rl tl C9 VM9
      have OU := hide (out_c (unhide C10) (by omega))
      go_wp2_with fail
      refine (unhide OU).mono ?_
      rintro e w11 ⟨vo, rfl, x11, r11, n11, b11⟩
      have B11 := hide x11.below
      have VO11 := hide r11
      have hsz11 := b11.size
      have hwr0 := (unhide C10).below.size
      have NVO : Hid (∀ k, vo.ownBlock = some k → w.heap.size ≤ k ∧ k < w11.heap.size) := fun k hk => ⟨by have := n11 k hk; omega, r11.lt k hk⟩
      obtain ⟨xo, zo, rfl, lo11, _, _, hno, hoo, _⟩ := r11.parts
      have LO11 := hide lo11
      clear x11 r11 n11 b11 OU C10 lo11 hoo CVC CVM M6 NVC NVM
      have R0 := hide (Row.lit w11 [] (fun x hx => by cases hx) #[] rfl (by simp [maxLen]))
      go_wp2_with (at_builtin; refine wpList_row _ rfl (.tmp 89) (.tmp 90) rfl _ [] rfl (unhide R0) xo zo T rfl ((unhide LO11).keep ((Touch.refl (fun _ => False) w11).alloc _) (fun _ _ _ h => h)) hno (by simp; omega) ?_)
      intro vi w12 r12 t12 m12
      have F12 := fresh_copy r12 t12 m12
      have B12 := hide ((unhide B11).trans (F12.2.2.mono (unhide B11).size))
      have VO12 := hide ((unhide VO11).later F12.2.2)
      have VI12 := hide F12.1
      have hs12 := F12.2.2.size
      have hsw := (unhide B11).size
      have NVI : Hid (∀ k, vi.ownBlock = some k → w11.heap.size ≤ k ∧ k < w12.heap.size) := fun k hk => ⟨F12.2.1 k hk, F12.1.lt k hk⟩
      obtain ⟨xi, zi, rfl, li12, _, _, hni, hoi, _⟩ := F12.1.parts
      have NR := hide (reader_c (unhide B12) xi zi T li12 hni (by omega))
      clear r12 t12 m12 F12 R0 LO11 VO11 li12 hni hoi B11
      go_wp2_with fail
      refine (unhide NR).mono ?_
      rintro e w13 ⟨b13, a13, c13, rfl, q13, bl13, hb13, ha13⟩
      have Q13 := hide q13
      have VO13 := hide ((unhide VO12).later bl13)
      have VI13 := hide ((unhide VI12).later bl13)
      have hs13 := bl13.size
      have HA13 := hide ha13
      clear q13 bl13 ha13 NR VO12 VI12 B12
      go_wp2_with fail
      go_loopw [96] (fun i wr => ∃ (j : Nat) (l' : List Nat), j ≤ T.length ∧ i = .int .i64 j ∧ Row wr (.slice xi T.length zi) l' ∧ Touch (fun i => (Value.slice xi T.length zi).ownBlock = some i) w13 wr) (fun i _ => T.length - (intOf i).toNat)
      case atStart => exact ⟨0, T, Nat.zero_le _, rfl, unhide VI13, Touch.refl _ _⟩
      case round =>
        obtain ⟨j, l', hj, rfl, rl, tl⟩ := hrel
        by_cases hjc : j < T.length
        · obtain ⟨gg, rfl, ⟨y, hy, hcell⟩, hfz, hput⟩ := rl.put3 (k := j) hjc
          have RL := hide (hput 9 (by omega)).1
          have TL := hide (tl.trans (hput 9 (by omega)).2)
          clear rl tl hput
          have hjc' : (j : Int) < (T.length : Int) := by omega
          go_wp2
          go_roundw
          case rel =>
            obtain ⟨l2, hl2⟩ := unhide RL
            exact ⟨j + 1, l2, by omega, by go_num, hl2, unhide TL⟩
          case measure => simp [intOf]; omega
        obtain rfl : j = T.length := by omega
        have Q14 : Hid (RdAt 74 wr b13 a13 c13 T ⟨0, 0⟩) := (unhide Q13).rd.keep tl (fun e => by have := unhide NVI _ e; omega) (fun h0 x hx e => by have := unhide NVI _ e; have := unhide HA13 x hx; omega)
        have VO14 := hide ((unhide VO13).keep tl (fun k hk e => by have := unhide NVI k e; have := unhide NVO k hk; omega))
        have B14 := hide (below_touch (unhide Q13).below tl (unhide Q13).below.size (fun k hk => by have := unhide NVI k hk; omega))
        have hb13l := (unhide Q13).rd.lt
        have hs14 := tl.size
        clear rl tl Q13 VO13 VI13
        have K1 := rbytes_any wr (unhide Q14)
        rw [unhide RB1] at K1
        have KK := hide K1
        clear K1
        go_wp2_with fail
        refine (unhide KK).mono ?_
        rintro e w15 ⟨vx, rfl, r15, n15, h15, t15⟩
        have X15 := hide r15
        have NX : Hid (∀ k, vx.ownBlock = some k → b13 < k) := fun k hk => by have := n15 k hk; omega
        have VO15 := hide ((unhide VO14).keep t15 (fun k hk e => by have := unhide NVO k hk; omega))
        have B15 := hide (below_touch (unhide B14) t15 (unhide B14).size (fun k hk => by omega))
        have K2 := rints_any w15 h15
        rw [unhide RL1] at K2
        have KK := hide K2
        have hs15 := t15.size
        clear r15 n15 h15 t15 K2 VO14 B14 Q14
        go_wp2_with fail
        refine (unhide KK).mono ?_
        rintro e w16 ⟨vy, rfl, r16, n16, h16, t16⟩
        have X16 := hide ((unhide X15).keep t16 (fun k hk e => by have := unhide NX k hk; omega))
        have Y16 := hide r16
        have VO16 := hide ((unhide VO15).keep t16 (fun k hk e => by have := unhide NVO k hk; omega))
        have B16 := hide (below_touch (unhide B15) t16 (unhide B15).size (fun k hk => by omega))
        have K3 := end_any w16 h16
        rw [unhide RE1] at K3
        have KK := hide K3
        clear r16 n16 h16 t16 K3 X15 VO15 B15
        go_wp2_with fail
        refine (unhide KK).mono ?_
        rintro e w17 ⟨rfl, n17, rfl⟩
        have X17 := hide ((unhide X16).drewN3 n17)
        have Y17 := hide ((unhide Y16).drewN n17)
        have VO17 := hide ((unhide VO16).drewN3 n17)
        have B17 := hide (below_drewN' (unhide B16) n17)
        clear X16 Y16 VO16 B16 KK
        generalize w16.drewN n17 = w17 at *
        obtain ⟨xx, zx, rfl, lx, _⟩ := (unhide X17).parts
        have SM := hide (same_any w17 xx a0 zx cap0 t lx ((unhide H0).later (unhide B17)) (by omega))
        clear lx
        go_wp2_with fail
        refine (unhide SM).mono ?_
        rintro e w18 ⟨rfl, n18, rfl⟩
        have Y18 := hide ((unhide Y17).drewN n18)
        have VO18 := hide ((unhide VO17).drewN3 n18)
        have B18 := hide (below_drewN' (unhide B17) n18)
        clear X17 Y17 VO17 B17 SM
        generalize w17.drewN n18 = w18 at *
        obtain ⟨xy, zy, rfl, ly, _⟩ := IRow.parts (unhide Y18)
        have SM := hide (sameints_any w18 xy a1 zy cap1 ls ly ((unhide H1).later (unhide B18)) hl1)
        clear ly
        go_wp2_with fail
        refine (unhide SM).mono ?_
        rintro e w19 ⟨rfl, n19, rfl⟩
        have VO19 := hide ((unhide VO18).drewN3 n19)
        have B19 := hide (below_drewN' (unhide B18) n19)
        clear Y18 VO18 B18 SM
        generalize w18.drewN n19 = w19 at *
        obtain ⟨_, _, e, lo19, _, _, hno19, _⟩ := (unhide VO19).parts
        cases e
        have NR := hide (reader_c (unhide B19) xo zo T lo19 hno19 (by omega))
        clear lo19 hno19
        go_wp2_with fail
        refine (unhide NR).mono ?_
        rintro e w20 ⟨b20, a20, c20, rfl, q20, bl20, hb20, ha20⟩
        have hb20l := q20.rd.lt
        have hbw := q20.hb
        have B20 := hide q20.below
        have HA20 : Hid (0 < T.length → ∀ x, a20 = some x → x.block < w20.heap.size) := fun h0 x hx => mem_lt q20.rd.text h0 hx
        have K1 := rbytes_any w20 q20.rd
        rw [unhide RB1] at K1
        have KK := hide K1
        clear K1 q20 bl20 ha20 NR VO19 B19
        go_wp2_with fail
        refine (unhide KK).mono ?_
        rintro e w21 ⟨vz, rfl, r21, n21, h21, t21⟩
        have Z21 := hide r21
        have NZ : Hid (∀ k, vz.ownBlock = some k → w20.heap.size ≤ k) := n21
        have B21 := hide (below_touch (unhide B20) t21 (unhide B20).size (fun k hk => by omega))
        have Q21 := hide h21
        obtain ⟨xz, mz, zz, hvz⟩ := r21.shape
        obtain ⟨_, _, e, _⟩ := r21.parts
        subst hvz
        cases e
        clear r21 n21 h21 t21 KK B20
        go_wp2_with fail
        go_loopw [132] (fun i wr => ∃ (j : Nat) (l' : List Nat), j ≤ t.length ∧ i = .int .i64 j ∧ Row wr (.slice xz t.length zz) l' ∧ Touch (fun i => (Value.slice xz t.length zz).ownBlock = some i) w21 wr) (fun i _ => t.length - (intOf i).toNat)
        case atStart => exact ⟨0, t, Nat.zero_le _, rfl, unhide Z21, Touch.refl _ _⟩
        case round =>
          obtain ⟨j, l', hj, rfl, rl, tl⟩ := hrel
          by_cases hjc : j < t.length
          · obtain ⟨gg, rfl, ⟨y, hy, hcell⟩, hfz, hput⟩ := rl.put3 (k := j) hjc
            have RL := hide (hput 3 (by omega)).1
            have TL := hide (tl.trans (hput 3 (by omega)).2)
            clear rl tl hput
            have hjc' : (j : Int) < (t.length : Int) := by omega
            go_wp2
            go_roundw
            case rel =>
              obtain ⟨l2, hl2⟩ := unhide RL
              exact ⟨j + 1, l2, by omega, by go_num, hl2, unhide TL⟩
            case measure => simp [intOf]; omega
          obtain rfl : j = t.length := by omega
          have Q22 := hide ((unhide Q21).keep tl (fun e => by have := unhide NZ _ e; omega) (fun h0 x hx e => by have := unhide NZ _ e; have := unhide HA20 h0 x hx; omega))
          have B22 := hide (below_touch (unhide B21) tl (unhide B21).size (fun k hk => by have := unhide NZ k hk; omega))
          clear rl tl Q21 B21 Z21
          have K2 := rints_any _ (unhide Q22)
          rw [unhide RL1] at K2
          have KK := hide K2
          clear K2
          go_wp2_with fail
          refine (unhide KK).mono ?_
          rintro e w23 ⟨vy, rfl, r23, n23, h23, t23⟩
          have B23 := hide (below_touch (unhide B22) t23 (unhide B22).size (fun k hk => by omega))
          have Q23 := hide h23
          obtain ⟨xq, zq, rfl, lq, _⟩ := IRow.parts r23
          have SM := hide (sameints_any w23 xq a1 zq cap1 ls lq ((unhide H1).later (unhide B23)) hl1)
          clear r23 n23 h23 t23 KK lq B22 Q22
          go_wp2_with fail
          refine (unhide SM).mono ?_
          rintro e w24 ⟨rfl, n24, rfl⟩
          have K3 := end_any _ ((unhide Q23).drewN n24)
          rw [unhide RE1] at K3
          have KK := hide K3
          clear K3
          go_wp2_with fail
          refine (unhide KK).mono ?_
          rintro e w25 ⟨rfl, n25, rfl⟩
          go_wp2
          go_returns
          exact ⟨rfl, below_drewN' (unhide B23) _⟩
end Go.Proofs.Ytnhociggoagpoaa
