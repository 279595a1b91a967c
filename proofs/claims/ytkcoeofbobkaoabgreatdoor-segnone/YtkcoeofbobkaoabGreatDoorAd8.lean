/-
  seglog's segment.add. Conditions: what the segment is; at most 2^40 batches.
-/
import Derived.Test.YtkcoeofbobkaoabGreatDoorSg1
import Derived.Test.YtkcoeofbobkaoabGreatDoorSet9
import Derived.Test.YtkcoeofbobkaoabGreatDoorCp7
import Derived.Test.YtkcoeofbobkaoabGreatDoorDd7

/-
  seglog's copied: a batch that shares no memory with another one. Conditions: at most 2^40 values of at most 2^40 bytes each.
-/
namespace Go.Proofs.YtkcoeofbobkaoabGreatDoor
open Go.RowKit
set_option linter.unusedVariables false

theorem RAt.vals {w : World} {a : Option Addr} {vs : List (List Nat)} (h : RAt w a vs) : ∃ us : List Value, us.length = vs.length ∧ (∀ j u, us[j]? = some u → ∃ b off, a = some ⟨b, off, none⟩ ∧ w.cell? ⟨b, off + j, none⟩ = some u) ∧ ∀ i, i < vs.length → ∃ u, us[i]? = some u ∧ Elem w u (vs.getD i []) := by
  have key : ∀ i, i < vs.length → ∃ u, (match a with | some x => w.cell? ⟨x.block, x.off + i, none⟩ | none => none) = some u ∧ Elem w u (vs.getD i []) ∧ ∃ b off, a = some ⟨b, off, none⟩ ∧ w.cell? ⟨b, off + i, none⟩ = some u := by
    intro i hi
    obtain ⟨b, off, u, rfl, _, hc, he⟩ := h i hi
    exact ⟨u, hc, he, b, off, rfl, hc⟩
  refine ⟨(List.range vs.length).map (fun i => (match a with | some x => w.cell? ⟨x.block, x.off + i, none⟩ | none => none).getD (.bool false)), by simp, fun j u hj => ?_, fun i hi => ?_⟩
  · have hj' : j < vs.length := by
      have := (List.getElem?_eq_some_iff.1 hj).1
      simpa using this
    obtain ⟨u', e1, _, b, off, ha, hc⟩ := key j hj'
    simp [hj'] at hj
    rw [e1] at hj
    simp at hj
    subst hj
    exact ⟨b, off, ha, hc⟩
  · obtain ⟨u', e1, he, _⟩ := key i hi
    refine ⟨u', ?_, he⟩
    simp [hi]
    rw [e1]; rfl
theorem Elem.one' {w : World} {u : Value} {l : List Nat} (h : Elem w u l) : u.oneCell' = true := h.one

def ClPost (w0 w : World) (vs : List (List Nat)) (e : Ending) (w' : World) : Prop := ∃ a cap us, e = .returned (.slice a vs.length cap) ∧ Spine (Elem w0) w' (.slice a vs.length cap) us vs ∧ New w (.slice a vs.length cap) ∧ Below w.heap.size w w'
set_option maxRecDepth 100000 in
theorem cloneVs_any (a : Option Addr) (vs : List (List Nat)) (cap : Nat) (w0 w : World) (h : RAt w0 a vs) (h0 : Below w0.heap.size w0 w) (hn : a = none → cap = 0) (hl : vs.length ≤ 1099511627776) :
    Calls Tryz.prog 72 #[.slice a vs.length cap] w fun e w' => ClPost w0 w vs e w' := by
  have hnil := fun (w : World) (a : Option Addr) (l c : Nat) => eql_nil (P := Tryz.prog) w 27 23 a l c Tryz.underlying27
  cases a with
  | none =>
    have hl0 : vs = [] := by
      cases vs with
      | nil => rfl
      | cons x r => obtain ⟨_, _, _, h1, _⟩ := h 0 (by simp); cases h1
    obtain rfl := hn rfl
    subst hl0
    clear h h0
    go_enter Tryz.func72, Tryz.ntmps72
    go_wp2
    go_returns
    exact ⟨none, 0, [], rfl, Spine.nil _ _, New.nil _, Below.refl _ _⟩
  | some x =>
    obtain ⟨us, hus, hsrc, hel⟩ := h.vals
    have HEL := hide hel
    have tA : Touch (fun _ => False) w (w.alloc (.cells #[] 23)) := (Touch.refl _ _).alloc _
    have HSRC : Hid (∀ j u, us[j]? = some u → ∃ b off, some x = some (⟨b, off, none⟩ : Addr) ∧ (w.alloc (.cells #[] 23)).cell? ⟨b, off + j, none⟩ = some u) := fun j u hj => by
      obtain ⟨b, off, e1, e2⟩ := hsrc j u hj
      refine ⟨b, off, e1, ?_⟩
      have hjl : j < vs.length := by rw [← hus]; exact (List.getElem?_eq_some_iff.1 hj).1
      obtain ⟨b', off', _, e3, hlt, _⟩ := h j hjl
      rw [e1] at e3
      cases e3
      exact (((Below.refl w.heap.size w).alloc (Nat.le_refl _) _).cell (p := ⟨b, off + j, none⟩) (Nat.lt_of_lt_of_le hlt h0.size)).trans ((h0.cell (p := ⟨b, off + j, none⟩) hlt).trans e2)
    have H1 : Hid (∀ u ∈ us, u.oneCell' = true) := fun u hu => by
      obtain ⟨i, hi, e⟩ := List.getElem_of_mem hu
      obtain ⟨u', e1, e2⟩ := hel i (by omega)
      have : us[i]? = some u := by rw [List.getElem?_eq_getElem hi, e]
      rw [this] at e1
      cases e1
      exact e2.one
    have O0 : Hid (Own (w.alloc (.cells #[] 23)) 23 (.slice (some ⟨w.heap.size, 0, none⟩) 0 0) []) := by
      have := World.ownsRow_lit (base := 0) (e := 23) (size := 1) w #[] 0 (Nat.zero_le _) (by simp [maxLen]) (by simp)
      exact this
    obtain ⟨i, hi, hz, hsz, hby⟩ := sl_info
    have HI := hide hi
    have HZ := hide hz
    clear h hsrc hel hi hz h0
    go_enter Tryz.func72, Tryz.ntmps72
    go_wp2_with (at_builtin; refine wpList_app _ rfl (.tmp 5) (.tmp 6) 27 rfl 23 i (.slice none 0 0) 24 Tryz.underlying27 (unhide HI) (unhide HZ) hsz hby rfl _ [] rfl (unhide O0) (some x) vs.length cap us rfl hus (unhide HSRC) (unhide H1) (fun h => by cases h) (by unfold maxLen; simp; omega) (by simp; omega) ?_)
    intro v' w' o' t' m'
    have K : Hid (∃ a cap, v' = .slice a vs.length cap ∧ Spine (Elem w0) w' v' us vs ∧ New w v' ∧ Below w.heap.size w w') := by
      obtain ⟨a, cp, e, _⟩ := o'.parts
      rw [hus] at e
      refine ⟨a, cp, e, ⟨by simpa using o', hus, fun i hi => unhide HEL i hi⟩, fun k hk => ?_, ?_⟩
      · rcases m' k hk with e | e
        · simp [Value.ownBlock] at e; omega
        · simp at e; omega
      · exact below_touch ((Below.refl _ w).alloc (Nat.le_refl _) _) t' (by simp) (fun k hk => by simp [Value.ownBlock] at hk; omega)
    clear o' t' m' O0 HSRC H1 HEL HI HZ
    obtain ⟨a, cp, rfl, K1, K2, K3⟩ := unhide K
    have K1H := hide K1
    have K2H := hide K2
    have K3H := hide K3
    clear K K1 K2 K3
    go_wp2
    go_returns
    exact ⟨a, cp, us, rfl, unhide K1H, unhide K2H, unhide K3H⟩

theorem frz {w w' : World} {g j : Nat} (hb : Below w.heap.size w w') (hg : g < w.heap.size) (h : w.frozen? ⟨g, j, none⟩ = false) : w'.frozen? ⟨g, j, none⟩ = false := by
  unfold World.frozen? at *
  rw [hb.block g hg]
  exact h
/-- Where copied's loop has come to: the first k values are new. -/
structure CpI (w W wr : World) (v : Value) (us : List Value) (ls : List (List Nat)) (k : Nat) : Prop where
  own : Own wr 23 v us
  len : us.length = ls.length
  done : ∀ i, i < k → ∃ u, us[i]? = some u ∧ Row wr u (ls.getD i []) ∧ New W u
  todo : ∀ i, k ≤ i → i < ls.length → ∃ u, us[i]? = some u ∧ Elem w u (ls.getD i [])
theorem CpI.later {w W wr w' : World} {v : Value} {us : List Value} {ls : List (List Nat)} {k : Nat} (h : CpI w W wr v us ls k) (hb : Below wr.heap.size wr w') : CpI w W w' v us ls k :=
  ⟨h.own.later hb, h.len, fun i hi => by obtain ⟨u, e1, e2, e3⟩ := h.done i hi; exact ⟨u, e1, e2.later hb, e3⟩, h.todo⟩
theorem CpI.keep {w W wr w' : World} {v : Value} {us : List Value} {ls : List (List Nat)} {k g : Nat} (h : CpI w W wr v us ls k) (t : Touch (· = g) wr w') (hg : g < W.heap.size) (hv : New W v) : CpI w W w' v us ls k :=
  ⟨h.own.keep t (fun k hk e => by have := hv k hk; omega), h.len, fun i hi => by obtain ⟨u, e1, e2, e3⟩ := h.done i hi; exact ⟨u, e1, e2.keep t (fun k hk e => by have := e3 k hk; omega), e3⟩, h.todo⟩
theorem CpI.step {w W wr : World} {gv n cap : Nat} {us : List Value} {ls : List (List Nat)} {k : Nat} {u : Value} (h : CpI w W wr (.slice (some ⟨gv, 0, none⟩) n cap) us ls k) (hk : k < ls.length) (r : Row wr u (ls.getD k [])) (nu : New W u) : CpI w W (wr.setCell ⟨gv, k, none⟩ u) (.slice (some ⟨gv, 0, none⟩) n cap) (us.set k u) ls (k + 1) := by
  have ts := touch_set wr gv k u
  have hr : ∀ (x : Value) (l : List Nat), Row wr x l → Row (wr.setCell ⟨gv, k, none⟩ u) x l := fun x l hx => hx.keep ts (fun j hj e => Spine.apart h.own hx j hj (by rw [e]; rfl))
  have hl := h.len
  refine ⟨?_, by rw [List.length_set]; exact h.len, fun i hi => ?_, fun i h1 h2 => ?_⟩
  · have hw : Wide wr 23 1 (.slice (some ⟨gv, 0, none⟩) n cap) us.length us := h.own
    obtain ⟨_, _, e, _⟩ := hw.parts
    cases e
    have := hw.set k u
    unfold Own
    rw [List.length_set]
    exact this
  · by_cases e : i = k
    · subst e
      exact ⟨u, by rw [List.getElem?_set_self (by omega)], hr _ _ r, nu⟩
    · obtain ⟨x, e1, e2, e3⟩ := h.done i (by omega)
      exact ⟨x, by rw [List.getElem?_set_ne (by omega)]; exact e1, hr _ _ e2, e3⟩
  · obtain ⟨x, e1, e2⟩ := h.todo i (by omega) h2
    exact ⟨x, by rw [List.getElem?_set_ne (by omega)]; exact e1, e2⟩

set_option maxRecDepth 100000 in
set_option maxHeartbeats 4000000 in
theorem copied8_any (b : Bt) (a : Option Addr) (cap : Nat) (w : World) (hp : RAt w a b.vs) (hn : a = none → cap = 0) (hl : b.vs.length ≤ 1099511627776) (h4 : ∀ p ∈ b.vs, p.length ≤ 1099511627776) :
    Calls Tryz.prog 48 #[bv b a cap] w fun e w' => CoPost w b e w' := by
  have HP := hide hp
  have H4 := hide h4
  clear hp h4
  obtain ⟨base, epoch, pid, pep, seq, txn, ctl, com, ls⟩ := b
  simp only at HP H4 hl
  have BW : Hid (Below w.heap.size w ((w.alloc (.cells #[.int .i64 base, .int .i64 epoch, .int .u64 (pid : Int), .int .i64 pep, .int .i64 seq, .bool txn, .bool ctl, .bool com, .slice a ls.length cap] 29)).alloc (.cells #[.int .i64 0, .int .i64 0, .int .u64 0, .int .i64 0, .int .i64 0, .bool false, .bool false, .bool false, .slice none 0 0] 29))) := ((Below.refl _ _).alloc (Nat.le_refl _) _).alloc (by simp) _
  have BX : Hid (Box ((w.alloc (.cells #[.int .i64 base, .int .i64 epoch, .int .u64 (pid : Int), .int .i64 pep, .int .i64 seq, .bool txn, .bool ctl, .bool com, .slice a ls.length cap] 29)).alloc (.cells #[.int .i64 0, .int .i64 0, .int .u64 0, .int .i64 0, .int .i64 0, .bool false, .bool false, .bool false, .slice none 0 0] 29)) w.heap.size ⟨base, epoch, pid, pep, seq, txn, ctl, com, ls⟩ a cap) := heap_old _ (Box.new w ⟨base, epoch, pid, pep, seq, txn, ctl, com, ls⟩ a cap)
  have BZ : Hid (Box ((w.alloc (.cells #[.int .i64 base, .int .i64 epoch, .int .u64 (pid : Int), .int .i64 pep, .int .i64 seq, .bool txn, .bool ctl, .bool com, .slice a ls.length cap] 29)).alloc (.cells #[.int .i64 0, .int .i64 0, .int .u64 0, .int .i64 0, .int .i64 0, .bool false, .bool false, .bool false, .slice none 0 0] 29)) (w.heap.size + 1) zeroB none 0) := by
    have := Box.new (w.alloc (.cells #[.int .i64 base, .int .i64 epoch, .int .u64 (pid : Int), .int .i64 pep, .int .i64 seq, .bool txn, .bool ctl, .bool com, .slice a ls.length cap] 29)) zeroB none 0
    simp only [World.size_alloc] at this
    exact this
  have k8 : ((w.alloc (.cells #[.int .i64 base, .int .i64 epoch, .int .u64 (pid : Int), .int .i64 pep, .int .i64 seq, .bool txn, .bool ctl, .bool com, .slice a ls.length cap] 29)).alloc (.cells #[.int .i64 0, .int .i64 0, .int .u64 0, .int .i64 0, .int .i64 0, .bool false, .bool false, .bool false, .slice none 0 0] 29)).cell? ⟨w.heap.size, 8, none⟩ = some (.slice a ls.length cap) := cell_of (unhide BX) 8
  go_enter Tryz.func48, Tryz.ntmps48
  go_wp2_with fail
  generalize hW : ((w.alloc (.cells #[.int .i64 base, .int .i64 epoch, .int .u64 (pid : Int), .int .i64 pep, .int .i64 seq, .bool txn, .bool ctl, .bool com, .slice a ls.length cap] 29)).alloc (.cells #[.int .i64 0, .int .i64 0, .int .u64 0, .int .i64 0, .int .i64 0, .bool false, .bool false, .bool false, .slice none 0 0] 29)) = W at *
  have hWs : W.heap.size = w.heap.size + 2 := by rw [← hW]; simp
  clear hW k8
  refine (cloneVs_any a ls cap w W (unhide HP) (unhide BW) hn hl).mono ?_
  rintro e w1 ⟨a1, c1, us, rfl, sp1, n1, b1⟩
  have bx1 := (unhide BX).later b1
  have z8 := frozen_of bx1 8
  have y8 : w1.cell? ⟨w.heap.size, 8, none⟩ = some (.slice a ls.length cap) := cell_of bx1 8
  have ts := touch_set w1 w.heap.size 8 (.slice a1 ls.length c1)
  have w1s := b1.size
  have hW1 : W.heap.size ≤ (w1.setCell ⟨w.heap.size, 8, none⟩ (.slice a1 ls.length c1)).heap.size := by simp; omega
  have C1 : Hid (CpI w W (w1.setCell ⟨w.heap.size, 8, none⟩ (.slice a1 ls.length c1)) (.slice a1 ls.length c1) us ls 0) :=
    CpI.keep ⟨sp1.own, sp1.len, fun i hi => by omega, fun i _ hi => sp1.each i hi⟩ ts (by omega) n1
  have X1 : Hid (Box (w1.setCell ⟨w.heap.size, 8, none⟩ (.slice a1 ls.length c1)) w.heap.size ⟨base, epoch, pid, pep, seq, txn, ctl, com, ls⟩ a1 c1) := by
    have := set1 bx1 8 (.slice a1 ls.length c1) rfl
    exact this
  have Z1 : Hid (Box (w1.setCell ⟨w.heap.size, 8, none⟩ (.slice a1 ls.length c1)) (w.heap.size + 1) zeroB none 0) := ((unhide BZ).later b1).keep ts (by omega)
  have B1 : Hid (Below w.heap.size w (w1.setCell ⟨w.heap.size, 8, none⟩ (.slice a1 ls.length c1))) := below_touch ((unhide BW).trans (b1.mono (by omega))) ts (by omega) (fun k hk => by omega)
  have BX2 : Hid (Below W.heap.size W w1) := b1
  have N1 := hide n1
  have x8 : (w1.setCell ⟨w.heap.size, 8, none⟩ (.slice a1 ls.length c1)).cell? ⟨w.heap.size, 8, none⟩ = some (.slice a1 ls.length c1) := cell_of (unhide X1) 8
  clear sp1 n1 b1 bx1 ts BX BZ
  go_wp2_with fail
  generalize w1.setCell ⟨w.heap.size, 8, none⟩ (.slice a1 ls.length c1) = W1 at *
  clear y8 z8 x8
  go_loopw [12] (fun pl wr => ∃ (k : Nat) (us : List Value), k ≤ ls.length ∧ pl = .int .i64 k ∧ CpI w W wr (.slice a1 ls.length c1) us ls k ∧ Box wr w.heap.size ⟨base, epoch, pid, pep, seq, txn, ctl, com, ls⟩ a1 c1 ∧ Box wr (w.heap.size + 1) zeroB none 0 ∧ Below w.heap.size w wr ∧ W.heap.size ≤ wr.heap.size) (fun pl _ => ls.length - (intOf pl).toNat)
  case atStart => exact ⟨0, us, Nat.zero_le _, rfl, unhide C1, unhide X1, unhide Z1, unhide B1, hW1⟩
  case round =>
    obtain ⟨k, us', hk, rfl, ci, bx, bz, bl, hsz⟩ := hrel
    have CI := hide ci
    have BXH := hide bx
    have BZH := hide bz
    have BL := hide bl
    clear C1 X1 Z1 B1 hW1
    by_cases hkc : k < ls.length
    · have hkc' : (k : Int) < (ls.length : Int) := by omega
      have hk0 : (0 : Int) ≤ (k : Int) := by omega
      have hwk : IntKind.i64.wrap (k : Int) = (k : Int) := wrap_low (by omega) (by omega)
      obtain ⟨a', cap', ev, _, _, _, _, hpts⟩ := ci.own.parts
      obtain ⟨gv, ha, hgl, hcell, hfz⟩ := hpts k (by rw [ci.len]; exact hkc)
      injection ev with e1 e2 e3
      clear e2
      subst e1
      subst e3
      subst ha
      obtain ⟨u, hu, x, c, rfl, lx, hnx⟩ := ci.todo k (Nat.le_refl _) hkc
      rw [hu] at hcell
      have hp4 : (ls.getD k []).length ≤ 1099511627776 := unhide H4 _ (getD_mem_l hkc)
      have x8 : wr.cell? ⟨w.heap.size, 8, none⟩ = some (.slice (some ⟨gv, 0, none⟩) ls.length c1) := cell_of bx 8
      have hgw : w.heap.size < wr.heap.size := by omega
      have KC : Hid (∀ w', Below wr.heap.size wr w' → Calls Tryz.prog 73 #[.slice x (ls.getD k []).length c] w' fun e w'' => ∃ v, e = .returned v ∧ Row w'' v (ls.getD k []) ∧ New W v ∧ Below wr.heap.size wr w'') := fun w' hb =>
        (clone_any x (ls.getD k []) c w' ((lx.later (unhide BL)).later hb) hnx (by omega)).mono fun e w'' h => by
          obtain ⟨v, h1, h2, h3, h4⟩ := h
          exact ⟨v, h1, h2, h3.mono (Nat.le_trans hsz hb.size), hb.trans (h4.mono hb.size)⟩
      have hus : us'.length = ls.length := ci.len
      clear ci bx bz bl lx hu hpts hus
      generalize hpp : ls.getD k [] = p at *
      go_wp2_with fail
      go_region_with (go_at_call 73; refine (unhide KC _ (by go_grown)).mono ?_; rintro e w2 ⟨v2, rfl, r2, n2, b2⟩; obtain ⟨a2, m2, c2, rfl⟩ := r2.shape; have y8 : w2.cell? ⟨w.heap.size, 8, none⟩ = some (.slice (some ⟨gv, 0, none⟩) ls.length c1) := (b2.cell (p := ⟨w.heap.size, 8, none⟩) hgw).trans x8; have yk : w2.cell? ⟨gv, k, none⟩ = some (.slice x p.length c) := (b2.cell (p := ⟨gv, k, none⟩) hgl).trans hcell; have zk : w2.frozen? ⟨gv, k, none⟩ = false := frz b2 hgl hfz; have R2 := hide r2; have N2 := hide n2; have B2 := hide b2; clear r2 n2 b2)
      all_goals
        have ts := touch_set w2 gv k (.slice a2 m2 c2)
        have hgW : W.heap.size ≤ gv := unhide N1 gv rfl
        have NX : Hid (CpI w W (w2.setCell ⟨gv, k, none⟩ (.slice a2 m2 c2)) (.slice (some ⟨gv, 0, none⟩) ls.length c1) (us'.set k (.slice a2 m2 c2)) ls (k + 1)) := ((unhide CI).later (unhide B2)).step hkc (by rw [hpp]; exact unhide R2) (unhide N2)
        have NB : Hid (Box (w2.setCell ⟨gv, k, none⟩ (.slice a2 m2 c2)) w.heap.size ⟨base, epoch, pid, pep, seq, txn, ctl, com, ls⟩ (some ⟨gv, 0, none⟩) c1) := ((unhide BXH).later (unhide B2)).keep ts (by omega)
        have NZ : Hid (Box (w2.setCell ⟨gv, k, none⟩ (.slice a2 m2 c2)) (w.heap.size + 1) zeroB none 0) := ((unhide BZH).later (unhide B2)).keep ts (by omega)
        have ND : Hid (Below w.heap.size w (w2.setCell ⟨gv, k, none⟩ (.slice a2 m2 c2))) := below_touch ((unhide BL).trans ((unhide B2).mono (unhide BL).size)) ts (Nat.le_trans (unhide BL).size (unhide B2).size) (fun j hj => by omega)
        have NS : Hid (W.heap.size ≤ (w2.setCell ⟨gv, k, none⟩ (.slice a2 m2 c2)).heap.size) := by have := (unhide B2).size; show _ ≤ _; simp; omega
        clear ts y8 yk zk x8 hcell hfz R2 N2 B2 CI BXH BZH BL KC
        go_wp2
        go_roundw
        case rel => exact ⟨k + 1, _, by omega, by go_num, unhide NX, unhide NB, unhide NZ, unhide ND, unhide NS⟩
        case measure => simp [intOf]; omega
    · have hkc' : ¬ (k : Int) < (ls.length : Int) := by omega
      obtain rfl : k = ls.length := by omega
      have z2 : ∀ i, wr.frozen? ⟨w.heap.size + 1, i, none⟩ = false := frozen_of bz
      obtain ⟨y0, y1, y2, y3, y4, y5, y6, y7, y8⟩ := bz.cells
      simp only [zeroB] at y0 y1 y2 y3 y4 y5 y6 y7 y8
      obtain ⟨k0, k1, k2, k3, k4, k5, k6, k7, k8⟩ := bx.cells
      simp only at k0 k1 k2 k3 k4 k5 k6 k7 k8
      have T9 := hide (set9 bz rfl (.int .i64 base) (.int .i64 epoch) (.int .u64 (pid : Int)) (.int .i64 pep) (.int .i64 seq) (.bool txn) (.bool ctl) (.bool com) (.slice a1 ls.length c1))
      clear bx bz ci bl
      go_wp2
      clear y0 y1 y2 y3 y4 y5 y6 y7 y8 z2 k0 k1 k2 k3 k4 k5 k6 k7 k8
      generalize (((((((((wr.setCell ⟨w.heap.size + 1, 0, none⟩ (.int .i64 base)).setCell ⟨w.heap.size + 1, 1, none⟩ (.int .i64 epoch)).setCell ⟨w.heap.size + 1, 2, none⟩ (.int .u64 (pid : Int))).setCell ⟨w.heap.size + 1, 3, none⟩ (.int .i64 pep)).setCell ⟨w.heap.size + 1, 4, none⟩ (.int .i64 seq)).setCell ⟨w.heap.size + 1, 5, none⟩ (.bool txn)).setCell ⟨w.heap.size + 1, 6, none⟩ (.bool ctl)).setCell ⟨w.heap.size + 1, 7, none⟩ (.bool com)).setCell ⟨w.heap.size + 1, 8, none⟩ (.slice a1 ls.length c1)) = U at *
      have bu : Box U (w.heap.size + 1) ⟨base, epoch, pid, pep, seq, txn, ctl, com, ls⟩ a1 c1 := (unhide T9).1
      obtain ⟨y0, y1, y2, y3, y4, y5, y6, y7, y8⟩ := bu.cells
      simp only at y0 y1 y2 y3 y4 y5 y6 y7 y8
      refine bodyPost_ret (by simp [results, Tryz.results48, go_sem, y0, y1, y2, y3, y4, y5, y6, y7, y8]; try rfl) rfl ?_
      refine ⟨a1, c1, rfl, ?_⟩
      have c2 := (unhide CI).keep (unhide T9).2 (by omega) (unhide N1)
      refine ⟨⟨us', c2.own, c2.len, fun i hi => ?_⟩, (unhide N1).mono (by omega), ?_⟩
      · obtain ⟨u, e1, e2, e3⟩ := c2.done i hi
        exact ⟨u, e1, e2, e3.mono (by omega)⟩
      · exact below_touch (unhide BL) (unhide T9).2 (unhide BL).size (fun k hk => by omega)
end Go.Proofs.YtkcoeofbobkaoabGreatDoor


namespace Go.Proofs.YtkcoeofbobkaoabGreatDoor
open Go.RowKit
set_option linter.unusedVariables false

theorem keep_cell {S : Nat → Prop} {W0 X w3 : World} {g j : Nat} {u : Value} (t : Touch S X w3) (hs : ¬ S g) (hb : Below W0.heap.size W0 X) (hg : g < W0.heap.size) (h : W0.cell? ⟨g, j, none⟩ = some u) : w3.cell? ⟨g, j, none⟩ = some u :=
  (World.cell?_of_block (a := ⟨g, j, none⟩) (t.block g (Nat.lt_of_lt_of_le hg hb.size) hs)).trans ((hb.cell (p := ⟨g, j, none⟩) hg).trans h)
theorem keep_heap {S : Nat → Prop} {W0 X w3 : World} {g : Nat} {o : Obj} (t : Touch S X w3) (hs : ¬ S g) (hb : Below W0.heap.size W0 X) (h : W0.heap[g]? = some o) : w3.heap[g]? = some o := by
  have hg : g < W0.heap.size := lt_of_heap h
  rw [t.block g (Nat.lt_of_lt_of_le hg hb.size) hs, hb.block g hg]; exact h
theorem laid_info : ∃ i z, Tryz.prog.info? 107 = some i ∧ i.zero = some z ∧ i.size = 10 ∧ i.bytes = 80 ∧ z.cells.size = 10 := by
  have h : (Tryz.prog.info? 107).map (fun i => (i.zero.map (fun z => z.cells.size), i.size, i.bytes)) = some (some 10, 10, 80) := by kernel_rfl
  cases hi : Tryz.prog.info? 107 with
  | none => rw [hi] at h; cases h
  | some i =>
    rw [hi] at h
    simp only [Option.map_some, Option.some.injEq, Prod.mk.injEq] at h
    obtain ⟨h1, h2, h3⟩ := h
    cases hz : i.zero with
    | none => rw [hz] at h1; cases h1
    | some z => rw [hz] at h1; exact ⟨i, z, rfl, hz, h2, h3, by simpa using h1⟩
theorem step_laid {ops : Array Oper} {o : Oper} {a : Act} {w : World} {K : Act → World → Prop} {Q : Exit → Act → World → Prop} {E : Prop}
    (hg : o.guard = none) (s x : Operand) (hop : o.op = Op.call { callee := Callee.builtin Builtin.append, args := #[s, x], argTypes := #[102, 102] })
    (v : Value) (n : Nat) (xs : List Value) (hs : a.eval s = v) (hr : Wide w 107 10 v n xs) (g : Nat) (cs : Array Value) (news : List Value) (hx : a.eval x = .slice (some ⟨g, 0, none⟩) 1 1) (hu : w.heap[g]? = some (.cells cs 107)) (hcs : cs.toList = news) (hl : news.length = 10) (h1 : ∀ u ∈ news, u.oneCell' = true) (hlen : n ≤ 1099511627776)
    (hK : ∀ v' w', Wide w' 107 10 v' (n + 1) (xs ++ news) → Touch (fun k => v.ownBlock = some k) w w' → Moved w v v' → K (a.put o.dst v') w') :
    if Region.wanted o (yielded ops a.tmps) = true then Oper.wp Tryz.prog o a w K Q else E := by
  have hw : Region.wanted o (yielded ops a.tmps) = true := by simp [Region.wanted, hg]
  rw [if_pos hw]
  obtain ⟨i, z, hi, hz, hsz, hby, hzs⟩ := laid_info
  obtain ⟨v', w', hrun, r1, r2, r3⟩ := run_wide (P := Tryz.prog) w 102 o.type 107 i z 10 80 Tryz.underlying102 hi hz hsz hby hzs (by omega) v n xs hr g 0 1 news hl (fun j u hj => by rw [cell_of hu, Nat.zero_add, ← Array.getElem?_toList, hcs]; exact hj) h1 (by unfold maxLen; omega) (by omega)
  unfold Oper.wp
  simp [execOp, hop, resolve, invoke, builtin, hs, hx, hrun, Result.andThen]
  exact hK v' w' r1 r2 r3

/-- What add leaves. -/
def AdPost (w : World) (g o : Nat) (cs : Array Value) (t : TypeId) (s : Sg) (x : Ld) (e : Ending) (w' : World) : Prop :=
  e = .returned (.tuple #[]) ∧ ∃ v', SgP w' g o ⟨s.base, v', s.ls ++ [x], s.last⟩ ∧ w'.heap[g]? = some (.cells (cs.setIfInBounds (o + 1) v') t) ∧ Touch (fun k => k = g ∨ s.v.ownBlock = some k) w w' ∧ Moved w s.v v'
section
variable {w : World} {g o : Nat} {s : Sg} {cs : Array Value} {t : TypeId}
set_option maxRecDepth 100000 in
set_option maxHeartbeats 4000000 in
theorem sadd_any (h : SgP w g o s) (hH : w.heap[g]? = some (.cells cs t)) (hne : s.v.ownBlock ≠ some g) (b : Bt) (a : Option Addr) (cap sz up : Nat) (hlow : Low ⟨b, up, a, cap⟩) (hup : up = sizeS s.ls + sz) (hn : s.ls.length ≤ 1099511627776) (hsl : sizeS s.ls ≤ 1099511627776) :
    Calls Tryz.prog 55 #[.pointer (some ⟨g, o, none⟩), bv b a cap, .int .i64 (sz : Nat)] w fun e w' => AdPost w g o cs t s ⟨b, up, a, cap⟩ e w' := by
  have hup2 := hlow.up
  simp only at hup2
  have hgw : g < w.heap.size := lt_of_heap hH
  have hcs : o + 2 < cs.size := by have := h.c2; rw [cell_of hH] at this; exact (Array.getElem?_eq_some_iff.1 this).1
  have LOW := hide hlow
  have SG := hide h
  have HH := hide hH
  obtain ⟨base, epoch, pid, pep, seq, txn, ctl, com, vs⟩ := b
  have TA : Hid (Below w.heap.size w (w.alloc (.cells #[.int .i64 base, .int .i64 epoch, .int .u64 (pid : Int), .int .i64 pep, .int .i64 seq, .bool txn, .bool ctl, .bool com, .slice a vs.length cap] 29))) := (Below.refl _ _).alloc (Nat.le_refl _) _
  have BX := Box.new w ⟨base, epoch, pid, pep, seq, txn, ctl, com, vs⟩ a cap
  obtain ⟨k0, k1, k2, k3, k4, k5, k6, k7, k8⟩ := BX.cells
  simp only at k0 k1 k2 k3 k4 k5 k6 k7 k8
  have c1 : (w.alloc (.cells #[.int .i64 base, .int .i64 epoch, .int .u64 (pid : Int), .int .i64 pep, .int .i64 seq, .bool txn, .bool ctl, .bool com, .slice a vs.length cap] 29)).cell? ⟨g, o + 1, none⟩ = some s.v := ((unhide TA).cell (p := ⟨g, o + 1, none⟩) hgw).trans h.c1
  obtain ⟨av, capv, hv⟩ := h.row.shape
  clear h hH hlow BX
  go_enter Tryz.func55, Tryz.ntmps55
  go_wp2_with fail
  generalize hW : w.alloc (.cells #[.int .i64 base, .int .i64 epoch, .int .u64 (pid : Int), .int .i64 pep, .int .i64 seq, .bool txn, .bool ctl, .bool com, .slice a vs.length cap] 29) = W at *
  have hWs : W.heap.size = w.heap.size + 1 := by rw [← hW]; simp
  clear hW
  have hgW : g < W.heap.size := by omega
  have HWS := hide hWs
  clear hWs
  have SGW : Hid (SgP W g o s) := ⟨((unhide TA).cell (p := ⟨g, o, none⟩) hgw).trans (unhide SG).c0, c1, ((unhide TA).cell (p := ⟨g, o + 2, none⟩) hgw).trans (unhide SG).c2, (unhide SG).row.later (unhide TA), (unhide SG).low, (unhide SG).blo, (unhide SG).bhi⟩
  have KZ : Hid (∀ w', Below W.heap.size W w' → Calls Tryz.prog 63 #[.pointer (some ⟨g, o, none⟩)] w' fun e w'' => e = .returned (.int .i64 (sizeS s.ls : Nat)) ∧ ∃ n, w'' = w'.drewN n) := fun w' hb => by
    exact segSize_any ⟨(hb.cell (p := ⟨g, o, none⟩) hgW).trans (unhide SGW).c0, (hb.cell (p := ⟨g, o + 1, none⟩) hgW).trans c1, (hb.cell (p := ⟨g, o + 2, none⟩) hgW).trans (unhide SGW).c2, (unhide SGW).row.later hb, (unhide SGW).low, (unhide SGW).blo, (unhide SGW).bhi⟩
  have ROW : Hid (Wide W 107 10 s.v s.ls.length (s.ls.flatMap ldC)) := (unhide SGW).row
  have HW : Hid (W.heap[g]? = some (.cells cs t)) := by rw [(unhide TA).block g hgw]; exact unhide HH
  have hwr : IntKind.i64.wrap ((sizeS s.ls : Int) + (sz : Int)) = (sizeS s.ls : Int) + (sz : Int) := wrap_low (by omega) (by omega)
  generalize sizeS s.ls = Z at *
  rw [hv] at c1 hne ROW
  have yA : ∀ (m : Nat) (X : Obj), ((W.drewN m).alloc X).cell? ⟨g, o + 1, none⟩ = some (.slice av s.ls.length capv) := fun m X => (((Below.refl (W.drewN m).heap.size (W.drewN m)).alloc (Nat.le_refl _) X).cell (p := ⟨g, o + 1, none⟩) hgW).trans c1
  go_region_law (first
    | (go_simp; go_at_call 63; refine (unhide KZ _ (by go_grown)).mono ?_; rintro e w2 ⟨rfl, nq, rfl⟩)
    | (refine step_laid rfl (.tmp 10) (.tmp 17) rfl (.slice av s.ls.length capv) s.ls.length (s.ls.flatMap ldC) (by rfl) ((unhide ROW).later (by first | (go_grown; done) | exact (below_drewN3 (Below.refl _ _) _).alloc (Nat.le_refl _) _ | exact below_drewN3 (Below.refl _ _) _)) _ _ _ (by rfl) (heap_new _ _) rfl rfl (by intro u hu; simp at hu; rcases hu with rfl | rfl | rfl | rfl | rfl | rfl | rfl | rfl | rfl | rfl <;> rfl) hn ?_; intro v3 w3 o3 t3 m3; have y3 : w3.cell? ⟨g, o + 1, none⟩ = some (.slice av s.ls.length capv) := keep_cell t3 hne (by first | (go_grown; done) | exact (below_drewN3 (Below.refl _ _) _).alloc (Nat.le_refl _) _ | exact below_drewN3 (Below.refl _ _) _) hgW c1; have H3 := hide (keep_heap t3 hne (by first | (go_grown; done) | exact (below_drewN3 (Below.refl _ _) _).alloc (Nat.le_refl _) _ | exact below_drewN3 (Below.refl _ _) _) (unhide HW)); have z3 : w3.frozen? ⟨g, o + 1, none⟩ = false := frozen_of (unhide H3) (o + 1); obtain ⟨a3, c3, rfl⟩ := o3.shape))
  all_goals
    have F : Hid (AdPost w g o cs t s ⟨⟨base, epoch, pid, pep, seq, txn, ctl, com, vs⟩, up, a, cap⟩ (.returned (.tuple #[])) (w3.setCell ⟨g, o + 1, none⟩ (.slice a3 (s.ls.length + 1) c3))) := by
      have ts := touch_set w3 g (o + 1) (.slice a3 (s.ls.length + 1) c3)
      have hm : ∀ k, (Value.slice a3 (s.ls.length + 1) c3).ownBlock = some k → k ≠ g := fun k hk e => by
        rcases m3 k hk with e' | e'
        · exact hne (by rw [← e]; exact e')
        · simp at e'; omega
      have hH' := heap_set (unhide H3) (o + 1) (.slice a3 (s.ls.length + 1) c3)
      have hcell : ∀ j, (w3.setCell ⟨g, o + 1, none⟩ (.slice a3 (s.ls.length + 1) c3)).cell? ⟨g, j, none⟩ = (cs.setIfInBounds (o + 1) (.slice a3 (s.ls.length + 1) c3))[j]? := fun j => cell_of hH' j
      have hold : ∀ j, w.cell? ⟨g, j, none⟩ = cs[j]? := fun j => cell_of (unhide HH) j
      have T0 : Touch (fun k => k = g ∨ s.v.ownBlock = some k) w (w3.setCell ⟨g, o + 1, none⟩ (.slice a3 (s.ls.length + 1) c3)) := by
        rw [hv]
        refine touch_new (touch_new ((Touch.of_below (S := fun _ => False) (unhide TA)).mono (fun _ h => h.elim)) (R := fun k => (Value.slice av s.ls.length capv).ownBlock = some k) (w2 := w3) ?_ (fun k hk => .inl (.inr hk))) ts (fun k hk => .inl (.inl hk))
        exact (Touch.of_below (S := fun k => (Value.slice av s.ls.length capv).ownBlock = some k) (by first | (go_grown; done) | exact (below_drewN3 (Below.refl _ _) _).alloc (Nat.le_refl _) _ | exact below_drewN3 (Below.refl _ _) _)).trans t3
      refine ⟨rfl, _, ⟨?_, ?_, ?_, ?_, fun x hx => ?_, (unhide SG).blo, (unhide SG).bhi⟩, hH', T0, fun k hk => ?_⟩
      · rw [hcell, set_ne _ (by omega), ← hold]; exact (unhide SG).c0
      · rw [hcell, set_eq _ (by omega)]
      · rw [hcell, set_ne _ (by omega), ← hold]; exact (unhide SG).c2
      · have := o3.keep ts hm
        simp only [List.length_append, List.length_singleton, List.flatMap_append, List.flatMap_cons, List.flatMap_nil, List.append_nil]
        rw [hup]
        exact this
      · rcases List.mem_append.1 hx with h | h
        · exact (unhide SG).low x h
        · rw [List.mem_singleton] at h; subst h; exact unhide LOW
      · rw [hv]
        rcases m3 k hk with e' | e'
        · exact .inl e'
        · have := unhide HWS; simp at e'; exact .inr (by omega)
    clear o3 t3 m3 y3 z3 H3
    go_wp2
    go_returns
    exact unhide F
end
end Go.Proofs.YtkcoeofbobkaoabGreatDoor
