/-
  EpochsRise, walked. Conditions: the script is one; it has at most 2^47 bytes.
-/
import Derived.Test.YtfpcocagifmpbaaRg
import Derived.Test.YtfpcocagifmpbaaRs
namespace Go.Proofs.Ytfpcocagifmpbaa
open Go.RowKit Go.Shelf
set_option linter.unusedVariables false
attribute [local go_sem] Oper.semAt_some

/-- A loop's mark. -/
abbrev mark (D : Nat) : Deferred := { target := .collected D, args := #[] }
/-- Leaving with marks alone. -/
theorem leaves_marks {F : Fence} {n : Nat} {P : Program} {fn : Func} {tmps : Array Value} {R : Ending → World → Prop} {w : World} {X : World → Prop} (hX : ∀ W D, X W → W.heap[D]? = some (.deferred (some [])) → w.heap.size ≤ D → X (W.putObj D (.deferred none))) (hend : ∀ W, X W → LeavesInM F n P fn tmps R [] .returning W) :
    ∀ (Ds : List Nat) (W : World), X W → (∀ D ∈ Ds, W.heap[D]? = some (.deferred (some [])) ∧ w.heap.size ≤ D) → Ds.Nodup → LeavesInM F n P fn tmps R (Ds.map mark) .returning W := by
  intro Ds
  induction Ds with
  | nil => intro W hW _ _; exact hend W hW
  | cons D Ds ih =>
    intro W hW hD hN
    obtain ⟨h1, h2⟩ := hD D (List.mem_cons_self ..)
    have hN' := List.nodup_cons.1 hN
    refine ⟨by simp, .inl ⟨D, _, rfl, run_takeDeferred h1, ih _ (hX W D hW h1 h2) (fun D' hD' => ?_) hN'.2⟩⟩
    obtain ⟨g1, g2⟩ := hD D' (List.mem_cons_of_mem _ hD')
    exact ⟨(World.putObj_heap_other (fun e => hN'.1 (by rw [← e]; exact hD'))).trans g1, g2⟩
/-- The last epoch that has come, and where it begins; -1 ahead of all. -/
def wasE (l : List Pr) : Int := match l.getLast? with | none => -1 | some p => p.1
def fromE (l : List Pr) : Int := match l.getLast? with | none => -1 | some p => p.2
theorem wasE_snoc (l : List Pr) (x : Pr) : wasE (l ++ [x]) = x.1 := by simp [wasE]
theorem fromE_snoc (l : List Pr) (x : Pr) : fromE (l ++ [x]) = x.2 := by simp [fromE]
def Good (l : List Pr) : Prop := Ris l ∧ ∀ q ∈ l, 0 ≤ q.1 ∧ 0 ≤ q.2
theorem Good.asg {l : List Pr} (h : Good l) (ep a : Int) : Good (asgE ep a l).2 := by
  refine ⟨h.1.asg ep a, fun q hq => ?_⟩
  rcases asg_cases ep a l h.1 with e | ⟨e, h0, h1, _⟩
  · rw [e] at hq; exact h.2 q hq
  · rw [e] at hq
    rcases List.mem_append.1 hq with h' | h'
    · exact h.2 q (List.mem_filter.1 h').1
    · rw [List.mem_singleton] at h'; subst h'; exact ⟨h0, h1⟩
theorem Good.cut {l : List Pr} (h : Good l) (a : Int) : Good (cutE a l) := ⟨h.1.cut a, fun q hq => h.2 q (List.mem_filter.1 hq).1⟩
/-- What comes next rises. -/
theorem Good.next {l pre : List Pr} {x : Pr} (h : Good l) (hp : pre ++ [x] <+: l) : wasE pre < x.1 ∧ fromE pre < x.2 := by
  obtain ⟨hk, e⟩ := pre_snoc hp
  obtain ⟨s, hs⟩ := hp
  cases hg : pre.getLast? with
  | none =>
    have := h.2 x (by rw [← hs]; simp)
    unfold wasE fromE; rw [hg]; simp; omega
  | some p =>
    have hpm : p ∈ pre := List.mem_of_getLast? hg
    have hpw : (pre ++ [x] ++ s).Pairwise (fun a b => a.1 < b.1 ∧ a.2 < b.2) := by rw [hs]; exact h.1
    have := (List.pairwise_append.1 (List.pairwise_append.1 hpw).1).2.2 p hpm x (by simp)
    unfold wasE fromE; rw [hg]; exact this
theorem lastE_was {l : List Pr} (h : 0 < l.length) : lastE l = (wasE l, fromE l, true) := by
  cases hg : l.getLast? with
  | none => rw [List.getLast?_eq_none_iff] at hg; subst hg; simp at h
  | some p => unfold lastE wasE fromE; rw [hg]
theorem CaAt.others {B : Nat} {W W' : World} {cb : Nat} {v : Value} {l : List Pr} (h : CaAt B W cb v l) (t : Touch (CaOw cb v) W W') : KeepsOthers W W' := keeps_touch t (fun k hk => by
  rcases hk with e | e
  · subst e; exact ⟨_, _, h.box⟩
  · obtain ⟨cs, g⟩ := h.row.heap e; exact ⟨_, _, g⟩)
theorem asgK {w W : World} {cb : Nat} {l : List Pr} {E : Bs} (h : Uno w W cb l E) (hr : Ris l) (hn : l.length ≤ 8000000000000) (ep a : Int) :
    Calls Try.prog 11 #[.pointer (some ⟨cb, 0, none⟩), .int .i64 ep, .int .i64 a] W fun e W' => UnPost w cb (asgE ep a l).2 E (.int .i64 (asgE ep a l).1) e W' ∧ KeepsOthers W W' := by
  obtain ⟨v, hc⟩ := h.ca
  refine (assign_any hc hr hn h.bl.size ep a).mono ?_
  rintro e W' ⟨rfl, v', c', t', _⟩
  exact ⟨⟨rfl, h.changed hc c' t'⟩, hc.others t'⟩
theorem cutK {w W : World} {cb : Nat} {l : List Pr} {E : Bs} (h : Uno w W cb l E) (hr : Ris l) (a : Int) :
    Calls Try.prog 13 #[.pointer (some ⟨cb, 0, none⟩), .int .i64 a] W fun e W' => UnPost w cb (cutE a l) E (.tuple #[]) e W' ∧ KeepsOthers W W' := by
  obtain ⟨v, hc⟩ := h.ca
  refine (cut_any hc hr a).mono ?_
  rintro e W' ⟨rfl, v', c', t', _⟩
  exact ⟨⟨rfl, h.changed hc c' t'⟩, hc.others t'⟩
theorem lastK {w W : World} {cb : Nat} {l : List Pr} {E : Bs} (h : Uno w W cb l E) :
    Calls Try.prog 19 #[.pointer (some ⟨cb, 0, none⟩)] W fun e W' => AnsPost W (tup (lastE l)) e W' := by
  obtain ⟨v, hc⟩ := h.ca
  exact last_any hc
theorem slots_of (T : Array Value) (ds : List Deferred) {a : Option Addr} {os : List Op10} {cap qb cb k : Nat} (h : T = #[.slice a os.length cap, undef, .pointer (some ⟨qb, 0, none⟩), .pointer (some ⟨cb, 0, none⟩), undef, T.getD 5 undef, T.getD 6 undef, T.getD 7 undef, T.getD 8 undef, undef, undef, T.getD 11 undef, T.getD 12 undef, T.getD 13 undef, .pointer (some ⟨cb, 0, none⟩), .bool true, .bool false, .bool false, .pointer (some ⟨cb, 0, none⟩), .bool false, .bool false, .slice a os.length cap, .int .i64 (os.length : Int), .int .i64 (k : Int), T.getD 24 undef, T.getD 25 undef, T.getD 26 undef, T.getD 27 undef, T.getD 28 undef, T.getD 29 undef, T.getD 30 undef, T.getD 31 undef, T.getD 32 undef, T.getD 33 undef, T.getD 34 undef, T.getD 35 undef, T.getD 36 undef, T.getD 37 undef, T.getD 38 undef, T.getD 39 undef, T.getD 40 undef, T.getD 41 undef, undef, undef, undef, undef, undef, undef, undef, undef, undef, undef, undef, undef, undef, undef, T.getD 56 undef, T.getD 57 undef, T.getD 58 undef, T.getD 59 undef, T.getD 60 undef, T.getD 61 undef, T.getD 62 undef, T.getD 63 undef, T.getD 64 undef, T.getD 65 undef, T.getD 66 undef, T.getD 67 undef, T.getD 68 undef, T.getD 69 undef, T.getD 70 undef, T.getD 71 undef, T.getD 72 undef, T.getD 73 undef, T.getD 74 undef, T.getD 75 undef, T.getD 76 undef, T.getD 77 undef, T.getD 78 undef, T.getD 79 undef]) : ∃ u : Nat → Value, ({ tmps := T, defers := ds } : Act) = { tmps := #[.slice a os.length cap, undef, .pointer (some ⟨qb, 0, none⟩), .pointer (some ⟨cb, 0, none⟩), undef, u 5, u 6, u 7, u 8, undef, undef, u 11, u 12, u 13, .pointer (some ⟨cb, 0, none⟩), .bool true, .bool false, .bool false, .pointer (some ⟨cb, 0, none⟩), .bool false, .bool false, .slice a os.length cap, .int .i64 (os.length : Int), .int .i64 (k : Int), u 24, u 25, u 26, u 27, u 28, u 29, u 30, u 31, u 32, u 33, u 34, u 35, u 36, u 37, u 38, u 39, u 40, u 41, undef, undef, undef, undef, undef, undef, undef, undef, undef, undef, undef, undef, undef, undef, u 56, u 57, u 58, u 59, u 60, u 61, u 62, u 63, u 64, u 65, u 66, u 67, u 68, u 69, u 70, u 71, u 72, u 73, u 74, u 75, u 76, u 77, u 78, u 79], defers := ds } := ⟨fun i => T.getD i undef, by rw [← h]⟩
set_option maxRecDepth 100000 in
set_option maxHeartbeats 4000000 in
theorem epochsRise_walk (a : Option Addr) (cap : Nat) (os : List Op10) (w : World) (hos : OpsAt w a os) (hn : os.length ≤ 5864062014634) :
    Calls Try.prog 4 #[.slice a os.length cap] w fun e w' => e = .returned (.bool true) ∧ Below w.heap.size w w' := by
  have HOS := hide hos
  clear hos
  refine (callsIn_wide (n := 3)).1 ?_
  refine callsIn_of_wp_marks Try.func4 rfl trivial ?_ rfl
  simp only [Try.ntmps4, List.size_toArray, List.length_cons, List.length_nil, Nat.reduceAdd, Nat.reduceSub, Array.replicate_succ, Array.replicate_zero, List.push_toArray, List.append_toArray, List.nil_append, List.cons_append]
  gi_wp2_with fail
  refine ⟨trivial, (callsIn_wide.2 (new10_any _)).mono ?_⟩
  rintro e w0 ⟨rfl, rfl⟩
  have U0 : Hid (Uno w ((w.alloc (Obj.cells #[Value.bool false] 4)).alloc (Obj.cells #[Value.slice none 0 0] 50)) (w.heap.size + 1) [] [(w.heap.size, #[Value.bool false], 4)]) := by
    have h1 : Held10 (w.alloc (Obj.cells #[Value.bool false] 4)) [(w.heap.size, #[Value.bool false], 4)] := fun x hx => by
      simp only [List.mem_cons, List.not_mem_nil, or_false] at hx
      subst hx
      exact ⟨heap_new _ _, by dsimp only; decide, by dsimp only; decide, by dsimp only; decide⟩
    have u1 := Uno.start w _ _ h1 ((Below.refl _ _).alloc (Nat.le_refl _) _)
    simp only [World.size_alloc] at u1
    exact u1
  gi_wp2_with fail
  generalize (w.alloc (Obj.cells #[Value.bool false] 4)).alloc (Obj.cells #[Value.slice none 0 0] 50) = W0 at *
  obtain ⟨cb, hcb⟩ : ∃ cb, cb = w.heap.size + 1 := ⟨_, rfl⟩
  rw [← hcb] at U0 ⊢
  obtain ⟨qb, hqb⟩ : ∃ qb, qb = w.heap.size := ⟨_, rfl⟩
  rw [← hqb] at U0 ⊢
  have hq0 : w.heap.size ≤ qb := by omega
  obtain ⟨E0, hE0⟩ : ∃ E0 : Bs, E0 = [(qb, #[Value.bool false], 4)] := ⟨_, rfl⟩
  rw [← hE0] at U0
  have MQ : Hid ((qb, #[Value.bool false], 4) ∈ E0) := by rw [hE0]; exact List.mem_cons_self ..
  have TYE : Hid (∀ x ∈ E0, x.2.2 ≠ 3) := fun x hx => by
    rw [hE0] at hx
    simp only [List.mem_cons, List.not_mem_nil, or_false] at hx
    subst hx
    dsimp only; decide
  clear hcb hqb hE0
  refine ⟨trivial, (callsIn_wide.2 (awake10_any W0)).mono ?_⟩
  rintro e w1 ⟨rfl, b1⟩
  have U1 := hide ((unhide U0).later b1)
  clear b1 U0
  gi_wp2_with fail
  refine wpIn_loop (fun a' wr => ∃ (k : Nat) (l : List Pr) (Ds : List Nat), k ≤ os.length ∧ l.length ≤ k ∧ Good l ∧ Uno w wr cb l E0 ∧ (∀ D ∈ Ds, wr.heap[D]? = some (.deferred (some [])) ∧ w.heap.size ≤ D) ∧ Ds.Nodup ∧ ∃ u : Nat → Value, a' = { tmps := #[.slice a os.length cap, undef, .pointer (some ⟨qb, 0, none⟩), .pointer (some ⟨cb, 0, none⟩), undef, u 5, u 6, u 7, u 8, undef, undef, u 11, u 12, u 13, .pointer (some ⟨cb, 0, none⟩), .bool true, .bool false, .bool false, .pointer (some ⟨cb, 0, none⟩), .bool false, .bool false, .slice a os.length cap, .int .i64 (os.length : Int), .int .i64 (k : Int), u 24, u 25, u 26, u 27, u 28, u 29, u 30, u 31, u 32, u 33, u 34, u 35, u 36, u 37, u 38, u 39, u 40, u 41, undef, undef, undef, undef, undef, undef, undef, undef, undef, undef, undef, undef, undef, undef, u 56, u 57, u 58, u 59, u 60, u 61, u 62, u 63, u 64, u 65, u 66, u 67, u 68, u 69, u 70, u 71, u 72, u 73, u 74, u 75, u 76, u 77, u 78, u 79], defers := Ds.map mark }) (fun a' _ => os.length - (intOf (a'.tmps.getD 23 undef)).toNat) ?_ ?_
  · exact ⟨0, [], [], Nat.zero_le _, Nat.le_refl _, ⟨List.Pairwise.nil, (fun q hq => by cases hq)⟩, unhide U1, (fun D hD => by cases hD), List.nodup_nil, fun _ => undef, rfl⟩
  rintro a' wr ⟨k, l, Ds, hk, hlk, hG, hU, hDs, hNd, u, rfl⟩
  have hl8 : l.length ≤ 8000000000000 := by omega
  by_cases hkl : k < os.length
  · have hkl' : (k : Int) < (os.length : Int) := by omega
    have hz : (0 : Int) ≤ (k : Int) := by omega
    have hw1 : IntKind.i64.wrap ((k : Int) + 1) = (k : Int) + 1 := wrap_low (by omega) (by omega)
    obtain ⟨⟨b, off, rfl, hb, hcell⟩, hIn⟩ := unhide HOS k hkl
    have y0 := (hU.bl.cell (p := ⟨b, off + k * 3 + 0, none⟩) hb).trans (hcell 0 (by omega))
    have y1 := (hU.bl.cell (p := ⟨b, off + k * 3 + 1, none⟩) hb).trans (hcell 1 (by omega))
    have y2 := (hU.bl.cell (p := ⟨b, off + k * 3 + 2, none⟩) hb).trans (hcell 2 (by omega))
    clear hcell U1 HOS hIn
    generalize os[k] = o at *
    obtain ⟨ok, oe, oa⟩ := o
    simp only [Op10.cells, List.getElem?_cons_zero, List.getElem?_cons_succ, Nat.add_zero] at y0 y1 y2
    have DA := hide (hU.add #[.int .i64 ok, .int .i64 oe, .int .i64 oa] 31 (by decide) (by decide) (by decide))
    have ob := (unhide DA).get (List.mem_cons_self ..)
    have x0 : (wr.alloc (.cells #[.int .i64 ok, .int .i64 oe, .int .i64 oa] 31)).cell? ⟨wr.heap.size, 0, none⟩ = some (.int .i64 ok) := by rw [cell_of ob]; rfl
    have x1 : (wr.alloc (.cells #[.int .i64 ok, .int .i64 oe, .int .i64 oa] 31)).cell? ⟨wr.heap.size, 1, none⟩ = some (.int .i64 oe) := by rw [cell_of ob]; rfl
    have x2 : (wr.alloc (.cells #[.int .i64 ok, .int .i64 oe, .int .i64 oa] 31)).cell? ⟨wr.heap.size, 2, none⟩ = some (.int .i64 oa) := by rw [cell_of ob]; rfl
    have HDs := hide hDs
    have MK1 : Hid (∀ D ∈ Ds, (wr.alloc (.cells #[.int .i64 ok, .int .i64 oe, .int .i64 oa] 31)).heap[D]? = some (.deferred (some []))) := fun D hD => heap_old _ (hDs D hD).1
    have HG := hide hG
    clear ob hU hDs hG
    by_cases hk0 : ok = 0
    · subst hk0
      have AC := hide (asgK (unhide DA) (unhide HG).1 hl8 oe oa)
      have GG2 : Hid (Good (asgE oe oa l).2) := (unhide HG).asg oe oa
      have hl2 : (asgE oe oa l).2.length ≤ k + 1 := Nat.le_trans (len_asg (unhide HG).1 oe oa) (by omega)
      clear HG DA
      generalize asgE oe oa l = R at *
      obtain ⟨r1, l2⟩ := R
      simp only at GG2 hl2 AC
      gi_wp2_with fail
      generalize wr.alloc (.cells #[.int .i64 0, .int .i64 oe, .int .i64 oa] 31) = W1 at *
      refine ⟨trivial, (callsIn_wide.2 (unhide AC)).mono ?_⟩
      rintro e w2 ⟨⟨rfl, d2'⟩, ko⟩
      have d2 := d2'.drop
      have mk2 : ∀ D ∈ Ds, w2.heap[D]? = some (.deferred (some [])) := fun D hD => ko.same D _ (unhide MK1 D hD) rfl
      clear AC x0 x1 x2 y0 y1 y2 d2' ko MK1
      have hl8' : l2.length ≤ 8000000000000 := by omega
      have U3 := hide (((d2.add #[.int .i64 (-1)] 3 (by decide) (by decide) (by decide)).add #[.int .i64 (-1)] 3 (by decide) (by decide) (by decide)).add #[.int .i64 0] 3 (by decide) (by decide) (by decide))
      simp only [World.size_alloc] at U3
      have AL := hide ((unhide U3).all hl8')
      have MK : Hid (∀ D ∈ Ds, (((w2.alloc (.cells #[.int .i64 (-1)] 3)).alloc (.cells #[.int .i64 (-1)] 3)).alloc (.cells #[.int .i64 0] 3)).heap[D]? = some (.deferred (some []))) := fun D hD => heap_old _ (heap_old _ (heap_old _ (mk2 D hD)))
      have HZ : Hid ((((w2.alloc (.cells #[.int .i64 (-1)] 3)).alloc (.cells #[.int .i64 (-1)] 3)).alloc (.cells #[.int .i64 0] 3)).heap.size = w2.heap.size + 1 + 1 + 1) := by show _ = _; simp
      have hw2 := d2.bl.size
      clear d2 mk2
      gi_wp2_with fail
      generalize ((w2.alloc (.cells #[.int .i64 (-1)] 3)).alloc (.cells #[.int .i64 (-1)] 3)).alloc (.cells #[.int .i64 0] 3) = W3 at *
      refine ⟨trivial, (callsIn_wide.2 (unhide AL)).mono ?_⟩
      rintro e w8 ⟨⟨v8, rfl, x8, r8, b8⟩, d8⟩
      clear AL
      have N8 := hide (d8.get (List.mem_cons_self ..))
      have F8 := hide (d8.get (List.mem_cons_of_mem _ (List.mem_cons_self ..)))
      have S8 := hide (d8.get (List.mem_cons_of_mem _ (List.mem_cons_of_mem _ (List.mem_cons_self ..))))
      have U8 := hide d8.drop.drop.drop
      have MK8 : Hid (∀ D ∈ Ds, w8.heap[D]? = some (.deferred (some []))) := fun D hD => below_keep b8 (unhide MK D hD)
      have h89 := lt_of_heap x8
      clear d8 b8 U3 MK
      obtain ⟨lo, hlo⟩ : ∃ lo, lo = W3.heap.size := ⟨_, rfl⟩
      rw [← hlo] at x8 r8 h89 ⊢
      rw [unhide HZ] at hlo
      obtain ⟨nb, hnb⟩ : ∃ nb, nb = w2.heap.size + 1 + 1 := ⟨_, rfl⟩
      obtain ⟨fb, hfb⟩ : ∃ fb, fb = w2.heap.size + 1 := ⟨_, rfl⟩
      obtain ⟨wb, hwb⟩ : ∃ wb, wb = w2.heap.size := ⟨_, rfl⟩
      rw [← hnb] at N8
      rw [← hfb] at F8
      rw [← hwb] at S8
      have g1 : wb < fb := by omega
      have g2 : fb < nb := by omega
      have g3 : nb < lo := by omega
      have g4 : w.heap.size ≤ wb := by omega
      have HNB := hide hnb
      have HFB := hide hfb
      have HWB := hide hwb
      clear hlo hnb hfb hwb HZ
      gi_wp2_with fail
      rw [← unhide HNB, ← unhide HFB, ← unhide HWB]
      clear HNB HFB HWB
      refine wpIn_rangeFunc_ownG rfl (by omega) (gf := 22) (lb := #[.pointer (some ⟨lo, 0, none⟩)]) rfl trivial (enters_of Try.func22 (by kernel_rfl) rfl)
        (alls Fence.wide _ trivial rfl (by omega) lo v8 l2 w8 x8 r8 hl8') Keep.trans (Keep.put (Nat.le_refl _)) (Below.refl _ _) (fun _ => rfl)
        (fun pre W => (W.heap[wb]? = some (.cells #[.int .i64 (wasE pre)] 3) ∧ W.heap[fb]? = some (.cells #[.int .i64 (fromE pre)] 3) ∧ W.heap[nb]? = some (.cells #[.int .i64 (pre.length : Int)] 3)) ∧ Touch (fun k => k = wb ∨ k = fb ∨ k = nb) w8 W)
        (fun c pre W => (c = .ret ∧ ¬ pre <+: l2))
        (OwnFrom.and (Own.from (fun s A B row hs hg hr => ⟨heap_grown hs.1 hg hr, heap_grown hs.2.1 hg hr, heap_grown hs.2.2 hg hr⟩) _) (Touch.own (Nat.le_refl _)))
        (fun c s A B row hs hg hr => hs)
        ⟨⟨unhide S8, unhide F8, unhide N8⟩, Touch.refl _ _⟩
        ?a1 ?assign ?body ?done ?stop
      case assign =>
        intro l x W K hK
        gi_wp2
        exact hK
      case body =>
        rintro L pre x W ⟨⟨hS, hF, hN⟩, tW⟩ hlt
        obtain ⟨x1, x2⟩ := x
        have hsW := tW.size
        have cs : W.cell? ⟨wb, 0, none⟩ = some (.int .i64 (wasE pre)) := by rw [cell_of hS]; rfl
        have cf : W.cell? ⟨fb, 0, none⟩ = some (.int .i64 (fromE pre)) := by rw [cell_of hF]; rfl
        have cn : W.cell? ⟨nb, 0, none⟩ = some (.int .i64 (pre.length : Int)) := by rw [cell_of hN]; rfl
        have QW := tW.keep ((unhide U8).get (unhide MQ)) (fun e => by
          have hq := (unhide U8).get (unhide MQ)
          rcases e with e | e | e
          · rw [e] at hq; exact absurd (obj_ne hq (unhide S8)) (by decide)
          · rw [e] at hq; exact absurd (obj_ne hq (unhide F8)) (by decide)
          · rw [e] at hq; exact absurd (obj_ne hq (unhide N8)) (by decide))
        have q4 : W.cell? ⟨qb, 0, none⟩ = some (.bool false) := by rw [cell_of QW]; rfl
        have qf4 := frozen_of QW 0
        have NX := hide (fun h : ¬ (wasE pre < x1 ∧ fromE pre < x2) => (fun hp : (pre ++ [(x1, x2)]) <+: l2 => h ((unhide GG2).next hp)))
        by_cases hle : x1 ≤ wasE pre
        · have FX := hide (unhide NX (by omega))
          clear NX hS hF hN tW QW
          generalize wasE pre = A1 at *
          generalize fromE pre = A2 at *
          gi_wp2
          exact ⟨(KeepsOthers.setCell _ _ _).from _, rfl, unhide FX⟩
        · by_cases hlf : x2 ≤ fromE pre
          · have FX := hide (unhide NX (by omega))
            clear NX hS hF hN tW QW
            generalize wasE pre = A1 at *
            generalize fromE pre = A2 at *
            gi_wp2
            exact ⟨(KeepsOthers.setCell _ _ _).from _, rfl, unhide FX⟩
          · clear NX QW q4 qf4
            have hw1 : IntKind.i64.wrap ((pre.length : Int) + 1) = (pre.length : Int) + 1 := wrap_low (by omega) (by omega)
            have fs := frozen_of hS 0
            have t1 := touch_set W wb 0 (.int .i64 x1)
            have t2 := touch_set (W.setCell ⟨wb, 0, none⟩ (.int .i64 x1)) fb 0 (.int .i64 x2)
            have t3 := touch_set ((W.setCell ⟨wb, 0, none⟩ (.int .i64 x1)).setCell ⟨fb, 0, none⟩ (.int .i64 x2)) nb 0 (.int .i64 ((pre.length : Int) + 1))
            have hF1 := t1.keep hF (show ¬ fb = wb by omega)
            have hN1 := t1.keep hN (show ¬ nb = wb by omega)
            have hN2 := t2.keep hN1 (show ¬ nb = fb by omega)
            have ff := frozen_of hF1 0
            have fn' := frozen_of hN2 0
            have cf1 : (W.setCell ⟨wb, 0, none⟩ (.int .i64 x1)).cell? ⟨fb, 0, none⟩ = some (.int .i64 (fromE pre)) := by rw [cell_of hF1]; rfl
            have cn2 : ((W.setCell ⟨wb, 0, none⟩ (.int .i64 x1)).setCell ⟨fb, 0, none⟩ (.int .i64 x2)).cell? ⟨nb, 0, none⟩ = some (.int .i64 (pre.length : Int)) := by rw [cell_of hN2]; rfl
            have hS1 := t3.keep (t2.keep (heap_set hS 0 (.int .i64 x1)) (show ¬ wb = fb by omega)) (show ¬ wb = nb by omega)
            have hF2 := t3.keep (heap_set hF1 0 (.int .i64 x2)) (show ¬ fb = nb by omega)
            have hN3 := heap_set hN2 0 (.int .i64 ((pre.length : Int) + 1))
            have ts : Touch (fun k => k = wb ∨ k = fb ∨ k = nb) W (((W.setCell ⟨wb, 0, none⟩ (.int .i64 x1)).setCell ⟨fb, 0, none⟩ (.int .i64 x2)).setCell ⟨nb, 0, none⟩ (.int .i64 ((pre.length : Int) + 1))) := ((t1.mono (fun k hk => .inl hk)).trans (t2.mono (fun k hk => .inr (.inl hk)))).trans (t3.mono (fun k hk => .inr (.inr hk)))
            have FIN : Hid (KeepsFrom w8.heap.size W (((W.setCell ⟨wb, 0, none⟩ (.int .i64 x1)).setCell ⟨fb, 0, none⟩ (.int .i64 x2)).setCell ⟨nb, 0, none⟩ (.int .i64 ((pre.length : Int) + 1))) ∧ Keep lo w8.heap.size W (((W.setCell ⟨wb, 0, none⟩ (.int .i64 x1)).setCell ⟨fb, 0, none⟩ (.int .i64 x2)).setCell ⟨nb, 0, none⟩ (.int .i64 ((pre.length : Int) + 1))) ∧ ((((W.setCell ⟨wb, 0, none⟩ (.int .i64 x1)).setCell ⟨fb, 0, none⟩ (.int .i64 x2)).setCell ⟨nb, 0, none⟩ (.int .i64 ((pre.length : Int) + 1))).heap[wb]? = some (.cells #[.int .i64 (wasE (pre ++ [(x1, x2)]))] 3) ∧ (((W.setCell ⟨wb, 0, none⟩ (.int .i64 x1)).setCell ⟨fb, 0, none⟩ (.int .i64 x2)).setCell ⟨nb, 0, none⟩ (.int .i64 ((pre.length : Int) + 1))).heap[fb]? = some (.cells #[.int .i64 (fromE (pre ++ [(x1, x2)]))] 3) ∧ (((W.setCell ⟨wb, 0, none⟩ (.int .i64 x1)).setCell ⟨fb, 0, none⟩ (.int .i64 x2)).setCell ⟨nb, 0, none⟩ (.int .i64 ((pre.length : Int) + 1))).heap[nb]? = some (.cells #[.int .i64 ((pre ++ [(x1, x2)]).length : Int)] 3)) ∧ Touch (fun k => k = wb ∨ k = fb ∨ k = nb) w8 (((W.setCell ⟨wb, 0, none⟩ (.int .i64 x1)).setCell ⟨fb, 0, none⟩ (.int .i64 x2)).setCell ⟨nb, 0, none⟩ (.int .i64 ((pre.length : Int) + 1)))) := by
              refine ⟨((KeepsOthers.setCell _ _ _).trans ((KeepsOthers.setCell _ _ _).trans (KeepsOthers.setCell _ _ _))).from _, Keep.touch ts hsW (fun k hk => by omega), ⟨by rw [wasE_snoc]; exact hS1, by rw [fromE_snoc]; exact hF2, ?_⟩, tW.trans ts⟩
              rw [hN3]
              simp
            clear hS hF hN hF1 hN1 hN2 t1 t2 t3 hS1 hF2 hN3 ts tW
            generalize wasE pre = A1 at *
            generalize fromE pre = A2 at *
            gi_wp2
            exact unhide FIN
      case done =>
        rintro D ys W hD rfl ⟨⟨hS, hF, hN⟩, tW⟩ hK
        have hsW := tW.size
        have hNot : ∀ (k : Nat) (o : Obj), w8.heap[k]? = some o → (∀ cs, o ≠ .cells cs 3) → ¬ (k = wb ∨ k = fb ∨ k = nb) := fun k o hk ho e => by
          rcases e with e | e | e
          · rw [e, unhide S8] at hk; exact ho _ (Option.some.inj hk).symm
          · rw [e, unhide F8] at hk; exact ho _ (Option.some.inj hk).symm
          · rw [e, unhide N8] at hk; exact ho _ (Option.some.inj hk).symm
        have U9 : Hid (Uno w W cb ys E0) := by
          obtain ⟨v, hv⟩ := (unhide U8).ca
          refine ⟨⟨v, hv.keep tW (hNot _ _ hv.box (fun cs e => by cases e)) (fun k hk => ?_)⟩, (unhide U8).ex.keep tW (fun x hx => ?_), below_touch (unhide U8).bl tW (unhide U8).bl.size (fun k hk => by omega)⟩
          · obtain ⟨cs, hcs⟩ := hv.row.heap hk
            exact hNot _ _ hcs (fun cs e => by cases e)
          · have h1 := (unhide U8).ex x hx
            exact hNot _ _ h1.1 (fun cs e => unhide TYE x hx (by injection e))
        have MK9 : Hid (∀ D' ∈ D :: Ds, W.heap[D']? = some (.deferred (some [])) ∧ w.heap.size ≤ D') := fun D' hD' => by
          rcases List.mem_cons.1 hD' with e | e
          · subst e; exact ⟨hK, by have := (unhide U8).bl.size; omega⟩
          · have h1 := unhide MK8 D' e
            exact ⟨tW.keep h1 (hNot _ _ h1 (fun cs e => by cases e)), (unhide HDs D' e).2⟩
        have ND9 : Hid ((D :: Ds).Nodup) := List.nodup_cons.2 ⟨fun e => by have := lt_of_heap (unhide MK8 D e); omega, hNd⟩
        have LA := hide ((unhide U9).last)
        have S9 := hide hS
        have F9 := hide hF
        have N9 := hide hN
        clear hS hF hN tW hK U8 MK8 S8 F8 N8 r8 x8 hNot
        have W9lt : wb < W.heap.size := lt_of_heap (unhide S9)
        gi_wp2_with fail
        refine ⟨trivial, (callsIn_wide.2 (lastK (unhide U9))).mono ?_⟩
        rintro e W6 ⟨rfl, b6⟩
        have cs : W6.cell? ⟨wb, 0, none⟩ = some (.int .i64 (wasE ys)) := by rw [cell_of (below_keep b6 (unhide S9))]; rfl
        have cf : W6.cell? ⟨fb, 0, none⟩ = some (.int .i64 (fromE ys)) := by rw [cell_of (below_keep b6 (unhide F9))]; rfl
        have cn : W6.cell? ⟨nb, 0, none⟩ = some (.int .i64 (ys.length : Int)) := by rw [cell_of (below_keep b6 (unhide N9))]; rfl
        have FT : Hid (Uno w W6 cb ys E0 ∧ ∀ D' ∈ D :: Ds, W6.heap[D']? = some (.deferred (some [])) ∧ w.heap.size ≤ D') := ⟨(unhide U9).later b6, fun D' hD' => ⟨below_keep b6 (unhide MK9 D' hD').1, (unhide MK9 D' hD').2⟩⟩
        have FG : Hid (Good ys ∧ ys.length ≤ k + 1) := ⟨unhide GG2, hl2⟩
        have hwk : IntKind.i64.wrap ((k : Int) + 1) = (k : Int) + 1 := wrap_low (by omega) (by omega)
        by_cases h0 : 0 < ys.length
        · have h0' : (0 : Int) < (ys.length : Int) := by omega
          rw [lastE_was h0]
          clear b6 U9 MK9 S9 F9 N9 LA
          generalize wasE ys = A1 at *
          generalize fromE ys = A2 at *
          gi_wp2
          exact ⟨⟨k + 1, ys, D :: Ds, by omega, (unhide FG).2, (unhide FG).1, (unhide FT).1, (unhide FT).2, unhide ND9, slots_of _ _ rfl⟩, by simp [intOf]; omega⟩
        · have h0' : ¬ (0 : Int) < (ys.length : Int) := by omega
          have hy : ys = [] := List.eq_nil_of_length_eq_zero (by omega)
          have hL : lastE ys = (0, 0, false) := by rw [hy]; rfl
          rw [hL]
          clear b6 U9 MK9 S9 F9 N9 LA hy hL
          generalize wasE ys = A1 at *
          generalize fromE ys = A2 at *
          gi_wp2
          exact ⟨⟨k + 1, ys, D :: Ds, by omega, (unhide FG).2, (unhide FG).1, (unhide FT).1, (unhide FT).2, unhide ND9, slots_of _ _ rfl⟩, by simp [intOf]; omega⟩
      case stop =>
        rintro D c pre W _ hs ⟨_, h⟩ _
        exact absurd hs h
    · have AC := hide (cutK (unhide DA) (unhide HG).1 oa)
      have GG2 : Hid (Good (cutE oa l)) := (unhide HG).cut oa
      have hl2 : (cutE oa l).length ≤ k + 1 := Nat.le_trans (len_cut oa l) (by omega)
      clear HG DA
      generalize cutE oa l = l2 at *
      gi_wp2_with fail
      generalize wr.alloc (.cells #[.int .i64 ok, .int .i64 oe, .int .i64 oa] 31) = W1 at *
      refine ⟨trivial, (callsIn_wide.2 (unhide AC)).mono ?_⟩
      rintro e w2 ⟨⟨rfl, d2'⟩, ko⟩
      have d2 := d2'.drop
      have mk2 : ∀ D ∈ Ds, w2.heap[D]? = some (.deferred (some [])) := fun D hD => ko.same D _ (unhide MK1 D hD) rfl
      clear AC x0 x1 x2 y0 y1 y2 d2' ko MK1
      have hl8' : l2.length ≤ 8000000000000 := by omega
      have U3 := hide (((d2.add #[.int .i64 (-1)] 3 (by decide) (by decide) (by decide)).add #[.int .i64 (-1)] 3 (by decide) (by decide) (by decide)).add #[.int .i64 0] 3 (by decide) (by decide) (by decide))
      simp only [World.size_alloc] at U3
      have AL := hide ((unhide U3).all hl8')
      have MK : Hid (∀ D ∈ Ds, (((w2.alloc (.cells #[.int .i64 (-1)] 3)).alloc (.cells #[.int .i64 (-1)] 3)).alloc (.cells #[.int .i64 0] 3)).heap[D]? = some (.deferred (some []))) := fun D hD => heap_old _ (heap_old _ (heap_old _ (mk2 D hD)))
      have HZ : Hid ((((w2.alloc (.cells #[.int .i64 (-1)] 3)).alloc (.cells #[.int .i64 (-1)] 3)).alloc (.cells #[.int .i64 0] 3)).heap.size = w2.heap.size + 1 + 1 + 1) := by show _ = _; simp
      have hw2 := d2.bl.size
      clear d2 mk2
      gi_wp2_with fail
      generalize ((w2.alloc (.cells #[.int .i64 (-1)] 3)).alloc (.cells #[.int .i64 (-1)] 3)).alloc (.cells #[.int .i64 0] 3) = W3 at *
      refine ⟨trivial, (callsIn_wide.2 (unhide AL)).mono ?_⟩
      rintro e w8 ⟨⟨v8, rfl, x8, r8, b8⟩, d8⟩
      clear AL
      have N8 := hide (d8.get (List.mem_cons_self ..))
      have F8 := hide (d8.get (List.mem_cons_of_mem _ (List.mem_cons_self ..)))
      have S8 := hide (d8.get (List.mem_cons_of_mem _ (List.mem_cons_of_mem _ (List.mem_cons_self ..))))
      have U8 := hide d8.drop.drop.drop
      have MK8 : Hid (∀ D ∈ Ds, w8.heap[D]? = some (.deferred (some []))) := fun D hD => below_keep b8 (unhide MK D hD)
      have h89 := lt_of_heap x8
      clear d8 b8 U3 MK
      obtain ⟨lo, hlo⟩ : ∃ lo, lo = W3.heap.size := ⟨_, rfl⟩
      rw [← hlo] at x8 r8 h89 ⊢
      rw [unhide HZ] at hlo
      obtain ⟨nb, hnb⟩ : ∃ nb, nb = w2.heap.size + 1 + 1 := ⟨_, rfl⟩
      obtain ⟨fb, hfb⟩ : ∃ fb, fb = w2.heap.size + 1 := ⟨_, rfl⟩
      obtain ⟨wb, hwb⟩ : ∃ wb, wb = w2.heap.size := ⟨_, rfl⟩
      rw [← hnb] at N8
      rw [← hfb] at F8
      rw [← hwb] at S8
      have g1 : wb < fb := by omega
      have g2 : fb < nb := by omega
      have g3 : nb < lo := by omega
      have g4 : w.heap.size ≤ wb := by omega
      have HNB := hide hnb
      have HFB := hide hfb
      have HWB := hide hwb
      clear hlo hnb hfb hwb HZ
      gi_wp2_with fail
      rw [← unhide HNB, ← unhide HFB, ← unhide HWB]
      clear HNB HFB HWB
      refine wpIn_rangeFunc_ownG rfl (by omega) (gf := 22) (lb := #[.pointer (some ⟨lo, 0, none⟩)]) rfl trivial (enters_of Try.func22 (by kernel_rfl) rfl)
        (alls Fence.wide _ trivial rfl (by omega) lo v8 l2 w8 x8 r8 hl8') Keep.trans (Keep.put (Nat.le_refl _)) (Below.refl _ _) (fun _ => rfl)
        (fun pre W => (W.heap[wb]? = some (.cells #[.int .i64 (wasE pre)] 3) ∧ W.heap[fb]? = some (.cells #[.int .i64 (fromE pre)] 3) ∧ W.heap[nb]? = some (.cells #[.int .i64 (pre.length : Int)] 3)) ∧ Touch (fun k => k = wb ∨ k = fb ∨ k = nb) w8 W)
        (fun c pre W => (c = .ret ∧ ¬ pre <+: l2))
        (OwnFrom.and (Own.from (fun s A B row hs hg hr => ⟨heap_grown hs.1 hg hr, heap_grown hs.2.1 hg hr, heap_grown hs.2.2 hg hr⟩) _) (Touch.own (Nat.le_refl _)))
        (fun c s A B row hs hg hr => hs)
        ⟨⟨unhide S8, unhide F8, unhide N8⟩, Touch.refl _ _⟩
        ?a1B ?assignB ?bodyB ?doneB ?stopB
      case assignB =>
        intro l x W K hK
        gi_wp2
        exact hK
      case bodyB =>
        rintro L pre x W ⟨⟨hS, hF, hN⟩, tW⟩ hlt
        obtain ⟨x1, x2⟩ := x
        have hsW := tW.size
        have cs : W.cell? ⟨wb, 0, none⟩ = some (.int .i64 (wasE pre)) := by rw [cell_of hS]; rfl
        have cf : W.cell? ⟨fb, 0, none⟩ = some (.int .i64 (fromE pre)) := by rw [cell_of hF]; rfl
        have cn : W.cell? ⟨nb, 0, none⟩ = some (.int .i64 (pre.length : Int)) := by rw [cell_of hN]; rfl
        have QW := tW.keep ((unhide U8).get (unhide MQ)) (fun e => by
          have hq := (unhide U8).get (unhide MQ)
          rcases e with e | e | e
          · rw [e] at hq; exact absurd (obj_ne hq (unhide S8)) (by decide)
          · rw [e] at hq; exact absurd (obj_ne hq (unhide F8)) (by decide)
          · rw [e] at hq; exact absurd (obj_ne hq (unhide N8)) (by decide))
        have q4 : W.cell? ⟨qb, 0, none⟩ = some (.bool false) := by rw [cell_of QW]; rfl
        have qf4 := frozen_of QW 0
        have NX := hide (fun h : ¬ (wasE pre < x1 ∧ fromE pre < x2) => (fun hp : (pre ++ [(x1, x2)]) <+: l2 => h ((unhide GG2).next hp)))
        by_cases hle : x1 ≤ wasE pre
        · have FX := hide (unhide NX (by omega))
          clear NX hS hF hN tW QW
          generalize wasE pre = A1 at *
          generalize fromE pre = A2 at *
          gi_wp2
          exact ⟨(KeepsOthers.setCell _ _ _).from _, rfl, unhide FX⟩
        · by_cases hlf : x2 ≤ fromE pre
          · have FX := hide (unhide NX (by omega))
            clear NX hS hF hN tW QW
            generalize wasE pre = A1 at *
            generalize fromE pre = A2 at *
            gi_wp2
            exact ⟨(KeepsOthers.setCell _ _ _).from _, rfl, unhide FX⟩
          · clear NX QW q4 qf4
            have hw1 : IntKind.i64.wrap ((pre.length : Int) + 1) = (pre.length : Int) + 1 := wrap_low (by omega) (by omega)
            have fs := frozen_of hS 0
            have t1 := touch_set W wb 0 (.int .i64 x1)
            have t2 := touch_set (W.setCell ⟨wb, 0, none⟩ (.int .i64 x1)) fb 0 (.int .i64 x2)
            have t3 := touch_set ((W.setCell ⟨wb, 0, none⟩ (.int .i64 x1)).setCell ⟨fb, 0, none⟩ (.int .i64 x2)) nb 0 (.int .i64 ((pre.length : Int) + 1))
            have hF1 := t1.keep hF (show ¬ fb = wb by omega)
            have hN1 := t1.keep hN (show ¬ nb = wb by omega)
            have hN2 := t2.keep hN1 (show ¬ nb = fb by omega)
            have ff := frozen_of hF1 0
            have fn' := frozen_of hN2 0
            have cf1 : (W.setCell ⟨wb, 0, none⟩ (.int .i64 x1)).cell? ⟨fb, 0, none⟩ = some (.int .i64 (fromE pre)) := by rw [cell_of hF1]; rfl
            have cn2 : ((W.setCell ⟨wb, 0, none⟩ (.int .i64 x1)).setCell ⟨fb, 0, none⟩ (.int .i64 x2)).cell? ⟨nb, 0, none⟩ = some (.int .i64 (pre.length : Int)) := by rw [cell_of hN2]; rfl
            have hS1 := t3.keep (t2.keep (heap_set hS 0 (.int .i64 x1)) (show ¬ wb = fb by omega)) (show ¬ wb = nb by omega)
            have hF2 := t3.keep (heap_set hF1 0 (.int .i64 x2)) (show ¬ fb = nb by omega)
            have hN3 := heap_set hN2 0 (.int .i64 ((pre.length : Int) + 1))
            have ts : Touch (fun k => k = wb ∨ k = fb ∨ k = nb) W (((W.setCell ⟨wb, 0, none⟩ (.int .i64 x1)).setCell ⟨fb, 0, none⟩ (.int .i64 x2)).setCell ⟨nb, 0, none⟩ (.int .i64 ((pre.length : Int) + 1))) := ((t1.mono (fun k hk => .inl hk)).trans (t2.mono (fun k hk => .inr (.inl hk)))).trans (t3.mono (fun k hk => .inr (.inr hk)))
            have FIN : Hid (KeepsFrom w8.heap.size W (((W.setCell ⟨wb, 0, none⟩ (.int .i64 x1)).setCell ⟨fb, 0, none⟩ (.int .i64 x2)).setCell ⟨nb, 0, none⟩ (.int .i64 ((pre.length : Int) + 1))) ∧ Keep lo w8.heap.size W (((W.setCell ⟨wb, 0, none⟩ (.int .i64 x1)).setCell ⟨fb, 0, none⟩ (.int .i64 x2)).setCell ⟨nb, 0, none⟩ (.int .i64 ((pre.length : Int) + 1))) ∧ ((((W.setCell ⟨wb, 0, none⟩ (.int .i64 x1)).setCell ⟨fb, 0, none⟩ (.int .i64 x2)).setCell ⟨nb, 0, none⟩ (.int .i64 ((pre.length : Int) + 1))).heap[wb]? = some (.cells #[.int .i64 (wasE (pre ++ [(x1, x2)]))] 3) ∧ (((W.setCell ⟨wb, 0, none⟩ (.int .i64 x1)).setCell ⟨fb, 0, none⟩ (.int .i64 x2)).setCell ⟨nb, 0, none⟩ (.int .i64 ((pre.length : Int) + 1))).heap[fb]? = some (.cells #[.int .i64 (fromE (pre ++ [(x1, x2)]))] 3) ∧ (((W.setCell ⟨wb, 0, none⟩ (.int .i64 x1)).setCell ⟨fb, 0, none⟩ (.int .i64 x2)).setCell ⟨nb, 0, none⟩ (.int .i64 ((pre.length : Int) + 1))).heap[nb]? = some (.cells #[.int .i64 ((pre ++ [(x1, x2)]).length : Int)] 3)) ∧ Touch (fun k => k = wb ∨ k = fb ∨ k = nb) w8 (((W.setCell ⟨wb, 0, none⟩ (.int .i64 x1)).setCell ⟨fb, 0, none⟩ (.int .i64 x2)).setCell ⟨nb, 0, none⟩ (.int .i64 ((pre.length : Int) + 1)))) := by
              refine ⟨((KeepsOthers.setCell _ _ _).trans ((KeepsOthers.setCell _ _ _).trans (KeepsOthers.setCell _ _ _))).from _, Keep.touch ts hsW (fun k hk => by omega), ⟨by rw [wasE_snoc]; exact hS1, by rw [fromE_snoc]; exact hF2, ?_⟩, tW.trans ts⟩
              rw [hN3]
              simp
            clear hS hF hN hF1 hN1 hN2 t1 t2 t3 hS1 hF2 hN3 ts tW
            generalize wasE pre = A1 at *
            generalize fromE pre = A2 at *
            gi_wp2
            exact unhide FIN
      case doneB =>
        rintro D ys W hD rfl ⟨⟨hS, hF, hN⟩, tW⟩ hK
        have hsW := tW.size
        have hNot : ∀ (k : Nat) (o : Obj), w8.heap[k]? = some o → (∀ cs, o ≠ .cells cs 3) → ¬ (k = wb ∨ k = fb ∨ k = nb) := fun k o hk ho e => by
          rcases e with e | e | e
          · rw [e, unhide S8] at hk; exact ho _ (Option.some.inj hk).symm
          · rw [e, unhide F8] at hk; exact ho _ (Option.some.inj hk).symm
          · rw [e, unhide N8] at hk; exact ho _ (Option.some.inj hk).symm
        have U9 : Hid (Uno w W cb ys E0) := by
          obtain ⟨v, hv⟩ := (unhide U8).ca
          refine ⟨⟨v, hv.keep tW (hNot _ _ hv.box (fun cs e => by cases e)) (fun k hk => ?_)⟩, (unhide U8).ex.keep tW (fun x hx => ?_), below_touch (unhide U8).bl tW (unhide U8).bl.size (fun k hk => by omega)⟩
          · obtain ⟨cs, hcs⟩ := hv.row.heap hk
            exact hNot _ _ hcs (fun cs e => by cases e)
          · have h1 := (unhide U8).ex x hx
            exact hNot _ _ h1.1 (fun cs e => unhide TYE x hx (by injection e))
        have MK9 : Hid (∀ D' ∈ D :: Ds, W.heap[D']? = some (.deferred (some [])) ∧ w.heap.size ≤ D') := fun D' hD' => by
          rcases List.mem_cons.1 hD' with e | e
          · subst e; exact ⟨hK, by have := (unhide U8).bl.size; omega⟩
          · have h1 := unhide MK8 D' e
            exact ⟨tW.keep h1 (hNot _ _ h1 (fun cs e => by cases e)), (unhide HDs D' e).2⟩
        have ND9 : Hid ((D :: Ds).Nodup) := List.nodup_cons.2 ⟨fun e => by have := lt_of_heap (unhide MK8 D e); omega, hNd⟩
        have LA := hide ((unhide U9).last)
        have S9 := hide hS
        have F9 := hide hF
        have N9 := hide hN
        clear hS hF hN tW hK U8 MK8 S8 F8 N8 r8 x8 hNot
        have W9lt : wb < W.heap.size := lt_of_heap (unhide S9)
        gi_wp2_with fail
        refine ⟨trivial, (callsIn_wide.2 (lastK (unhide U9))).mono ?_⟩
        rintro e W6 ⟨rfl, b6⟩
        have cs : W6.cell? ⟨wb, 0, none⟩ = some (.int .i64 (wasE ys)) := by rw [cell_of (below_keep b6 (unhide S9))]; rfl
        have cf : W6.cell? ⟨fb, 0, none⟩ = some (.int .i64 (fromE ys)) := by rw [cell_of (below_keep b6 (unhide F9))]; rfl
        have cn : W6.cell? ⟨nb, 0, none⟩ = some (.int .i64 (ys.length : Int)) := by rw [cell_of (below_keep b6 (unhide N9))]; rfl
        have FT : Hid (Uno w W6 cb ys E0 ∧ ∀ D' ∈ D :: Ds, W6.heap[D']? = some (.deferred (some [])) ∧ w.heap.size ≤ D') := ⟨(unhide U9).later b6, fun D' hD' => ⟨below_keep b6 (unhide MK9 D' hD').1, (unhide MK9 D' hD').2⟩⟩
        have FG : Hid (Good ys ∧ ys.length ≤ k + 1) := ⟨unhide GG2, hl2⟩
        have hwk : IntKind.i64.wrap ((k : Int) + 1) = (k : Int) + 1 := wrap_low (by omega) (by omega)
        by_cases h0 : 0 < ys.length
        · have h0' : (0 : Int) < (ys.length : Int) := by omega
          rw [lastE_was h0]
          clear b6 U9 MK9 S9 F9 N9 LA
          generalize wasE ys = A1 at *
          generalize fromE ys = A2 at *
          gi_wp2
          exact ⟨⟨k + 1, ys, D :: Ds, by omega, (unhide FG).2, (unhide FG).1, (unhide FT).1, (unhide FT).2, unhide ND9, slots_of _ _ rfl⟩, by simp [intOf]; omega⟩
        · have h0' : ¬ (0 : Int) < (ys.length : Int) := by omega
          have hy : ys = [] := List.eq_nil_of_length_eq_zero (by omega)
          have hL : lastE ys = (0, 0, false) := by rw [hy]; rfl
          rw [hL]
          clear b6 U9 MK9 S9 F9 N9 LA hy hL
          generalize wasE ys = A1 at *
          generalize fromE ys = A2 at *
          gi_wp2
          exact ⟨⟨k + 1, ys, D :: Ds, by omega, (unhide FG).2, (unhide FG).1, (unhide FT).1, (unhide FT).2, unhide ND9, slots_of _ _ rfl⟩, by simp [intOf]; omega⟩
      case stopB =>
        rintro D c pre W _ hs ⟨_, h⟩ _
        exact absurd hs h
  · have hkl' : ¬ (k : Int) < (os.length : Int) := by omega
    have HU := hide hU
    have HDs := hide hDs
    have q4 : wr.cell? ⟨qb, 0, none⟩ = some (.bool false) := by rw [cell_of (hU.get (unhide MQ))]; rfl
    have qf4 := frozen_of (hU.get (unhide MQ)) 0
    clear hU hDs HOS U1
    gi_wp2
    have hX : ∀ D ∈ Ds, (wr.setCell ⟨qb, 0, none⟩ (.bool true)).heap[D]? = some (.deferred (some [])) ∧ w.heap.size ≤ D := fun D hD => ⟨(KeepsOthers.setCell wr ⟨qb, 0, none⟩ (.bool true)).same D _ (unhide HDs D hD).1 rfl, (unhide HDs D hD).2⟩
    refine leaves_marks (w := w) (X := fun W => W.cell? ⟨qb, 0, none⟩ = some (.bool true) ∧ Below w.heap.size w W) (fun W D hW h1 h2 => ⟨cell_kept hW.1 (grownBy_putObj' _ D (.deferred none)) (fun r e => by cases e; exact ⟨_, h1, rfl⟩), hW.2.trans (belowK_b (w := w) (Nat.le_refl _) _ D _ _ h2 h1 rfl rfl)⟩) (fun W hW => ?_) Ds _ ⟨World.cell?_setCell_same' wr ⟨qb, 0, none⟩ (.bool true) (by rw [q4]; rfl), (unhide HU).bl.setCell (p := ⟨qb, 0, none⟩) hq0 _⟩ hX hNd
    have hcA := hW.1
    refine ⟨.bool true, ?_, rfl, hW.2⟩
    simp [results, Try.f4, go_sem, hcA]
end Go.Proofs.Ytfpcocagifmpbaa
