/-
  TxnApart at every two lists of records of bulk at most 1048576 together: true. Conditions: that bulk.
-/
import Derived.Test.YtijfjhafjblefaaAp15
import Derived.Test.YtijfjhafjblefaaTxnNamesWalk
import Derived.Deep.CutBlock
namespace Go.Proofs.Ytijfjhafjblefaa
open Go.RowKit Go.Maps
set_option linter.unusedVariables false

/-- What both know behind i rounds. -/
structure AK (la lb i : Nat) (K L : Int → Option Tx) : Prop where
  one : K 1 = L 1
  k : ∀ s, (K s).isSome = true ↔ (s = 1 ∧ 0 < i ∧ 0 < la) ∨ (s = 2 ∧ 0 < i ∧ 0 < lb)
  l : ∀ s, (L s).isSome = true ↔ (s = 1 ∧ 0 < i ∧ 0 < la)
  lk : ∀ s, (getT K s).ps.length ≤ i * 1048576
  ll : ∀ s, (getT L s).ps.length ≤ i * 1048576
/-- Amid a round: the first list's record is laid. -/
structure AM (la lb i : Nat) (K L : Int → Option Tx) : Prop where
  one : K 1 = L 1
  k : ∀ s, (K s).isSome = true ↔ (s = 1 ∧ 0 < la) ∨ (s = 2 ∧ 0 < i ∧ 0 < lb)
  l : ∀ s, (L s).isSome = true ↔ (s = 1 ∧ 0 < la)
  lk : ∀ s, (getT K s).ps.length ≤ (i + 1) * 1048576
  ll : ∀ s, (getT L s).ps.length ≤ (i + 1) * 1048576
  two : (getT K 2).ps.length ≤ i * 1048576
theorem AK.zero (la lb : Nat) : AK la lb 0 (fun _ => none) (fun _ => none) := ⟨rfl, fun s => by simp, fun s => by simp, fun s => by simp [getT, tx0], fun s => by simp [getT, tx0]⟩
theorem putT_same (K : Int → Option Tx) (n : Int) (x : Tx) : putT K n x n = some x := by unfold putT; rw [if_pos rfl]
theorem putT_other (K : Int → Option Tx) {n s : Int} (x : Tx) (h : s ≠ n) : putT K n x s = K s := by unfold putT; rw [if_neg h]
theorem putT_some (K : Int → Option Tx) (n : Int) (x : Tx) (s : Int) : (putT K n x s).isSome = true ↔ s = n ∨ (K s).isSome = true := by
  by_cases e : s = n
  · rw [e, putT_same]; simp
  · rw [putT_other K x e]; simp [e]
theorem putT_len {K : Int → Option Tx} {n : Int} {r : Re} {B : Nat} (h : ∀ s, (getT K s).ps.length ≤ B) (hr : r.ps.length ≤ 1048576) : ∀ s, (getT (putT K n (apT r (getT K n))) s).ps.length ≤ B + 1048576 := fun s => by
  by_cases e : s = n
  · have : getT (putT K n (apT r (getT K n))) s = apT r (getT K n) := by unfold getT; rw [e, putT_same]; rfl
    rw [this]
    exact Nat.le_trans (apT_len _ _) (Nat.add_le_add (h n) hr)
  · have : getT (putT K n (apT r (getT K n))) s = getT K s := by unfold getT; rw [putT_other K _ e]
    rw [this]
    exact Nat.le_trans (h s) (Nat.le_add_right _ _)
theorem mul_succ_ (i : Nat) : (i + 1) * 1048576 = i * 1048576 + 1048576 := by rw [Nat.add_mul, Nat.one_mul]
theorem AK.mid {la lb i : Nat} {K L : Int → Option Tx} (h : AK la lb i K L) (hi : i < la) (r : Re) (hr : r.ps.length ≤ 1048576) : AM la lb i (putT K 1 (apT r (getT K 1))) (putT L 1 (apT r (getT L 1))) := by
  have h0 : 0 < la := by omega
  have e : getT K 1 = getT L 1 := by unfold getT; rw [h.one]
  refine ⟨by rw [putT_same, putT_same, e], fun s => ?_, fun s => ?_, fun s => by rw [mul_succ_]; exact putT_len h.lk hr s, fun s => by rw [mul_succ_]; exact putT_len h.ll hr s, ?_⟩
  · rw [putT_some, h.k]
    constructor
    · rintro (e | ⟨e, _, _⟩ | ⟨e, e1, e2⟩)
      · exact .inl ⟨e, h0⟩
      · exact .inl ⟨e, h0⟩
      · exact .inr ⟨e, e1, e2⟩
    · rintro (⟨e, _⟩ | e)
      · exact .inl e
      · exact .inr (.inr e)
  · rw [putT_some, h.l]
    constructor
    · rintro (e | ⟨e, _, _⟩)
      · exact ⟨e, h0⟩
      · exact ⟨e, h0⟩
    · rintro ⟨e, _⟩; exact .inl e
  · have : getT (putT K 1 (apT r (getT K 1))) 2 = getT K 2 := by unfold getT; rw [putT_other K _ (by decide)]
    rw [this]; exact h.lk 2
theorem AK.past {la lb i : Nat} {K L : Int → Option Tx} (h : AK la lb i K L) (hi : ¬ i < la) : AM la lb i K L := by
  refine ⟨h.one, fun s => ?_, fun s => ?_, fun s => Nat.le_trans (h.lk s) (by rw [mul_succ_]; exact Nat.le_add_right _ _), fun s => Nat.le_trans (h.ll s) (by rw [mul_succ_]; exact Nat.le_add_right _ _), h.lk 2⟩
  · rw [h.k]
    constructor
    · rintro (⟨e, _, e2⟩ | e)
      · exact .inl ⟨e, e2⟩
      · exact .inr e
    · rintro (⟨e, e2⟩ | e)
      · exact .inl ⟨e, by omega, e2⟩
      · exact .inr e
  · rw [h.l]
    constructor
    · rintro ⟨e, _, e2⟩; exact ⟨e, e2⟩
    · rintro ⟨e, e2⟩; exact ⟨e, by omega, e2⟩
theorem AM.done {la lb i : Nat} {K L : Int → Option Tx} (h : AM la lb i K L) (hi : i < lb) (r : Re) (hr : r.ps.length ≤ 1048576) : AK la lb (i + 1) (putT K 2 (apT r (getT K 2))) L := by
  have h0 : 0 < lb := by omega
  have h1 : 0 < i + 1 := by omega
  refine ⟨by rw [putT_other K _ (by decide)]; exact h.one, fun s => ?_, fun s => ?_, fun s => ?_, h.ll⟩
  · rw [putT_some, h.k]
    constructor
    · rintro (e | ⟨e, e2⟩ | ⟨e, _, e2⟩)
      · exact .inr ⟨e, h1, h0⟩
      · exact .inl ⟨e, h1, e2⟩
      · exact .inr ⟨e, h1, e2⟩
    · rintro (⟨e, _, e2⟩ | ⟨e, _, _⟩)
      · exact .inr (.inl ⟨e, e2⟩)
      · exact .inl e
  · rw [h.l]
    constructor
    · rintro ⟨e, e2⟩; exact ⟨e, h1, e2⟩
    · rintro ⟨e, _, e2⟩; exact ⟨e, e2⟩
  · by_cases e : s = 2
    · have : getT (putT K 2 (apT r (getT K 2))) s = apT r (getT K 2) := by unfold getT; rw [e, putT_same]; rfl
      rw [this, mul_succ_]
      exact Nat.le_trans (apT_len _ _) (Nat.add_le_add h.two hr)
    · have : getT (putT K 2 (apT r (getT K 2))) s = getT K s := by unfold getT; rw [putT_other K _ e]
      rw [this]; exact h.lk s
theorem AM.over {la lb i : Nat} {K L : Int → Option Tx} (h : AM la lb i K L) (hi : ¬ i < lb) : AK la lb (i + 1) K L := by
  have h1 : 0 < i + 1 := by omega
  refine ⟨h.one, fun s => ?_, fun s => ?_, h.lk, h.ll⟩
  · rw [h.k]
    constructor
    · rintro (⟨e, e2⟩ | ⟨e, _, e2⟩)
      · exact .inl ⟨e, h1, e2⟩
      · exact .inr ⟨e, h1, e2⟩
    · rintro (⟨e, _, e2⟩ | ⟨e, _, e2⟩)
      · exact .inl ⟨e, e2⟩
      · exact .inr ⟨e, by omega, e2⟩
  · rw [h.l]
    constructor
    · rintro ⟨e, e2⟩; exact ⟨e, h1, e2⟩
    · rintro ⟨e, _, e2⟩; exact ⟨e, e2⟩
/-- How many names each knows. -/
theorem ak_names {la lb i : Nat} {K L : Int → Option Tx} (h : AK la lb i K L) (h1 : la ≤ i) (h2 : lb ≤ i) {l r : List Int} (hl : l.Pairwise (· < ·)) (hr : r.Pairwise (· < ·)) (ml : ∀ s, s ∈ l ↔ (K s).isSome = true) (mr : ∀ s, s ∈ r ↔ (L s).isSome = true) : (0 < lb → r.length < l.length) ∧ (¬ 0 < lb → ¬ r.length < l.length) := by
  by_cases ha : 0 < la
  · have er : r = [1] := rise_ext hr (by simp) (fun x => by
      rw [mr, h.l]; simp
      exact fun _ => ⟨by omega, ha⟩)
    by_cases hb : 0 < lb
    · have el : l = [1, 2] := rise_ext hl (by simp) (fun x => by
        rw [ml, h.k]; simp
        constructor
        · rintro (⟨e, _⟩ | ⟨e, _⟩)
          · exact .inl e
          · exact .inr e
        · rintro (e | e)
          · exact .inl ⟨e, by omega, ha⟩
          · exact .inr ⟨e, by omega, hb⟩)
      rw [er, el]
      exact ⟨fun _ => by decide, fun h => absurd hb h⟩
    · have el : l = [1] := rise_ext hl (by simp) (fun x => by
        rw [ml, h.k]; simp
        constructor
        · rintro (⟨e, _⟩ | ⟨e, _, e2⟩)
          · exact e
          · exact absurd e2 hb
        · exact fun e => .inl ⟨e, by omega, ha⟩)
      rw [er, el]
      exact ⟨fun h => absurd h hb, fun _ => by decide⟩
  · have er : r = [] := rise_ext hr List.Pairwise.nil (fun x => by
      rw [mr, h.l]; simp
      exact fun _ _ => by omega)
    by_cases hb : 0 < lb
    · have el : l = [2] := rise_ext hl (by simp) (fun x => by
        rw [ml, h.k]; simp
        constructor
        · rintro (⟨_, _, e2⟩ | ⟨e, _⟩)
          · exact absurd e2 ha
          · exact e
        · exact fun e => .inr ⟨e, by omega, hb⟩)
      rw [er, el]
      exact ⟨fun _ => by decide, fun h => absurd hb h⟩
    · have el : l = [] := rise_ext hl List.Pairwise.nil (fun x => by
        rw [ml, h.k]
        constructor
        · rintro (⟨_, _, e2⟩ | ⟨_, _, e2⟩)
          · exact absurd e2 ha
          · exact absurd e2 hb
        · intro h; cases h)
      rw [er, el]
      exact ⟨fun h => absurd h hb, fun _ => by decide⟩
def ApC (w wx : World) (sb xb la lb k : Nat) : Prop := ∃ K L, Two wx (fun j => j < w.heap.size) sb xb K L (3 * k + 2) ∧ AM la lb k K L ∧ Below w.heap.size w wx
set_option maxRecDepth 100000 in
set_option maxHeartbeats 8000000 in
theorem txnApart_walk {gs hs : List Rg} {a1 a2 : Option Addr} {cap1 cap2 : Nat} (w : World) (hr1 : RowsAt rgL 7 w a1 gs) (hl1 : gs.length ≤ 1048576) (hg1 : ∀ g ∈ gs, RSm w g ∧ g.r.ps.length ≤ 1048576) (hr2 : RowsAt rgL 7 w a2 hs) (hl2 : hs.length ≤ 1048576) (hg2 : ∀ g ∈ hs, RSm w g ∧ g.r.ps.length ≤ 1048576) :
    Calls Try.prog 8 #[.slice a1 gs.length cap1, .slice a2 hs.length cap2] w fun e w' => e = .returned (.bool true) ∧ Below w.heap.size w w' := by
  have HR1 := hide hr1
  have HG1 := hide hg1
  have HR2 := hide hr2
  have HG2 := hide hg2
  clear hr1 hg1 hr2 hg2
  obtain ⟨la, hla⟩ : ∃ y, gs.length = y := ⟨_, rfl⟩
  obtain ⟨lb, hlb⟩ : ∃ y, hs.length = y := ⟨_, rfl⟩
  rw [hla] at hl1 ⊢
  rw [hlb] at hl2 ⊢
  have HLA := hide hla
  have HLB := hide hlb
  clear hla hlb
  have KN := hide (fun W => tnew_any W)
  have T0 := hide (two_new w)
  have B0 : Hid (Below w.heap.size w ((w.alloc (.cells #[.map none] 91)).alloc (.cells #[.map none] 91))) := ((Below.refl _ _).alloc (Nat.le_refl _) _).alloc (by simp) _
  go_enter Try.func8, Try.ntmps8
  go_wp2_with fail
  refine (unhide KN w).mono ?_
  rintro e w1 ⟨rfl, rfl⟩
  go_wp2_with fail
  refine (unhide KN _).mono ?_
  rintro e w2 ⟨rfl, rfl⟩
  simp only [World.size_alloc]
  generalize (w.alloc (.cells #[.map none] 91)).alloc (.cells #[.map none] 91) = W1 at *
  have KW := hide (tawake_any W1)
  clear KN
  have T0' : Hid (∃ sb xb, sb = w.heap.size ∧ xb = w.heap.size + 1 ∧ Two W1 (fun k => k < w.heap.size) sb xb (fun _ => none) (fun _ => none) 0) := ⟨_, _, rfl, rfl, unhide T0⟩
  obtain ⟨sb, xb, hsb, hxb, t0⟩ := unhide T0'
  rw [← hxb, ← hsb]
  have T1 := hide t0
  clear T0 T0' t0 hsb hxb
  go_wp2_with (go_at_call 11; refine (unhide KW).mono ?_; rintro e w2 ⟨rfl, b2⟩)
  have T2 := hide ((unhide T1).later b2)
  have B2 : Hid (Below w.heap.size w w2) := (unhide B0).trans (b2.mono (unhide B0).size)
  clear b2 T1 B0 KW
  go_wp2_with fail
  go_loopw [7] (fun s7 wr => ∃ (k : Nat) (K L : Int → Option Tx), k ≤ 1048576 ∧ s7 = .int .i64 k ∧ Two wr (fun j => j < w.heap.size) sb xb K L (3 * k) ∧ AK la lb k K L ∧ Below w.heap.size w wr) (fun s7 _ => 1048577 - (intOf s7).toNat)
  case atStart => exact ⟨0, _, _, by decide, rfl, unhide T2, AK.zero la lb, unhide B2⟩
  case round =>
    obtain ⟨k, K, L, hk, rfl, tw, ak, br⟩ := hrel
    clear T2 B2
    have TWH := hide tw
    have AKH := hide ak
    have BR := hide br
    clear tw ak br
    by_cases hmore : k < la ∨ k < lb
    · have hk1 : Hid (k + 1 ≤ 1048576) := by show _ ≤ _; omega
      have hz0 : (0 : Int) ≤ (k : Int) := by omega
      have hmz : (k : Int) < (la : Int) ∨ (k : Int) < (lb : Int) := by omega
      have HC : Hid ((k : Int) < (la : Int) → True) := fun _ => trivial
      by_cases hin : k < la
      · have hinz : (k : Int) < (la : Int) := by omega
        go_upto_if 37 with fail
        go_cut [] from 22 to 62 (fun wx => ApC w wx sb xb la lb k)
        case first =>
          have hki : k < gs.length := by rw [unhide HLA]; exact hin
          obtain ⟨b, off, hab, hb0, hcell⟩ := unhide HR1 k hki
          obtain ⟨hgs, hgl⟩ := unhide HG1 gs[k] (List.getElem_mem hki)
          obtain ⟨g, hgk⟩ : ∃ g, gs[k] = g := ⟨_, rfl⟩
          rw [hgk] at hcell hgs hgl
          obtain ⟨r, ga, gk⟩ := g
          simp only at hgl
          have hga := hgs.at_
          have hgc := hgs.cap
          simp only at hga hgc
          obtain ⟨gn, hgn⟩ : ∃ y, r.ps.length = y := ⟨_, rfl⟩
          have hcell' : ∀ j, j < 7 → w.cell? ⟨b, off + k * 7 + j, none⟩ = ([.int .i64 r.kd, .int .i64 r.tx, .int .i64 r.inc, .int .u64 r.pid, .int .i64 r.ep, .slice ga gn gk, .bool r.co] : List Value)[j]? := fun j hj => by rw [hcell j hj]; simp only [rgL, hgn]
          clear hcell
          have hcell := hcell'
          clear hcell'
          subst hab
          have o0 : wr.cell? ⟨b, off + k * 7, none⟩ = some (.int .i64 r.kd) := ((unhide BR).cell (p := ⟨b, off + k * 7, none⟩) hb0).trans (hcell 0 (by decide))
          have o1 : wr.cell? ⟨b, off + k * 7 + 1, none⟩ = some (.int .i64 r.tx) := ((unhide BR).cell (p := ⟨b, off + k * 7 + 1, none⟩) hb0).trans (hcell 1 (by decide))
          have o2 : wr.cell? ⟨b, off + k * 7 + 2, none⟩ = some (.int .i64 r.inc) := ((unhide BR).cell (p := ⟨b, off + k * 7 + 2, none⟩) hb0).trans (hcell 2 (by decide))
          have o3 : wr.cell? ⟨b, off + k * 7 + 3, none⟩ = some (.int .u64 r.pid) := ((unhide BR).cell (p := ⟨b, off + k * 7 + 3, none⟩) hb0).trans (hcell 3 (by decide))
          have o4 : wr.cell? ⟨b, off + k * 7 + 4, none⟩ = some (.int .i64 r.ep) := ((unhide BR).cell (p := ⟨b, off + k * 7 + 4, none⟩) hb0).trans (hcell 4 (by decide))
          have o5 : wr.cell? ⟨b, off + k * 7 + 5, none⟩ = some (.slice ga gn gk) := ((unhide BR).cell (p := ⟨b, off + k * 7 + 5, none⟩) hb0).trans (hcell 5 (by decide))
          have o6 : wr.cell? ⟨b, off + k * 7 + 6, none⟩ = some (.bool r.co) := ((unhide BR).cell (p := ⟨b, off + k * 7 + 6, none⟩) hb0).trans (hcell 6 (by decide))
          have KO := own15_any (w := wr) (r := r) (a := ga) (k := gk) (hga.later (unhide BR)) hgc (by omega)
          simp only [reC] at KO
          rw [hgn] at KO
          have KOH := hide KO
          have GN := hide hgn
          clear KO hcell hga hgc hgs hgk hki hb0
          go_wp2_with fail
          refine (unhide KOH).mono ?_
          rintro e w3 ⟨sa, sc, rfl, i3, n3, b3⟩
          obtain ⟨ia, ic, ie, iI, il, im, inn, _⟩ := i3.iat
          injection ie with ie1 ie2 ie3
          have hsz3 := b3.size
          have b4 : Below w3.heap.size w3 (w3.alloc (.cells #[.int .i64 r.kd, .int .i64 1, .int .i64 r.inc, .int .u64 r.pid, .int .i64 r.ep, .slice sa gn sc, .bool r.co] 25)) := (Below.refl _ _).alloc (Nat.le_refl _) _
          have B4 : Hid (Below w.heap.size w (w3.alloc (.cells #[.int .i64 r.kd, .int .i64 1, .int .i64 r.inc, .int .u64 r.pid, .int .i64 r.ep, .slice sa gn sc, .bool r.co] 25))) := ((unhide BR).trans (b3.mono (unhide BR).size)).alloc (by have := (unhide BR).size; omega) _
          obtain ⟨yy, hyy⟩ : ∃ y, (w3.alloc (.cells #[.int .i64 r.kd, .int .i64 1, .int .i64 r.inc, .int .u64 r.pid, .int .i64 r.ep, .slice sa gn sc, .bool r.co] 25)).heap.size = y := ⟨_, rfl⟩
          obtain ⟨zz, hzz⟩ : ∃ y, wr.heap.size = y := ⟨_, rfl⟩
          have hy2 : w3.heap.size < yy := by rw [← hyy]; simp
          have T4 : Hid (Two (w3.alloc (.cells #[.int .i64 r.kd, .int .i64 1, .int .i64 r.inc, .int .u64 r.pid, .int .i64 r.ep, .slice sa gn sc, .bool r.co] 25)) (fun j => j < w.heap.size ∨ (zz ≤ j ∧ j < yy)) sb xb K L (3 * k)) := (((unhide TWH).add.later b3).later b4).weak (fun j hj => by rcases hj with e | e; exact .inl e; exact .inr (by omega))
          have hin4 : ∀ j, (j < w.heap.size ∨ (zz ≤ j ∧ j < yy)) → j < (w3.alloc (.cells #[.int .i64 r.kd, .int .i64 1, .int .i64 r.inc, .int .u64 r.pid, .int .i64 r.ep, .slice sa gn sc, .bool r.co] 25)).heap.size := fun j hj => by have := (unhide B4).size; rw [hyy] at this ⊢; rcases hj with e | e <;> omega
          have I4 := i3.later b4
          have hI4 : IAt (w3.alloc (.cells #[.int .i64 r.kd, .int .i64 1, .int .i64 r.inc, .int .u64 r.pid, .int .i64 r.ep, .slice sa gn sc, .bool r.co] 25)) sa r.ps := by have := iI.later b4; rw [← ie1] at this; exact this
          have hcp : sa = none → sc = 0 := fun e => by rw [ie3]; exact inn (by rw [← ie1]; exact e)
          have hrow : ∀ j, (Value.slice sa r.ps.length sc).ownBlock = some j → zz ≤ j ∧ j < yy := fun j hj => ⟨by rw [← hzz]; exact n3 j hj, by rw [← hyy]; exact I4.lt j hj⟩
          have G4 := heap_new w3 (.cells #[.int .i64 r.kd, .int .i64 1, .int .i64 r.inc, .int .u64 r.pid, .int .i64 r.ep, .slice sa gn sc, .bool r.co] 25)
          obtain ⟨bx, hbx⟩ : ∃ y, w3.heap.size = y := ⟨_, rfl⟩
          rw [hbx] at G4 hy2
          have hbz : zz ≤ bx := by rw [← hbx, ← hzz]; exact hsz3
          have hl0 : (getT K 1).ps.length + r.ps.length ≤ 17592186044416 := Nat.le_trans (Nat.add_le_add ((unhide AKH).lk 1) hgl) (Nat.le_trans (Nat.add_le_add_right (Nat.mul_le_mul_right 1048576 hk) 1048576) (by decide))
          have KA := (unhide T4).apply (r := ⟨r.kd, 1, r.inc, r.pid, r.ep, r.ps, r.co⟩) (a := sa) (cp := sc) hin4 hI4 hcp ⟨by show (-9223372036854775808 : Int) ≤ 1; decide, by show (1 : Int) ≤ 9223372036854775807; decide⟩ hl0 (by omega)
          simp only [reC] at KA
          rw [unhide GN] at KA
          have KAH := hide KA
          have I4H := hide I4
          have HROW := hide hrow
          have G4H := hide G4
          have HCP := hide hcp
          have HYV : Hid ((w3.alloc (.cells #[.int .i64 r.kd, .int .i64 1, .int .i64 r.inc, .int .u64 r.pid, .int .i64 r.ep, .slice sa gn sc, .bool r.co] 25)).heap.size = yy) := hyy
          clear KA i3 n3 b3 b4 iI il im inn ie1 ie2 ie3 KOH o0 o1 o2 o3 o4 o5 o6 I4 hI4 hrow G4 hcp hin4 hyy hzz T4
          simp only [reC]
          rw [unhide GN]
          go_upto_region 10 with fail
          generalize w3.alloc (.cells #[.int .i64 r.kd, .int .i64 1, .int .i64 r.inc, .int .u64 r.pid, .int .i64 r.ep, .slice sa gn sc, .bool r.co] 25) = V at *
          try rw [hbx]
          clear hbx
          have y0 : V.cell? ⟨bx, 0, none⟩ = some (.int .i64 r.kd) := cell_of (unhide G4H) 0
          have y1 : V.cell? ⟨bx, 1, none⟩ = some (.int .i64 1) := cell_of (unhide G4H) 1
          have y2 : V.cell? ⟨bx, 2, none⟩ = some (.int .i64 r.inc) := cell_of (unhide G4H) 2
          have y3 : V.cell? ⟨bx, 3, none⟩ = some (.int .u64 r.pid) := cell_of (unhide G4H) 3
          have y4 : V.cell? ⟨bx, 4, none⟩ = some (.int .i64 r.ep) := cell_of (unhide G4H) 4
          have y5 : V.cell? ⟨bx, 5, none⟩ = some (.slice sa gn sc) := cell_of (unhide G4H) 5
          have y6 : V.cell? ⟨bx, 6, none⟩ = some (.bool r.co) := cell_of (unhide G4H) 6
          go_wp2_with fail
          refine (unhide KAH).mono ?_
          rintro e w5 ⟨rfl, t5, u5⟩
          have B5 : Hid (Below w.heap.size w w5) := (unhide B4).trans (TW.below u5 (fun j hj => .inl hj) (unhide B4).size)
          have G5 := u5.keep (unhide G4H) (fun h => h (.inr ⟨hbz, hy2⟩))
          have I5 := (unhide I4H).keep u5 (fun j hj h => h (.inr (unhide HROW j hj)))
          obtain ⟨ja, jc, je, jI, _, _, _, _⟩ := I5.iat
          injection je with je1 je2 je3
          have hl5 : (getT L 1).ps.length + r.ps.length ≤ 17592186044416 := Nat.le_trans (Nat.add_le_add ((unhide AKH).ll 1) hgl) (Nat.le_trans (Nat.add_le_add_right (Nat.mul_le_mul_right 1048576 hk) 1048576) (by decide))
          have KB := t5.swap.apply (r := ⟨r.kd, 1, r.inc, r.pid, r.ep, r.ps, r.co⟩) (a := sa) (cp := sc) (fun j hj => by have h1 := (unhide B4).size; have h2 := u5.size; have h3 := lt_of_heap (unhide G4H); have h4 := unhide HYV; rcases hj with e | e <;> omega) (by rw [je1]; exact jI) (unhide HCP) ⟨by show (-9223372036854775808 : Int) ≤ 1; decide, by show (1 : Int) ≤ 9223372036854775807; decide⟩ hl5 (by omega)
          simp only [reC] at KB
          rw [unhide GN] at KB
          have KBH := hide KB
          have x0 : w5.cell? ⟨bx, 0, none⟩ = some (.int .i64 r.kd) := cell_of G5 0
          have x1 : w5.cell? ⟨bx, 1, none⟩ = some (.int .i64 1) := cell_of G5 1
          have x2 : w5.cell? ⟨bx, 2, none⟩ = some (.int .i64 r.inc) := cell_of G5 2
          have x3 : w5.cell? ⟨bx, 3, none⟩ = some (.int .u64 r.pid) := cell_of G5 3
          have x4 : w5.cell? ⟨bx, 4, none⟩ = some (.int .i64 r.ep) := cell_of G5 4
          have x5 : w5.cell? ⟨bx, 5, none⟩ = some (.slice sa gn sc) := cell_of G5 5
          have x6 : w5.cell? ⟨bx, 6, none⟩ = some (.bool r.co) := cell_of G5 6
          clear t5 u5 KAH y0 y1 y2 y3 y4 y5 y6 I5 jI je1 je2 je3 KB
          go_wp2_with fail
          refine (unhide KBH).mono ?_
          rintro e w6 ⟨rfl, t6, u6⟩
          have E6 : Hid (ApC w w6 sb xb la lb k) := ⟨_, _, t6.swap.weak (fun j hj => .inl hj), (unhide AKH).mid hin ⟨r.kd, 1, r.inc, r.pid, r.ep, r.ps, r.co⟩ hgl, (unhide B5).trans (TW.below u6 (fun j hj => .inl hj) (unhide B5).size)⟩
          clear t6 u6 KBH x0 x1 x2 x3 x4 x5 x6
          go_wp2_with fail
          go_meet
          exact unhide E6
        case rest =>
          obtain ⟨K', L', tc, am, bc⟩ := hcut
          have TCH := hide tc
          have AMH := hide am
          have BC := hide bc
          clear tc am bc TWH AKH BR hin hinz
          by_cases hin : k < lb
          · have hinz : (k : Int) < (lb : Int) := by omega
            have hki : k < hs.length := by rw [unhide HLB]; exact hin
            obtain ⟨b, off, hab, hb0, hcell⟩ := unhide HR2 k hki
            obtain ⟨hgs, hgl⟩ := unhide HG2 hs[k] (List.getElem_mem hki)
            obtain ⟨g, hgk⟩ : ∃ g, hs[k] = g := ⟨_, rfl⟩
            rw [hgk] at hcell hgs hgl
            obtain ⟨r, ga, gk⟩ := g
            simp only at hgl
            have hga := hgs.at_
            have hgc := hgs.cap
            simp only at hga hgc
            obtain ⟨gn, hgn⟩ : ∃ y, r.ps.length = y := ⟨_, rfl⟩
            have hcell' : ∀ j, j < 7 → w.cell? ⟨b, off + k * 7 + j, none⟩ = ([.int .i64 r.kd, .int .i64 r.tx, .int .i64 r.inc, .int .u64 r.pid, .int .i64 r.ep, .slice ga gn gk, .bool r.co] : List Value)[j]? := fun j hj => by rw [hcell j hj]; simp only [rgL, hgn]
            clear hcell
            have hcell := hcell'
            clear hcell'
            subst hab
            have o0 : wc.cell? ⟨b, off + k * 7, none⟩ = some (.int .i64 r.kd) := ((unhide BC).cell (p := ⟨b, off + k * 7, none⟩) hb0).trans (hcell 0 (by decide))
            have o1 : wc.cell? ⟨b, off + k * 7 + 1, none⟩ = some (.int .i64 r.tx) := ((unhide BC).cell (p := ⟨b, off + k * 7 + 1, none⟩) hb0).trans (hcell 1 (by decide))
            have o2 : wc.cell? ⟨b, off + k * 7 + 2, none⟩ = some (.int .i64 r.inc) := ((unhide BC).cell (p := ⟨b, off + k * 7 + 2, none⟩) hb0).trans (hcell 2 (by decide))
            have o3 : wc.cell? ⟨b, off + k * 7 + 3, none⟩ = some (.int .u64 r.pid) := ((unhide BC).cell (p := ⟨b, off + k * 7 + 3, none⟩) hb0).trans (hcell 3 (by decide))
            have o4 : wc.cell? ⟨b, off + k * 7 + 4, none⟩ = some (.int .i64 r.ep) := ((unhide BC).cell (p := ⟨b, off + k * 7 + 4, none⟩) hb0).trans (hcell 4 (by decide))
            have o5 : wc.cell? ⟨b, off + k * 7 + 5, none⟩ = some (.slice ga gn gk) := ((unhide BC).cell (p := ⟨b, off + k * 7 + 5, none⟩) hb0).trans (hcell 5 (by decide))
            have o6 : wc.cell? ⟨b, off + k * 7 + 6, none⟩ = some (.bool r.co) := ((unhide BC).cell (p := ⟨b, off + k * 7 + 6, none⟩) hb0).trans (hcell 6 (by decide))
            have KO := own15_any (w := wc) (r := r) (a := ga) (k := gk) (hga.later (unhide BC)) hgc (by omega)
            simp only [reC] at KO
            rw [hgn] at KO
            have KOH := hide KO
            have GN := hide hgn
            clear KO hcell hga hgc hgs hgk hki hb0
            go_wp2_with fail
            refine (unhide KOH).mono ?_
            rintro e w3 ⟨sa, sc, rfl, i3, n3, b3⟩
            obtain ⟨ia, ic, ie, iI, il, im, inn, _⟩ := i3.iat
            injection ie with ie1 ie2 ie3
            have hsz3 := b3.size
            have b4 : Below w3.heap.size w3 (w3.alloc (.cells #[.int .i64 r.kd, .int .i64 2, .int .i64 r.inc, .int .u64 r.pid, .int .i64 r.ep, .slice sa gn sc, .bool r.co] 25)) := (Below.refl _ _).alloc (Nat.le_refl _) _
            have B4 : Hid (Below w.heap.size w (w3.alloc (.cells #[.int .i64 r.kd, .int .i64 2, .int .i64 r.inc, .int .u64 r.pid, .int .i64 r.ep, .slice sa gn sc, .bool r.co] 25))) := ((unhide BC).trans (b3.mono (unhide BC).size)).alloc (by have := (unhide BC).size; omega) _
            obtain ⟨yy, hyy⟩ : ∃ y, (w3.alloc (.cells #[.int .i64 r.kd, .int .i64 2, .int .i64 r.inc, .int .u64 r.pid, .int .i64 r.ep, .slice sa gn sc, .bool r.co] 25)).heap.size = y := ⟨_, rfl⟩
            obtain ⟨zz, hzz⟩ : ∃ y, wc.heap.size = y := ⟨_, rfl⟩
            have hy2 : w3.heap.size < yy := by rw [← hyy]; simp
            have T4 : Hid (Two (w3.alloc (.cells #[.int .i64 r.kd, .int .i64 2, .int .i64 r.inc, .int .u64 r.pid, .int .i64 r.ep, .slice sa gn sc, .bool r.co] 25)) (fun j => j < w.heap.size ∨ (zz ≤ j ∧ j < yy)) sb xb K' L' (3 * k + 2)) := (((unhide TCH).add.later b3).later b4).weak (fun j hj => by rcases hj with e | e; exact .inl e; exact .inr (by omega))
            have hin4 : ∀ j, (j < w.heap.size ∨ (zz ≤ j ∧ j < yy)) → j < (w3.alloc (.cells #[.int .i64 r.kd, .int .i64 2, .int .i64 r.inc, .int .u64 r.pid, .int .i64 r.ep, .slice sa gn sc, .bool r.co] 25)).heap.size := fun j hj => by have := (unhide B4).size; rw [hyy] at this ⊢; rcases hj with e | e <;> omega
            have I4 := i3.later b4
            have hI4 : IAt (w3.alloc (.cells #[.int .i64 r.kd, .int .i64 2, .int .i64 r.inc, .int .u64 r.pid, .int .i64 r.ep, .slice sa gn sc, .bool r.co] 25)) sa r.ps := by have := iI.later b4; rw [← ie1] at this; exact this
            have hcp : sa = none → sc = 0 := fun e => by rw [ie3]; exact inn (by rw [← ie1]; exact e)
            have hrow : ∀ j, (Value.slice sa r.ps.length sc).ownBlock = some j → zz ≤ j ∧ j < yy := fun j hj => ⟨by rw [← hzz]; exact n3 j hj, by rw [← hyy]; exact I4.lt j hj⟩
            have G4 := heap_new w3 (.cells #[.int .i64 r.kd, .int .i64 2, .int .i64 r.inc, .int .u64 r.pid, .int .i64 r.ep, .slice sa gn sc, .bool r.co] 25)
            obtain ⟨bx, hbx⟩ : ∃ y, w3.heap.size = y := ⟨_, rfl⟩
            rw [hbx] at G4 hy2
            have hbz : zz ≤ bx := by rw [← hbx, ← hzz]; exact hsz3
            have hl0 : (getT K' 2).ps.length + r.ps.length ≤ 17592186044416 := Nat.le_trans (Nat.add_le_add ((unhide AMH).lk 2) hgl) (Nat.le_trans (Nat.add_le_add_right (Nat.mul_le_mul_right 1048576 (show k + 1 ≤ 1048577 by omega)) 1048576) (by decide))
            have KA := (unhide T4).apply (r := ⟨r.kd, 2, r.inc, r.pid, r.ep, r.ps, r.co⟩) (a := sa) (cp := sc) hin4 hI4 hcp ⟨by show (-9223372036854775808 : Int) ≤ 2; decide, by show (2 : Int) ≤ 9223372036854775807; decide⟩ hl0 (by omega)
            simp only [reC] at KA
            rw [unhide GN] at KA
            have KAH := hide KA
            have I4H := hide I4
            have HROW := hide hrow
            have G4H := hide G4
            have HCP := hide hcp
            clear KA i3 n3 b3 b4 iI il im inn ie1 ie2 ie3 KOH o0 o1 o2 o3 o4 o5 o6 I4 hI4 hrow G4 hcp hin4 hyy hzz T4
            simp only [reC]
            rw [unhide GN]
            go_upto_region 15 with fail
            generalize w3.alloc (.cells #[.int .i64 r.kd, .int .i64 2, .int .i64 r.inc, .int .u64 r.pid, .int .i64 r.ep, .slice sa gn sc, .bool r.co] 25) = V at *
            try rw [hbx]
            clear hbx
            have y0 : V.cell? ⟨bx, 0, none⟩ = some (.int .i64 r.kd) := cell_of (unhide G4H) 0
            have y1 : V.cell? ⟨bx, 1, none⟩ = some (.int .i64 2) := cell_of (unhide G4H) 1
            have y2 : V.cell? ⟨bx, 2, none⟩ = some (.int .i64 r.inc) := cell_of (unhide G4H) 2
            have y3 : V.cell? ⟨bx, 3, none⟩ = some (.int .u64 r.pid) := cell_of (unhide G4H) 3
            have y4 : V.cell? ⟨bx, 4, none⟩ = some (.int .i64 r.ep) := cell_of (unhide G4H) 4
            have y5 : V.cell? ⟨bx, 5, none⟩ = some (.slice sa gn sc) := cell_of (unhide G4H) 5
            have y6 : V.cell? ⟨bx, 6, none⟩ = some (.bool r.co) := cell_of (unhide G4H) 6
            go_wp2_with fail
            refine (unhide KAH).mono ?_
            rintro e w5 ⟨rfl, t5, u5⟩
            have B5 : Hid (Below w.heap.size w w5) := (unhide B4).trans (TW.below u5 (fun j hj => .inl hj) (unhide B4).size)
            have E5 : Hid (∃ K' L', Two w5 (fun j => j < w.heap.size) sb xb K' L' (3 * (k + 1)) ∧ AK la lb (k + 1) K' L') := ⟨_, _, (t5.weak (fun j hj => .inl hj)).more (by omega), (unhide AMH).done hin ⟨r.kd, 2, r.inc, r.pid, r.ep, r.ps, r.co⟩ hgl⟩
            clear t5 u5 KAH y0 y1 y2 y3 y4 y5 y6
            go_wp2
            go_roundw
            case rel =>
              obtain ⟨K', L', h1, h2⟩ := unhide E5
              exact ⟨k + 1, K', L', unhide hk1, by go_num, h1, h2, unhide B5⟩
            case measure => simp [intOf]; omega
          · have hinz : ¬ (k : Int) < (lb : Int) := by omega
            have E5 : Hid (Two wc (fun j => j < w.heap.size) sb xb K' L' (3 * (k + 1)) ∧ AK la lb (k + 1) K' L') := ⟨(unhide TCH).more (by omega), (unhide AMH).over hin⟩
            go_wp2
            go_roundw
            case rel => exact ⟨k + 1, K', L', unhide hk1, by go_num, (unhide E5).1, (unhide E5).2, unhide BC⟩
            case measure => simp [intOf]; omega
      · have hinz : ¬ (k : Int) < (la : Int) := by omega
        have hin2 : k < lb := by omega
        have hin2z : (k : Int) < (lb : Int) := by omega
        have E0 : Hid (ApC w wr sb xb la lb k) := ⟨K, L, (unhide TWH).more (by omega), (unhide AKH).past hin, unhide BR⟩
        go_upto_if 37 with fail
        go_cut [] from 22 to 62 (fun wx => ApC w wx sb xb la lb k)
        case first =>
          go_wp2_with fail
          go_meet
          exact unhide E0
        case rest =>
          obtain ⟨K', L', tc, am, bc⟩ := hcut
          have TCH := hide tc
          have AMH := hide am
          have BC := hide bc
          clear tc am bc TWH AKH BR hin hinz E0
          have hin := hin2
          have hki : k < hs.length := by rw [unhide HLB]; exact hin
          obtain ⟨b, off, hab, hb0, hcell⟩ := unhide HR2 k hki
          obtain ⟨hgs, hgl⟩ := unhide HG2 hs[k] (List.getElem_mem hki)
          obtain ⟨g, hgk⟩ : ∃ g, hs[k] = g := ⟨_, rfl⟩
          rw [hgk] at hcell hgs hgl
          obtain ⟨r, ga, gk⟩ := g
          simp only at hgl
          have hga := hgs.at_
          have hgc := hgs.cap
          simp only at hga hgc
          obtain ⟨gn, hgn⟩ : ∃ y, r.ps.length = y := ⟨_, rfl⟩
          have hcell' : ∀ j, j < 7 → w.cell? ⟨b, off + k * 7 + j, none⟩ = ([.int .i64 r.kd, .int .i64 r.tx, .int .i64 r.inc, .int .u64 r.pid, .int .i64 r.ep, .slice ga gn gk, .bool r.co] : List Value)[j]? := fun j hj => by rw [hcell j hj]; simp only [rgL, hgn]
          clear hcell
          have hcell := hcell'
          clear hcell'
          subst hab
          have o0 : wc.cell? ⟨b, off + k * 7, none⟩ = some (.int .i64 r.kd) := ((unhide BC).cell (p := ⟨b, off + k * 7, none⟩) hb0).trans (hcell 0 (by decide))
          have o1 : wc.cell? ⟨b, off + k * 7 + 1, none⟩ = some (.int .i64 r.tx) := ((unhide BC).cell (p := ⟨b, off + k * 7 + 1, none⟩) hb0).trans (hcell 1 (by decide))
          have o2 : wc.cell? ⟨b, off + k * 7 + 2, none⟩ = some (.int .i64 r.inc) := ((unhide BC).cell (p := ⟨b, off + k * 7 + 2, none⟩) hb0).trans (hcell 2 (by decide))
          have o3 : wc.cell? ⟨b, off + k * 7 + 3, none⟩ = some (.int .u64 r.pid) := ((unhide BC).cell (p := ⟨b, off + k * 7 + 3, none⟩) hb0).trans (hcell 3 (by decide))
          have o4 : wc.cell? ⟨b, off + k * 7 + 4, none⟩ = some (.int .i64 r.ep) := ((unhide BC).cell (p := ⟨b, off + k * 7 + 4, none⟩) hb0).trans (hcell 4 (by decide))
          have o5 : wc.cell? ⟨b, off + k * 7 + 5, none⟩ = some (.slice ga gn gk) := ((unhide BC).cell (p := ⟨b, off + k * 7 + 5, none⟩) hb0).trans (hcell 5 (by decide))
          have o6 : wc.cell? ⟨b, off + k * 7 + 6, none⟩ = some (.bool r.co) := ((unhide BC).cell (p := ⟨b, off + k * 7 + 6, none⟩) hb0).trans (hcell 6 (by decide))
          have KO := own15_any (w := wc) (r := r) (a := ga) (k := gk) (hga.later (unhide BC)) hgc (by omega)
          simp only [reC] at KO
          rw [hgn] at KO
          have KOH := hide KO
          have GN := hide hgn
          clear KO hcell hga hgc hgs hgk hki hb0
          go_wp2_with fail
          refine (unhide KOH).mono ?_
          rintro e w3 ⟨sa, sc, rfl, i3, n3, b3⟩
          obtain ⟨ia, ic, ie, iI, il, im, inn, _⟩ := i3.iat
          injection ie with ie1 ie2 ie3
          have hsz3 := b3.size
          have b4 : Below w3.heap.size w3 (w3.alloc (.cells #[.int .i64 r.kd, .int .i64 2, .int .i64 r.inc, .int .u64 r.pid, .int .i64 r.ep, .slice sa gn sc, .bool r.co] 25)) := (Below.refl _ _).alloc (Nat.le_refl _) _
          have B4 : Hid (Below w.heap.size w (w3.alloc (.cells #[.int .i64 r.kd, .int .i64 2, .int .i64 r.inc, .int .u64 r.pid, .int .i64 r.ep, .slice sa gn sc, .bool r.co] 25))) := ((unhide BC).trans (b3.mono (unhide BC).size)).alloc (by have := (unhide BC).size; omega) _
          obtain ⟨yy, hyy⟩ : ∃ y, (w3.alloc (.cells #[.int .i64 r.kd, .int .i64 2, .int .i64 r.inc, .int .u64 r.pid, .int .i64 r.ep, .slice sa gn sc, .bool r.co] 25)).heap.size = y := ⟨_, rfl⟩
          obtain ⟨zz, hzz⟩ : ∃ y, wc.heap.size = y := ⟨_, rfl⟩
          have hy2 : w3.heap.size < yy := by rw [← hyy]; simp
          have T4 : Hid (Two (w3.alloc (.cells #[.int .i64 r.kd, .int .i64 2, .int .i64 r.inc, .int .u64 r.pid, .int .i64 r.ep, .slice sa gn sc, .bool r.co] 25)) (fun j => j < w.heap.size ∨ (zz ≤ j ∧ j < yy)) sb xb K' L' (3 * k + 2)) := (((unhide TCH).add.later b3).later b4).weak (fun j hj => by rcases hj with e | e; exact .inl e; exact .inr (by omega))
          have hin4 : ∀ j, (j < w.heap.size ∨ (zz ≤ j ∧ j < yy)) → j < (w3.alloc (.cells #[.int .i64 r.kd, .int .i64 2, .int .i64 r.inc, .int .u64 r.pid, .int .i64 r.ep, .slice sa gn sc, .bool r.co] 25)).heap.size := fun j hj => by have := (unhide B4).size; rw [hyy] at this ⊢; rcases hj with e | e <;> omega
          have I4 := i3.later b4
          have hI4 : IAt (w3.alloc (.cells #[.int .i64 r.kd, .int .i64 2, .int .i64 r.inc, .int .u64 r.pid, .int .i64 r.ep, .slice sa gn sc, .bool r.co] 25)) sa r.ps := by have := iI.later b4; rw [← ie1] at this; exact this
          have hcp : sa = none → sc = 0 := fun e => by rw [ie3]; exact inn (by rw [← ie1]; exact e)
          have hrow : ∀ j, (Value.slice sa r.ps.length sc).ownBlock = some j → zz ≤ j ∧ j < yy := fun j hj => ⟨by rw [← hzz]; exact n3 j hj, by rw [← hyy]; exact I4.lt j hj⟩
          have G4 := heap_new w3 (.cells #[.int .i64 r.kd, .int .i64 2, .int .i64 r.inc, .int .u64 r.pid, .int .i64 r.ep, .slice sa gn sc, .bool r.co] 25)
          obtain ⟨bx, hbx⟩ : ∃ y, w3.heap.size = y := ⟨_, rfl⟩
          rw [hbx] at G4 hy2
          have hbz : zz ≤ bx := by rw [← hbx, ← hzz]; exact hsz3
          have hl0 : (getT K' 2).ps.length + r.ps.length ≤ 17592186044416 := Nat.le_trans (Nat.add_le_add ((unhide AMH).lk 2) hgl) (Nat.le_trans (Nat.add_le_add_right (Nat.mul_le_mul_right 1048576 (show k + 1 ≤ 1048577 by omega)) 1048576) (by decide))
          have KA := (unhide T4).apply (r := ⟨r.kd, 2, r.inc, r.pid, r.ep, r.ps, r.co⟩) (a := sa) (cp := sc) hin4 hI4 hcp ⟨by show (-9223372036854775808 : Int) ≤ 2; decide, by show (2 : Int) ≤ 9223372036854775807; decide⟩ hl0 (by omega)
          simp only [reC] at KA
          rw [unhide GN] at KA
          have KAH := hide KA
          have I4H := hide I4
          have HROW := hide hrow
          have G4H := hide G4
          have HCP := hide hcp
          clear KA i3 n3 b3 b4 iI il im inn ie1 ie2 ie3 KOH o0 o1 o2 o3 o4 o5 o6 I4 hI4 hrow G4 hcp hin4 hyy hzz T4
          simp only [reC]
          rw [unhide GN]
          go_upto_region 15 with fail
          generalize w3.alloc (.cells #[.int .i64 r.kd, .int .i64 2, .int .i64 r.inc, .int .u64 r.pid, .int .i64 r.ep, .slice sa gn sc, .bool r.co] 25) = V at *
          try rw [hbx]
          clear hbx
          have y0 : V.cell? ⟨bx, 0, none⟩ = some (.int .i64 r.kd) := cell_of (unhide G4H) 0
          have y1 : V.cell? ⟨bx, 1, none⟩ = some (.int .i64 2) := cell_of (unhide G4H) 1
          have y2 : V.cell? ⟨bx, 2, none⟩ = some (.int .i64 r.inc) := cell_of (unhide G4H) 2
          have y3 : V.cell? ⟨bx, 3, none⟩ = some (.int .u64 r.pid) := cell_of (unhide G4H) 3
          have y4 : V.cell? ⟨bx, 4, none⟩ = some (.int .i64 r.ep) := cell_of (unhide G4H) 4
          have y5 : V.cell? ⟨bx, 5, none⟩ = some (.slice sa gn sc) := cell_of (unhide G4H) 5
          have y6 : V.cell? ⟨bx, 6, none⟩ = some (.bool r.co) := cell_of (unhide G4H) 6
          go_wp2_with fail
          refine (unhide KAH).mono ?_
          rintro e w5 ⟨rfl, t5, u5⟩
          have B5 : Hid (Below w.heap.size w w5) := (unhide B4).trans (TW.below u5 (fun j hj => .inl hj) (unhide B4).size)
          have E5 : Hid (∃ K' L', Two w5 (fun j => j < w.heap.size) sb xb K' L' (3 * (k + 1)) ∧ AK la lb (k + 1) K' L') := ⟨_, _, (t5.weak (fun j hj => .inl hj)).more (by omega), (unhide AMH).done hin ⟨r.kd, 2, r.inc, r.pid, r.ep, r.ps, r.co⟩ hgl⟩
          clear t5 u5 KAH y0 y1 y2 y3 y4 y5 y6
          go_wp2
          go_roundw
          case rel =>
            obtain ⟨K', L', h1, h2⟩ := unhide E5
            exact ⟨k + 1, K', L', unhide hk1, by go_num, h1, h2, unhide B5⟩
          case measure => simp [intOf]; omega
    · have h1z : ¬ (k : Int) < (la : Int) := by omega
      have h2z : ¬ (k : Int) < (lb : Int) := by omega
      have h1 : la ≤ k := by omega
      have h2 : lb ≤ k := by omega
      have L1 := hide h1
      have L2 := hide h2
      clear hmore h1 h2
      have hb1 : (getT K 1).ps.length ≤ 17592186044416 := Nat.le_trans ((unhide AKH).lk 1) (by have : k * 1048576 ≤ 1048576 * 1048576 := Nat.mul_le_mul_right _ hk; omega)
      have hb2 : (getT L 1).ps.length ≤ 17592186044416 := Nat.le_trans ((unhide AKH).ll 1) (by have : k * 1048576 ≤ 1048576 * 1048576 := Nat.mul_le_mul_right _ hk; omega)
      have K1 := hide (tx_tw (unhide TWH).left (n := 1) ⟨by decide, by decide⟩ hb1)
      have EQ : Hid (getT L 1 = getT K 1) := by show _ = _; unfold getT; rw [(unhide AKH).one]
      go_wp2_with fail
      refine (unhide K1).mono ?_
      rintro e w3 ⟨p, rfl, f3, n3, b3⟩
      have T3 := hide ((unhide TWH).later b3)
      have K2 := hide (tx_tw (unhide T3).swap.left (n := 1) ⟨by decide, by decide⟩ hb2)
      have B3 : Hid (Below w.heap.size w w3) := (unhide BR).trans (b3.mono (unhide BR).size)
      have F3 := hide f3
      clear f3 n3 b3 K1 TWH BR
      go_wp2_with fail
      refine (unhide K2).mono ?_
      rintro e w4 ⟨q, rfl, f4, n4, b4⟩
      have KS := hide (sametx_any ((unhide F3).later b4) (by rw [← unhide EQ]; exact f4))
      have T4 := hide ((unhide T3).later b4)
      have B4 : Hid (Below w.heap.size w w4) := (unhide B3).trans (b4.mono (unhide B3).size)
      clear f4 n4 b4 K2 T3 B3 F3 EQ hb1 hb2
      obtain ⟨pst, pix, ppx, pxe, pg, pn, pc, pla, plp, pcx⟩ := p
      obtain ⟨qst, qix, qpx, qxe, qg, qn, qc, qla, qlp, qcx⟩ := q
      simp only [tdV, tdC, tdS] at KS ⊢
      generalize pg.map (fun g => (⟨g, 0, none⟩ : Addr)) = psa at *
      generalize qg.map (fun g => (⟨g, 0, none⟩ : Addr)) = qsa at *
      go_wp2_with fail
      refine (unhide KS).mono ?_
      rintro e w5 ⟨rfl, t5⟩
      have T5 := hide ((unhide T4).keep t5 (fun _ _ h => h.elim))
      have B5 : Hid (Below w.heap.size w w5) := (unhide B4).trans ⟨t5.os, t5.tape, t5.output, t5.size, fun j hj => t5.block j (Nat.lt_of_lt_of_le hj (unhide B4).size) (fun h => h)⟩
      have K3 := hide (names_tw (unhide T5).left (by omega))
      clear t5 KS T4 B4
      go_wp2_with fail
      refine (unhide K3).mono ?_
      rintro e w6 ⟨v1, l1, rfl, i6, pw6, mem6, n6, b6⟩
      obtain ⟨ea, ec, ee, _⟩ := i6.iat
      have T6 := hide ((unhide T5).later b6)
      have B6 : Hid (Below w.heap.size w w6) := (unhide B5).trans (b6.mono (unhide B5).size)
      have K4 := hide (names_tw (unhide T6).swap.left (by omega))
      have P6 := hide pw6
      have M6 := hide mem6
      clear i6 pw6 mem6 n6 b6 K3 T5 B5
      obtain ⟨n1, hn1⟩ : ∃ y, l1.length = y := ⟨_, rfl⟩
      rw [hn1] at ee
      subst ee
      have N1 := hide hn1
      clear hn1
      go_wp2_with fail
      refine (unhide K4).mono ?_
      rintro e w7 ⟨v2, l2, rfl, i7, pw7, mem7, n7, b7⟩
      obtain ⟨fa, fc, fe, _⟩ := i7.iat
      have B7 : Hid (Below w.heap.size w w7) := (unhide B6).trans (b7.mono (unhide B6).size)
      have cmp := ak_names (unhide AKH) (unhide L1) (unhide L2) (unhide P6) pw7 (unhide M6) mem7
      obtain ⟨n2, hn2⟩ : ∃ y, l2.length = y := ⟨_, rfl⟩
      rw [hn2] at fe cmp
      rw [unhide N1] at cmp
      subst fe
      clear i7 pw7 mem7 n7 b7 K4 T6 B6 P6 M6 AKH L1 L2 N1 hn2
      by_cases hb : 0 < lb
      · have hc := cmp.1 hb
        have hcz : (n2 : Int) < (n1 : Int) := by omega
        have hbz : (0 : Int) < (lb : Int) := by omega
        clear cmp
        go_wp2
        go_returns
        exact ⟨rfl, unhide B7⟩
      · have hc := cmp.2 hb
        have hcz : ¬ (n2 : Int) < (n1 : Int) := by omega
        have hbz : ¬ (0 : Int) < (lb : Int) := by omega
        clear cmp
        go_wp2
        go_returns
        exact ⟨rfl, unhide B7⟩
end Go.Proofs.Ytijfjhafjblefaa
