/-
  TxnNames at every list of records of bulk at most 1048576: true. Conditions: that bulk.
-/
import Derived.Test.YtijfjhafjblefaaNm15
import Derived.Test.YtijfjhafjblefaaBk15
import Derived.Test.YtijfjhafjblefaaLi15
namespace Go.Proofs.Ytijfjhafjblefaa
open Go.RowKit Go.Maps
set_option linter.unusedVariables false

theorem apT_len (r : Re) (x : Tx) : (apT r x).ps.length ≤ x.ps.length + r.ps.length := by
  unfold apT
  split
  · simp
  split
  · exact uni_len _ _
  split
  · simp
  split
  · simp
  · simp
/-- What is known behind so many records. -/
structure NK (gs : List Rg) (k : Nat) (K : Int → Option Tx) : Prop where
  some_ : ∀ s, (K s).isSome = true ↔ ∃ g ∈ gs.take k, g.r.tx = s
  len : ∀ s, (getT K s).ps.length ≤ k * 1048576
theorem NK.zero (gs : List Rg) : NK gs 0 (fun _ => none) := ⟨fun s => by simp, fun s => by simp [getT, tx0]⟩
theorem NK.step {gs : List Rg} {k : Nat} {K : Int → Option Tx} (h : NK gs k K) (hk : k < gs.length) (hl : gs[k].r.ps.length ≤ 1048576) : NK gs (k + 1) (putT K gs[k].r.tx (apT gs[k].r (getT K gs[k].r.tx))) := by
  refine ⟨fun s => ?_, fun s => ?_⟩
  · rw [List.take_succ_eq_append_getElem hk]
    unfold putT
    by_cases e : s = gs[k].r.tx
    · rw [if_pos e]
      exact ⟨fun _ => ⟨gs[k], List.mem_append_right _ (List.mem_singleton.2 rfl), e.symm⟩, fun _ => rfl⟩
    · rw [if_neg e, h.some_ s]
      constructor
      · rintro ⟨g, hg, rfl⟩; exact ⟨g, List.mem_append_left _ hg, rfl⟩
      · rintro ⟨g, hg, rfl⟩
        rcases List.mem_append.1 hg with hg | hg
        · exact ⟨g, hg, rfl⟩
        · rw [List.mem_singleton] at hg; subst hg; exact absurd rfl e
  · unfold getT putT
    by_cases e : s = gs[k].r.tx
    · rw [if_pos e]
      show (apT _ _).ps.length ≤ _
      have h1 := apT_len gs[k].r (getT K gs[k].r.tx)
      have h2 := h.len gs[k].r.tx
      unfold getT at h1 h2
      exact Nat.le_trans h1 (Nat.le_trans (Nat.add_le_add h2 hl) (by rw [Nat.add_mul, Nat.one_mul]; exact Nat.le_refl _))
    · rw [if_neg e]
      have := h.len s
      unfold getT at this
      exact Nat.le_trans this (Nat.mul_le_mul_right _ (Nat.le_succ _))
theorem names_tw {w : World} {N : Nat → Prop} {sb c : Nat} {K : Int → Option Tx} (h : TW w N sb K c) (hc : c ≤ 17592186044415) : Calls Try.prog 28 #[.pointer (some ⟨sb, 0, none⟩)] w fun e w' => NmsP w K e w' := by
  obtain ⟨mv, m, R, h1, h2, h3⟩ := h
  exact names_any h1 (by omega)
theorem has_any {w : World} {a : Option Addr} {gs : List Rg} {cap : Nat} (h : RowsAt rgL 7 w a gs) (hl : gs.length ≤ 1099511627776) (n : Int) (hn : ∃ g ∈ gs, g.r.tx = n) :
    Calls Try.prog 29 #[.slice a gs.length cap, .int .i64 n] w fun e w' => e = .returned (.bool true) ∧ w' = w := by
  obtain ⟨g, hg, hgn⟩ := hn
  obtain ⟨j, hj, rfl⟩ := List.getElem_of_mem hg
  have HR := hide h
  obtain ⟨L, hL⟩ : ∃ y, gs.length = y := ⟨_, rfl⟩
  have HL := hide hL
  rw [hL] at hl hj ⊢
  have HGN := hide hgn
  clear h hg hgn hL
  go_enter Try.func29, Try.ntmps29
  go_wp2_with fail
  go_loopw [5] (fun s5 wr => ∃ k : Nat, k ≤ j ∧ s5 = .int .i64 k ∧ wr = w) (fun s5 _ => L - (intOf s5).toNat)
  case atStart => exact ⟨0, Nat.zero_le _, rfl, rfl⟩
  case round =>
    obtain ⟨k, hk, rfl, hww⟩ := hrel
    obtain rfl : w = wr := hww.symm
    clear hww
    have hkl : k < L := by omega
    have hkz : (k : Int) < (L : Int) := by omega
    obtain ⟨b, off, rfl, hb0, hcell⟩ := unhide HR k (by rw [unhide HL]; exact hkl)
    have o1 : w.cell? ⟨b, off + k * 7 + 1, none⟩ = some (.int .i64 (gs[k]'(by rw [unhide HL]; exact hkl)).r.tx) := hcell 1 (by decide)
    by_cases he : (gs[k]'(by rw [unhide HL]; exact hkl)).r.tx = n
    · rw [he] at o1
      clear hcell he
      go_wp2
      go_returns
      exact ⟨rfl, rfl⟩
    · have hne : k ≠ j := fun e => by subst e; exact he (unhide HGN)
      generalize (gs[k]'(by rw [unhide HL]; exact hkl)).r.tx = t at *
      clear hcell
      go_wp2
      go_roundw
      case rel => exact ⟨k + 1, by omega, by go_num, by trivial⟩
      case measure => simp [intOf]; omega
set_option maxRecDepth 100000 in
set_option maxHeartbeats 8000000 in
theorem txnNames_walk {gs : List Rg} {a : Option Addr} {cap : Nat} (w : World) (hr : RowsAt rgL 7 w a gs) (hl : gs.length ≤ 1048576) (hg : ∀ g ∈ gs, RSm w g ∧ g.r.ps.length ≤ 1048576) :
    Calls Try.prog 5 #[.slice a gs.length cap] w fun e w' => e = .returned (.bool true) ∧ Below w.heap.size w w' := by
  have HR := hide hr
  have HG := hide hg
  clear hr hg
  obtain ⟨n, hn⟩ : ∃ y, gs.length = y := ⟨_, rfl⟩
  rw [hn] at hl ⊢
  have HN := hide hn
  clear hn
  have KN := hide (tnew_any w)
  have T0 := hide (tw_new w)
  have B0 : Hid (Below w.heap.size w (w.alloc (.cells #[.map none] 91))) := (Below.refl _ _).alloc (Nat.le_refl _) _
  go_enter Try.func5, Try.ntmps5
  go_wp2_with fail
  refine (unhide KN).mono ?_
  rintro e w1 ⟨rfl, rfl⟩
  generalize w.alloc (.cells #[.map none] 91) = W1 at *
  have KW := hide (tawake_any W1)
  clear KN
  obtain ⟨sb, hsb⟩ : ∃ y, w.heap.size = y := ⟨_, rfl⟩
  rw [hsb] at T0
  have T0' : Hid (TW W1 (fun j => j < w.heap.size) sb (fun _ => none) 0) := by rw [hsb]; exact T0
  clear T0
  have T0 := T0'
  clear T0'
  rw [hsb]
  clear hsb
  go_wp2_with (go_at_call 11; refine (unhide KW).mono ?_; rintro e w2 ⟨rfl, b2⟩)
  have T2 := hide ((unhide T0).later b2)
  have B2 : Hid (Below w.heap.size w w2) := (unhide B0).trans (b2.mono (unhide B0).size)
  clear b2 T0 B0 KW
  go_wp2_with fail
  go_loopw [23] (fun s23 wr => ∃ (k : Nat) (K : Int → Option Tx), k ≤ n ∧ s23 = .int .i64 k ∧ TW wr (fun j => j < w.heap.size) sb K k ∧ NK gs k K ∧ Below w.heap.size w wr) (fun s23 _ => n - (intOf s23).toNat)
  case atStart => exact ⟨0, _, Nat.zero_le _, rfl, unhide T2, NK.zero gs, unhide B2⟩
  case round =>
    obtain ⟨k, K, hk, rfl, tw, nk, br⟩ := hrel
    clear T2 B2
    have TWH := hide tw
    have NKH := hide nk
    have BR := hide br
    clear tw nk br
    by_cases hlt : k < n
    · have hltz : (k : Int) < (n : Int) := by omega
      have hki : k < gs.length := by rw [unhide HN]; exact hlt
      obtain ⟨b, off, hab, hb0, hcell⟩ := unhide HR k hki
      subst hab
      obtain ⟨hgs, hgl⟩ := unhide HG gs[k] (List.getElem_mem hki)
      have NKS := hide ((unhide NKH).step hki hgl)
      obtain ⟨g, hgk⟩ : ∃ g, gs[k] = g := ⟨_, rfl⟩
      rw [hgk] at hcell hgs hgl NKS
      obtain ⟨r, ga, gk⟩ := g
      simp only at hgl NKS
      have hga := hgs.at_
      have hgc := hgs.cap
      have hgt := hgs.tx
      simp only at hga hgc hgt
      obtain ⟨gn, hgn⟩ : ∃ y, r.ps.length = y := ⟨_, rfl⟩
      have hcell' : ∀ j, j < 7 → w.cell? ⟨b, off + k * 7 + j, none⟩ = ([.int .i64 r.kd, .int .i64 r.tx, .int .i64 r.inc, .int .u64 r.pid, .int .i64 r.ep, .slice ga gn gk, .bool r.co] : List Value)[j]? := fun j hj => by rw [hcell j hj]; simp only [rgL, hgn]
      clear hcell
      have hcell := hcell'
      clear hcell'
      have o0 : wr.cell? ⟨b, off + k * 7, none⟩ = some (.int .i64 r.kd) := ((unhide BR).cell (p := ⟨b, off + k * 7, none⟩) hb0).trans (hcell 0 (by decide))
      have o1 : wr.cell? ⟨b, off + k * 7 + 1, none⟩ = some (.int .i64 r.tx) := ((unhide BR).cell (p := ⟨b, off + k * 7 + 1, none⟩) hb0).trans (hcell 1 (by decide))
      have o2 : wr.cell? ⟨b, off + k * 7 + 2, none⟩ = some (.int .i64 r.inc) := ((unhide BR).cell (p := ⟨b, off + k * 7 + 2, none⟩) hb0).trans (hcell 2 (by decide))
      have o3 : wr.cell? ⟨b, off + k * 7 + 3, none⟩ = some (.int .u64 r.pid) := ((unhide BR).cell (p := ⟨b, off + k * 7 + 3, none⟩) hb0).trans (hcell 3 (by decide))
      have o4 : wr.cell? ⟨b, off + k * 7 + 4, none⟩ = some (.int .i64 r.ep) := ((unhide BR).cell (p := ⟨b, off + k * 7 + 4, none⟩) hb0).trans (hcell 4 (by decide))
      have o5 : wr.cell? ⟨b, off + k * 7 + 5, none⟩ = some (.slice ga gn gk) := ((unhide BR).cell (p := ⟨b, off + k * 7 + 5, none⟩) hb0).trans (hcell 5 (by decide))
      have o6 : wr.cell? ⟨b, off + k * 7 + 6, none⟩ = some (.bool r.co) := ((unhide BR).cell (p := ⟨b, off + k * 7 + 6, none⟩) hb0).trans (hcell 6 (by decide))
      have bA : Below wr.heap.size wr (wr.alloc (.cells #[.int .i64 r.kd, .int .i64 r.tx, .int .i64 r.inc, .int .u64 r.pid, .int .i64 r.ep, .slice ga gn gk, .bool r.co] 25)) := (Below.refl _ _).alloc (Nat.le_refl _) _
      have KO := own15_any (w := wr.alloc (.cells #[.int .i64 r.kd, .int .i64 r.tx, .int .i64 r.inc, .int .u64 r.pid, .int .i64 r.ep, .slice ga gn gk, .bool r.co] 25)) (r := r) (a := ga) (k := gk) ((hga.later (unhide BR)).later bA) hgc (by omega)
      simp only [reC] at KO
      rw [hgn] at KO
      have KOH := hide KO
      have TA := hide ((unhide TWH).later bA)
      have BA : Hid (Below w.heap.size w (wr.alloc (.cells #[.int .i64 r.kd, .int .i64 r.tx, .int .i64 r.inc, .int .u64 r.pid, .int .i64 r.ep, .slice ga gn gk, .bool r.co] 25))) := (unhide BR).alloc (unhide BR).size _
      have HLN : Hid ((getT K r.tx).ps.length + r.ps.length ≤ 17592186044416) := by
        have h1 := (unhide NKH).len r.tx
        have h2 : k * 1048576 ≤ 1048576 * 1048576 := Nat.mul_le_mul_right _ (by omega)
        show _ ≤ _
        omega
      have GN := hide hgn
      have GT := hide hgt
      clear KO hcell hga hgc hgt hgs hgk hki hb0 bA hgn TWH NKH BR
      go_wp2_with fail
      generalize wr.alloc (.cells #[.int .i64 r.kd, .int .i64 r.tx, .int .i64 r.inc, .int .u64 r.pid, .int .i64 r.ep, .slice ga gn gk, .bool r.co] 25) = V at *
      refine (unhide KOH).mono ?_
      rintro e w3 ⟨sa, sc, rfl, i3, n3, b3⟩
      obtain ⟨ia, ic, ie, iI, il, im, inn, _⟩ := i3.iat
      injection ie with ie1 ie2 ie3
      have B3 : Hid (Below w.heap.size w w3) := (unhide BA).trans (b3.mono (unhide BA).size)
      have hB3 := (unhide B3).size
      have KA := apply_tw ((unhide TA).later b3) (fun j hj => by omega) (r := r) (a := sa) (cp := sc) (by rw [ie1]; exact iI) (fun e => by rw [ie3]; exact inn (by rw [← ie1]; exact e)) (unhide GT) (unhide HLN) (by omega)
      have KAH := hide KA
      clear KA i3 n3 b3 iI il im inn ie1 ie2 ie3 TA BA KOH o0 o1 o2 o3 o4 o5 o6
      simp only [reC] at KAH ⊢
      go_wp2_with fail
      refine (unhide KAH).mono ?_
      rintro e w4 ⟨rfl, t4, u4⟩
      have T4 := hide t4
      have B4 : Hid (Below w.heap.size w w4) := (unhide B3).trans (TW.below u4 (fun j hj => hj) (unhide B3).size)
      have done : Hid (k + 1 ≤ n) := hlt
      clear t4 u4 KAH B3
      go_wp2
      go_roundw
      case rel => exact ⟨k + 1, _, unhide done, by go_num, unhide T4, unhide NKS, unhide B4⟩
      case measure => simp [intOf]; omega
    · have hltz : ¬ (k : Int) < (n : Int) := by omega
      have hkn : k = n := by omega
      have KM := hide (names_tw (unhide TWH) (by omega))
      have HS : Hid (∀ s, (K s).isSome = true ↔ ∃ g ∈ gs, g.r.tx = s) := fun s => by
        have := (unhide NKH).some_ s
        rw [hkn, ← unhide HN, List.take_length] at this
        exact this
      clear TWH NKH hkn hlt hk
      go_wp2_with fail
      refine (unhide KM).mono ?_
      rintro e w3 ⟨v, nl, rfl, i3, pw, mem, n3, b3⟩
      obtain ⟨va, vc, ev, iI, il, im, _, _⟩ := i3.iat
      have B3 : Hid (Below w.heap.size w w3) := (unhide BR).trans (b3.mono (unhide BR).size)
      have II := hide iI
      have PW := hide pw
      have HIN : Hid (∀ s ∈ nl, ∃ g ∈ gs, g.r.tx = s) := fun s hs => (unhide HS s).1 ((mem s).1 hs)
      have HNI : Hid (∀ g ∈ gs, g.r.tx ∈ nl) := fun g hg => (mem _).2 ((unhide HS _).2 ⟨g, hg, rfl⟩)
      have hnl : nl.length ≤ 9223372036854775807 := by unfold maxLen at im; omega
      have KH : Hid (∀ s ∈ nl, Calls Try.prog 29 #[.slice a n cap, .int .i64 s] w3 fun e w' => e = .returned (.bool true) ∧ w' = w3) := fun s hs => by
        have hrow : RowsAt rgL 7 w3 a gs := fun i hi => by
          obtain ⟨b, off, e1, e2, e3⟩ := unhide HR i hi
          exact ⟨b, off, e1, Nat.lt_of_lt_of_le e2 (unhide B3).size, fun j hj => ((unhide B3).cell (p := ⟨b, off + i * 7 + j, none⟩) e2).trans (e3 j hj)⟩
        have := has_any (cap := cap) hrow (by rw [unhide HN]; omega) s (unhide HIN s hs)
        rw [unhide HN] at this
        exact this
      clear i3 pw mem n3 b3 iI il im KM HS BR HIN
      obtain ⟨m, hm⟩ : ∃ y, nl.length = y := ⟨_, rfl⟩
      rw [hm] at ev hnl
      have HM := hide hm
      clear hm
      subst ev
      go_wp2_with fail
      go_loopw [36] (fun s36 wr => ∃ k : Nat, k ≤ m ∧ s36 = .int .i64 k ∧ wr = w3) (fun s36 _ => m - (intOf s36).toNat)
      case atStart => exact ⟨0, Nat.zero_le _, rfl, rfl⟩
      case round =>
        obtain ⟨i, hi, rfl, hww⟩ := hrel
        obtain rfl : w3 = wr := hww.symm
        clear hww
        by_cases hlt : i < m
        · have hltz : (i : Int) < (m : Int) := by omega
          have hi' : i < nl.length := by rw [unhide HM]; exact hlt
          obtain ⟨vb, vo, hva, _, hc⟩ := unhide II i hi'
          have KI := hide (unhide KH (nl.getD i 0) (by
            have e : nl.getD i 0 = nl[i] := by simp [List.getD, hi']
            rw [e]; exact List.getElem_mem hi'))
          have hrise : 0 < i → nl.getD (i - 1) 0 < nl.getD i 0 := fun h0 => by
            have h1 : i - 1 < nl.length := by omega
            have e1 : nl.getD (i - 1) 0 = nl[i - 1] := by simp [List.getD, h1]
            have e2 : nl.getD i 0 = nl[i] := by simp [List.getD, hi']
            rw [e1, e2]
            exact List.pairwise_iff_getElem.1 (unhide PW) (i - 1) i h1 hi' (by omega)
          subst hva
          have hz0 : (0 : Int) ≤ (i : Int) := by omega
          by_cases h0 : i = 0
          · generalize nl.getD i 0 = s at *
            have hn0 : ¬ (0 : Int) < (i : Int) := by omega
            have done : Hid (i + 1 ≤ m) := hlt
            clear hrise h0 hi'
            go_wp2_with (go_at_call 29; refine (unhide KI).mono ?_; rintro e w5 ⟨rfl, rfl⟩)
            go_roundw
            case rel => exact ⟨i + 1, unhide done, by go_num, by trivial⟩
            case measure => simp [intOf]; omega
          · obtain ⟨j, hj⟩ : ∃ j, j + 1 = i := ⟨i - 1, by omega⟩
            have h1 : j < nl.length := by omega
            obtain ⟨vb2, vo2, hva2, _, hc2⟩ := unhide II j h1
            cases hva2
            have hr2 := hrise (by omega)
            rw [show i - 1 = j by omega] at hr2
            generalize nl.getD i 0 = s at *
            generalize nl.getD j 0 = s2 at *
            have hge : ¬ s ≤ s2 := by omega
            have hw1 : wrap64 ((i : Int) - 1) = (j : Int) := by unfold wrap64; omega
            have hw3 : IntKind.i64.wrap ((i : Int) - 1) = (j : Int) := by rw [wrap_low (by omega) (by omega)]; omega
            have hw2 : (0 : Int) < (i : Int) := by omega
            have hz1 : (0 : Int) ≤ (j : Int) := by omega
            have hz2 : (j : Int) < (m : Int) := by omega
            have done : Hid (i + 1 ≤ m) := hlt
            clear hrise hr2 h1 hi' h0 hj
            go_wp2_with (go_at_call 29; refine (unhide KI).mono ?_; rintro e w5 ⟨rfl, rfl⟩)
            go_roundw
            case rel => exact ⟨i + 1, unhide done, by go_num, by trivial⟩
            case measure => simp [intOf]; omega
        · have hltz : ¬ (i : Int) < (m : Int) := by omega
          clear hlt hi KH PW
          go_wp2_with fail
          go_loopw [61] (fun s61 wr => ∃ k : Nat, k ≤ n ∧ s61 = .int .i64 k ∧ Below w3.heap.size w3 wr) (fun s61 _ => n - (intOf s61).toNat)
          case atStart => exact ⟨0, Nat.zero_le _, rfl, Below.refl _ _⟩
          case round =>
            obtain ⟨q, hq, rfl, bq⟩ := hrel
            have BQ := hide bq
            clear bq
            by_cases hqn : q < n
            · have hqz : (q : Int) < (n : Int) := by omega
              have hki : q < gs.length := by rw [unhide HN]; exact hqn
              obtain ⟨b, off, hab, hb0, hcell⟩ := unhide HR q hki
              subst hab
              have hin := unhide HNI gs[q] (List.getElem_mem hki)
              have BT := (unhide B3).trans ((unhide BQ).mono (unhide B3).size)
              obtain ⟨g, hgk⟩ : ∃ g, gs[q] = g := ⟨_, rfl⟩
              rw [hgk] at hcell hin
              obtain ⟨r, ga, gk⟩ := g
              simp only at hin
              obtain ⟨gn, hgn⟩ : ∃ y, r.ps.length = y := ⟨_, rfl⟩
              have hcell' : ∀ j, j < 7 → w.cell? ⟨b, off + q * 7 + j, none⟩ = ([.int .i64 r.kd, .int .i64 r.tx, .int .i64 r.inc, .int .u64 r.pid, .int .i64 r.ep, .slice ga gn gk, .bool r.co] : List Value)[j]? := fun j hj => by rw [hcell j hj]; simp only [rgL, hgn]
              clear hcell
              have hcell := hcell'
              clear hcell'
              have o0 : wr.cell? ⟨b, off + q * 7, none⟩ = some (.int .i64 r.kd) := (BT.cell (p := ⟨b, off + q * 7, none⟩) hb0).trans (hcell 0 (by decide))
              have o1 : wr.cell? ⟨b, off + q * 7 + 1, none⟩ = some (.int .i64 r.tx) := (BT.cell (p := ⟨b, off + q * 7 + 1, none⟩) hb0).trans (hcell 1 (by decide))
              have o2 : wr.cell? ⟨b, off + q * 7 + 2, none⟩ = some (.int .i64 r.inc) := (BT.cell (p := ⟨b, off + q * 7 + 2, none⟩) hb0).trans (hcell 2 (by decide))
              have o3 : wr.cell? ⟨b, off + q * 7 + 3, none⟩ = some (.int .u64 r.pid) := (BT.cell (p := ⟨b, off + q * 7 + 3, none⟩) hb0).trans (hcell 3 (by decide))
              have o4 : wr.cell? ⟨b, off + q * 7 + 4, none⟩ = some (.int .i64 r.ep) := (BT.cell (p := ⟨b, off + q * 7 + 4, none⟩) hb0).trans (hcell 4 (by decide))
              have o5 : wr.cell? ⟨b, off + q * 7 + 5, none⟩ = some (.slice ga gn gk) := (BT.cell (p := ⟨b, off + q * 7 + 5, none⟩) hb0).trans (hcell 5 (by decide))
              have o6 : wr.cell? ⟨b, off + q * 7 + 6, none⟩ = some (.bool r.co) := (BT.cell (p := ⟨b, off + q * 7 + 6, none⟩) hb0).trans (hcell 6 (by decide))
              have hA : Below wr.heap.size wr (wr.alloc (.cells #[.int .i64 r.kd, .int .i64 r.tx, .int .i64 r.inc, .int .u64 r.pid, .int .i64 r.ep, .slice ga gn gk, .bool r.co] 25)) := (Below.refl _ _).alloc (Nat.le_refl _) _
              have BV : Hid (Below w3.heap.size w3 (wr.alloc (.cells #[.int .i64 r.kd, .int .i64 r.tx, .int .i64 r.inc, .int .u64 r.pid, .int .i64 r.ep, .slice ga gn gk, .bool r.co] 25))) := (unhide BQ).trans (hA.mono (unhide BQ).size)
              have GG := hide (heap_new wr (.cells #[.int .i64 r.kd, .int .i64 r.tx, .int .i64 r.inc, .int .u64 r.pid, .int .i64 r.ep, .slice ga gn gk, .bool r.co] 25))
              have HIN := hide hin
              clear hcell hin hgk hki hb0 hA BQ BT hgn
              obtain ⟨xb, hxb⟩ : ∃ y, wr.heap.size = y := ⟨_, rfl⟩
              rw [hxb] at GG
              go_upto_region 19 with fail
              generalize wr.alloc (.cells #[.int .i64 r.kd, .int .i64 r.tx, .int .i64 r.inc, .int .u64 r.pid, .int .i64 r.ep, .slice ga gn gk, .bool r.co] 25) = V at *
              try rw [hxb]
              clear hxb o0 o1 o2 o3 o4 o5 o6
              have x1 : V.cell? ⟨xb, 1, none⟩ = some (.int .i64 r.tx) := cell_of (unhide GG) 1
              generalize r.tx = tx at *
              have IV := hide ((unhide II).later (unhide BV))
              go_wp2_with fail
              go_loopw [11, 67] (fun s11 s67 wx => ∃ (i : Nat) (bb : Bool), i ≤ m ∧ s67 = .int .i64 i ∧ s11 = .bool bb ∧ (bb = true ↔ tx ∈ nl.take i) ∧ wx = V) (fun _ s67 _ => m - (intOf s67).toNat)
              case atStart => exact ⟨0, false, Nat.zero_le _, rfl, rfl, by simp, rfl⟩
              case round =>
                obtain ⟨j, bb, hj, rfl, rfl, hbb, hwx⟩ := hrel
                have HBB := hide hbb
                clear hbb
                obtain rfl := hwx.symm
                clear hwx
                by_cases hjm : j < m
                · have hjz : (j : Int) < (m : Int) := by omega
                  have hj' : j < nl.length := by rw [unhide HM]; exact hjm
                  obtain ⟨vb2, vo2, hva2, _, hc2⟩ := unhide IV j hj'
                  have hstep : tx ∈ nl.take (j + 1) ↔ tx ∈ nl.take j ∨ tx = nl.getD j 0 := by
                    have e : nl.getD j 0 = nl[j] := by simp [List.getD, hj']
                    rw [List.take_succ_eq_append_getElem hj', List.mem_append, List.mem_singleton, e]
                  have HST := hide hstep
                  generalize nl.getD j 0 = s at *
                  subst hva2
                  have done : Hid (j + 1 ≤ m) := hjm
                  have hz1 : (0 : Int) ≤ (j : Int) := by omega
                  clear hj' hstep
                  cases bb with
                  | true =>
                    have R : Hid (true = true ↔ tx ∈ nl.take (j + 1)) := ⟨fun _ => (unhide HST).2 (.inl ((unhide HBB).1 rfl)), fun _ => rfl⟩
                    clear HBB HST
                    go_wp2
                    go_roundw
                    case rel =>
                      first
                        | exact ⟨j + 1, true, unhide done, by go_num, rfl, unhide R, by trivial⟩
                        | ((repeat apply Exists.intro); refine ⟨?_, ?_⟩; rotate_left; · (repeat' (first | exact rfl | apply And.intro)); · exact ⟨j + 1, true, unhide done, by go_num, rfl, unhide R, by trivial⟩)
                    case measure => simp [intOf]; omega
                  | false =>
                    by_cases hts : s = tx
                    · have R : Hid (true = true ↔ tx ∈ nl.take (j + 1)) := ⟨fun _ => (unhide HST).2 (.inr hts.symm), fun _ => rfl⟩
                      subst hts
                      clear HBB HST
                      go_wp2
                      go_roundw
                      case rel => exact ⟨j + 1, true, unhide done, by go_num, rfl, unhide R, by trivial⟩
                      case measure => simp [intOf]; omega
                    · have R : Hid (false = true ↔ tx ∈ nl.take (j + 1)) := ⟨(fun h => by cases h), fun h => ((unhide HST).1 h).elim (fun h => (unhide HBB).2 h) (fun h => absurd h.symm hts)⟩
                      have hb : (s == tx) = false := by simpa using hts
                      clear HBB HST
                      go_wp2
                      go_roundw
                      case rel => exact ⟨j + 1, false, unhide done, by go_num, by first | rfl | (rw [hb]), unhide R, by trivial⟩
                      case measure => simp [intOf]; omega
                · have hjz : ¬ (j : Int) < (m : Int) := by omega
                  have hbt : bb = true := (unhide HBB).2 (by
                    have : j = m := by omega
                    rw [this, ← unhide HM, List.take_length]
                    exact unhide HIN)
                  subst hbt
                  have done : Hid (q + 1 ≤ n) := hqn
                  clear HBB
                  go_wp2
                  go_roundw
                  case rel => exact ⟨q + 1, unhide done, by go_num, unhide BV⟩
                  case measure => simp [intOf]; omega
            · have hqz : ¬ (q : Int) < (n : Int) := by omega
              have F : Hid (Below w.heap.size w wr) := (unhide B3).trans ((unhide BQ).mono (unhide B3).size)
              go_wp2
              go_returns
              exact ⟨rfl, unhide F⟩
end Go.Proofs.Ytijfjhafjblefaa
