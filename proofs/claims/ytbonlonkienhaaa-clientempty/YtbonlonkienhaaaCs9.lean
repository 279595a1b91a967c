/-
  A client asks for a producer. Conditions: the client as it lies.
-/
import Derived.Test.YtbonlonkienhaaaCs8b
import Derived.BigRegion
namespace Go.Proofs.Ytbonlonkienhaaa
open Go.RowKit
set_option linter.unusedVariables false

theorem take17 {P : Program} {md : Region.Mode} {ops : Array Oper} {Q : Exit → Act → World → Prop} {S : World → Prop} {i d : Nat} {oi : Oper} {v : Value} {fuel : Nat} {listed : Array Bool} {a : Act} {w : World} (hi : ops[i]? = some oi) (hd : oi.dst = some d)
    (hs : Region.noSelect ops = true) (hf : Region.free md ops listed i = true) (hr : (Region.ready md ops listed).contains i = true)
    (hQ : ∀ c a w, Q (.panic c) (a.put oi.dst v) w → Q (.panic c) a w) (hy : YieldsIf P ops S oi v a) (hS : S w)
    (h : wpAnyH P md ops Q S fuel (listed.setIfInBounds i true) ⟨a.tmps.setIfInBounds d v, a.defers⟩ w) : wpAnyH P md ops Q S (fuel + 1) listed a w :=
  wpAnyH_take hi hs hf hr hQ hy hS (by rw [hd]; exact h)

set_option maxRecDepth 100000 in
theorem part7 {w : World} {b : Nat} {L M : List Value} {x : Int} (h : w.heap[b]? = some (.cells L.toArray 91)) (hx : L[2]? = some (.int .i64 x)) (hm : M.length = 59) (hk : M[0]? = some (.int .i64 7)) :
    Calls Try.prog 34 #[.pointer (some ⟨b, 0, none⟩), .agg M.toArray] w fun e w' => e = .returned (.int .i64 x) ∧ Below w.heap.size w w' := by
  have bl := (Below.refl w.heap.size w).alloc (Nat.le_refl _) (.cells M.toArray 65)
  have K := hide (tx_any (heap_old (.cells M.toArray 65) h) hx)
  have y0 : (w.alloc (.cells M.toArray 65)).cell? ⟨w.heap.size, 0, none⟩ = some (.int .i64 7) := (cell_of (heap_new w (.cells M.toArray 65)) 0).trans (by simpa using hk)
  have B := hide bl
  clear h hx hm hk bl
  go_enter Try.func34, Try.ntmps34
  go_upto_region 1 with fail
  change Code.wp _ _ _ _ (w.alloc (.cells M.toArray 65))
  generalize w.alloc (.cells M.toArray 65) = w1 at *
  go_wp2_with fail
  refine (unhide K).mono ?_
  rintro e w2 ⟨rfl, rfl⟩
  clear y0 K
  go_wp2
  go_ret
  exact ⟨rfl, unhide B⟩
theorem touch_in {w w1 w2 : World} {b g : Nat} (h : Touch (· = b) w w1) (t : Touch (· = g) w1 w2) (hg : w.heap.size = g) : Touch (· = b) w w2 :=
  ⟨t.os.trans h.os, t.tape.trans h.tape, t.output.trans h.output, Nat.le_trans h.size t.size, fun k hk hs => (t.block k (by have := h.size; omega) (fun e => by omega)).trans (h.block k hk hs)⟩
/-- Where a cell was laid the others stay. -/
theorem set_get {L : List Value} {i j : Nat} {v x : Value} (h : L[j]? = some v) (hne : i ≠ j) : (L.set i x)[j]? = some v := by rw [List.getElem?_set_ne hne]; exact h
theorem one_set {L : List Value} {i : Nat} {x : Value} (h : ∀ v ∈ L, v.oneCell' = true) (hx : x.oneCell' = true) : ∀ v ∈ L.set i x, v.oneCell' = true := fun v hv => (List.mem_or_eq_of_mem_set hv).elim (h v) (fun e => by rw [e]; exact hx)
def askM (M : List Value) (g : Int) : List Value := ((((((M.set 1 (.int .i64 1)).set 2 (.int .i64 0)).set 3 (.int .i64 1)))))
def AskP (w : World) (b : Nat) (e : Ending) (w' : World) : Prop := ∃ g M, e = .returned (.slice (some ⟨g, 0, none⟩) 1 1) ∧ w.heap.size ≤ g ∧ w'.heap[g]? = some (.cells (M : List Value).toArray 65) ∧ M[0]? = some (.int .i64 7) ∧ M[1]? = some (.int .i64 1) ∧ M[2]? = some (.int .i64 0) ∧ Touch (· = b) w w'
set_option maxRecDepth 100000 in
set_option maxHeartbeats 8000000 in
theorem ask_init {w : World} {b : Nat} {L M : List Value} {f : FuncId} (h : w.heap[b]? = some (.cells L.toArray 91)) (hl : L.length = 113) (l0 : L[0]? = some (.int .i64 0)) (l1 : L[1]? = some (.int .i64 1)) (l2 : L[2]? = some (.int .i64 1)) (l3 : L[3]? = some (.int .i64 0)) (l6 : L[6]? = some (.int .i64 0)) (l13 : L[13]? = some (.int .i64 0)) (l76 : L[76]? = some (.int .i64 0))
    (hm : M.length = 59) (h1 : ∀ v ∈ M, v.oneCell' = true) (hk : M[0]? = some (.int .i64 7)) (hv : M[44]? = some (.slice none 0 0)) :
    Calls Try.prog 40 #[.pointer (some ⟨b, 0, none⟩), .agg M.toArray, .func (.func f) #[] #[]] w fun e w' => AskP w b e w' := by
  have hb := lt_of_heap h
  have HB := hide hb
  have H := hide (heap_old (.cells M.toArray 65) h)
  have HX := hide (heap_new w (.cells M.toArray 65))
  have HL := hide hl
  have L0 := hide l0
  have L1 := hide l1
  have L2 := hide l2
  have L3 := hide l3
  have L6 := hide l6
  have L13 := hide l13
  have L76 := hide l76
  have HM := hide hm
  have HO := hide h1
  have HK := hide hk
  have HV := hide hv
  have T0 := hide ((Touch.refl (· = b) w).alloc (.cells M.toArray 65))
  clear h hl l0 l1 l2 l3 l6 l13 l76 hm h1 hk hv hb
  go_enter Try.func40, Try.ntmps40
  go_upto_region 1 with fail
  change Code.wp _ _ _ _ (w.alloc (.cells M.toArray 65))
  generalize w.alloc (.cells M.toArray 65) = w1 at *
  generalize hgg : w.heap.size = g at *
  have HG := hide hgg
  clear hgg
  have y13 : w1.cell? ⟨b, 13, none⟩ = some (.int .i64 0) := (cell_of (unhide H) 13).trans (by simpa using unhide L13)
  have f13 : w1.frozen? ⟨b, 13, none⟩ = false := frozen_of (unhide H) 13
  go_upto_region 2 with fail
  obtain ⟨N, hN⟩ : ∃ N, N = L.set 13 (.int .i64 1) := ⟨_, rfl⟩
  have H2 : Hid ((w1.setCell ⟨b, 13, none⟩ (.int .i64 1)).heap[b]? = some (.cells N.toArray 91)) := hide ((heap_set (unhide H) 13 _).trans (by rw [hN, List.setIfInBounds_toArray]))
  have T2 := hide ((unhide T0).trans (touch_set w1 b 13 (.int .i64 1)))
  have HX2 := hide ((touch_set w1 b 13 (.int .i64 1)).keep (unhide HX) (fun e => by have := unhide HB; omega))
  have N0 : Hid (N[0]? = some (.int .i64 0)) := hide (by rw [hN]; exact set_get (unhide L0) (by decide))
  have N1 : Hid (N[1]? = some (.int .i64 1)) := hide (by rw [hN]; exact set_get (unhide L1) (by decide))
  have N2 : Hid (N[2]? = some (.int .i64 1)) := hide (by rw [hN]; exact set_get (unhide L2) (by decide))
  have N3 : Hid (N[3]? = some (.int .i64 0)) := hide (by rw [hN]; exact set_get (unhide L3) (by decide))
  have N6 : Hid (N[6]? = some (.int .i64 0)) := hide (by rw [hN]; exact set_get (unhide L6) (by decide))
  have N76 : Hid (N[76]? = some (.int .i64 0)) := hide (by rw [hN]; exact set_get (unhide L76) (by decide))
  have N13 : Hid (N[13]? = some (.int .i64 1)) := hide (by rw [hN]; simp [unhide HL])
  have HL2 : Hid (N.length = 113) := hide (by rw [hN]; simpa using unhide HL)
  clear y13 f13 H HX T0 L0 L1 L2 L3 L6 L13 L76 HL hN
  generalize w1.setCell ⟨b, 13, none⟩ (.int .i64 1) = w2 at *
  have hd : Touch (· = b) w2 w2.drew := (Touch.refl _ _).drew
  have SB : Hid (∀ W : World, W.heap[b]? = some (.cells N.toArray 91) → (fun w' => w'.cell? ⟨b, 0, none⟩ = some (.int .i64 0) ∧ w'.cell? ⟨b, 1, none⟩ = some (.int .i64 1) ∧ w'.cell? ⟨b, 3, none⟩ = some (.int .i64 0) ∧ w'.cell? ⟨b, 6, none⟩ = some (.int .i64 0) ∧ w'.cell? ⟨b, 13, none⟩ = some (.int .i64 1) ∧ w'.cell? ⟨b, 76, none⟩ = some (.int .i64 0)) W) := hide (fun W h => ⟨(cell_of h 0).trans (by simpa using unhide N0), (cell_of h 1).trans (by simpa using unhide N1), (cell_of h 3).trans (by simpa using unhide N3), (cell_of h 6).trans (by simpa using unhide N6), (cell_of h 13).trans (by simpa using unhide N13), (cell_of h 76).trans (by simpa using unhide N76)⟩)
  have H3 : Hid (w2.drew.heap[b]? = some (.cells N.toArray 91)) := hide (unhide H2)
  have HX3 : Hid (w2.drew.heap[g]? = some (.cells M.toArray 65)) := hide (unhide HX2)
  have T3 := hide ((unhide T2).drew)
  obtain ⟨c1, hc1⟩ : ∃ v, M[1]? = some v := ⟨M[1]'(by rw [unhide HM]; decide), List.getElem?_eq_getElem _⟩
  obtain ⟨c2, hc2⟩ : ∃ v, M[2]? = some v := ⟨M[2]'(by rw [unhide HM]; decide), List.getElem?_eq_getElem _⟩
  obtain ⟨c3, hc3⟩ : ∃ v, M[3]? = some v := ⟨M[3]'(by rw [unhide HM]; decide), List.getElem?_eq_getElem _⟩
  obtain ⟨M5, hM5⟩ : ∃ N, N = M.set 1 (.int .i64 1) := ⟨_, rfl⟩
  obtain ⟨M6, hM6⟩ : ∃ N, N = M5.set 2 (.int .i64 0) := ⟨_, rfl⟩
  obtain ⟨M7, hM7⟩ : ∃ N, N = M6.set 3 (.int .i64 1) := ⟨_, rfl⟩
  obtain ⟨M8, hM8⟩ : ∃ N, N = M7.set 47 (.int .i64 0) := ⟨_, rfl⟩
  obtain ⟨M9, hM9⟩ : ∃ N, N = M8.set 54 (.int .i64 0) := ⟨_, rfl⟩
  obtain ⟨M10, hM10⟩ : ∃ N, N = M9.set 52 (.int .i64 0) := ⟨_, rfl⟩
  obtain ⟨M11, hM11⟩ : ∃ N, N = M10.set 48 (.int .i64 0) := ⟨_, rfl⟩
  obtain ⟨c47, hc47⟩ : ∃ v, M[47]? = some v := ⟨M[47]'(by rw [unhide HM]; decide), List.getElem?_eq_getElem _⟩
  obtain ⟨c54, hc54⟩ : ∃ v, M[54]? = some v := ⟨M[54]'(by rw [unhide HM]; decide), List.getElem?_eq_getElem _⟩
  obtain ⟨c52, hc52⟩ : ∃ v, M[52]? = some v := ⟨M[52]'(by rw [unhide HM]; decide), List.getElem?_eq_getElem _⟩
  obtain ⟨c48, hc48⟩ : ∃ v, M[48]? = some v := ⟨M[48]'(by rw [unhide HM]; decide), List.getElem?_eq_getElem _⟩
  have D7 : ∀ {j : Nat} {v : Value}, M[j]? = some v → 1 ≠ j → 2 ≠ j → 3 ≠ j → M7[j]? = some v := fun h n1 n2 n3 => by rw [hM7, hM6, hM5]; exact set_get (set_get (set_get h n1) n2) n3
  have D11 : ∀ {j : Nat} {v : Value}, M7[j]? = some v → 47 ≠ j → 54 ≠ j → 52 ≠ j → 48 ≠ j → M11[j]? = some v := fun h n1 n2 n3 n4 => by rw [hM11, hM10, hM9, hM8]; exact set_get (set_get (set_get (set_get h n1) n2) n3) n4
  have C747 : Hid (M7[47]? = some c47) := hide (D7 hc47 (by decide) (by decide) (by decide))
  have C854 : Hid (M8[54]? = some c54) := hide (by rw [hM8]; exact set_get (D7 hc54 (by decide) (by decide) (by decide)) (by decide))
  have C952 : Hid (M9[52]? = some c52) := hide (by rw [hM9, hM8]; exact set_get (set_get (D7 hc52 (by decide) (by decide) (by decide)) (by decide)) (by decide))
  have C1048 : Hid (M10[48]? = some c48) := hide (by rw [hM10, hM9, hM8]; exact set_get (set_get (set_get (D7 hc48 (by decide) (by decide) (by decide)) (by decide)) (by decide)) (by decide))
  have HL5 : M5.length = 59 := by rw [hM5]; simpa using unhide HM
  have HL6 : M6.length = 59 := by rw [hM6]; simpa using HL5
  have HL11 : Hid (M11.length = 59) := hide (by rw [hM11, hM10, hM9, hM8, hM7]; simpa using HL6)
  have HO11 : Hid (∀ v ∈ M11, v.oneCell' = true) := hide (by rw [hM11, hM10, hM9, hM8, hM7, hM6, hM5]; exact one_set (one_set (one_set (one_set (one_set (one_set (one_set (unhide HO) rfl) rfl) rfl) rfl) rfl) rfl) rfl)
  have E0 : Hid (M11[0]? = some (.int .i64 7)) := hide (D11 (D7 (unhide HK) (by decide) (by decide) (by decide)) (by decide) (by decide) (by decide) (by decide))
  have E1 : Hid (M11[1]? = some (.int .i64 1)) := hide (D11 (by rw [hM7, hM6]; exact set_get (set_get (by rw [hM5]; simp [unhide HM]) (by decide)) (by decide)) (by decide) (by decide) (by decide) (by decide))
  have E2 : Hid (M11[2]? = some (.int .i64 0)) := hide (D11 (by rw [hM7]; exact set_get (by rw [hM6]; simp [HL5]) (by decide)) (by decide) (by decide) (by decide) (by decide))
  have E44 : Hid (M11[44]? = some (.slice none 0 0)) := hide (D11 (D7 (unhide HV) (by decide) (by decide) (by decide)) (by decide) (by decide) (by decide) (by decide))
  have HM8 := hide hM8
  have HM9 := hide hM9
  have HM10 := hide hM10
  have HM11 := hide hM11
  have C41 := hide hc1
  have C52 : Hid (M5[2]? = some c2) := hide (by rw [hM5]; exact set_get hc2 (by decide))
  have C63 : Hid (M6[3]? = some c3) := hide (by rw [hM6, hM5]; exact set_get (set_get hc3 (by decide)) (by decide))
  have HM5 := hide hM5
  have HM6 := hide hM6
  have HM7 := hide hM7
  clear hc1 hc2 hc3 hc47 hc54 hc52 hc48 D7 D11 HL5 HL6 hM5 hM6 hM7 hM8 hM9 hM10 hM11
  have HI : Hid ((Try.prog.info? 65).map (·.size) = some M.length) := hide (by rw [unhide HM]; exact info_ms)
  have R3 : Hid (w2.drew.rangeAt g 0 M) := hide (range_of (unhide HX3) (fun j v hj => by rw [Nat.zero_add]; exact hj))
  clear hd H2 HX2 T2
  refine wp_region_held_drew (S := (fun w' => w'.cell? ⟨b, 0, none⟩ = some (.int .i64 0) ∧ w'.cell? ⟨b, 1, none⟩ = some (.int .i64 1) ∧ w'.cell? ⟨b, 3, none⟩ = some (.int .i64 0) ∧ w'.cell? ⟨b, 6, none⟩ = some (.int .i64 0) ∧ w'.cell? ⟨b, 13, none⟩ = some (.int .i64 1) ∧ w'.cell? ⟨b, 76, none⟩ = some (.int .i64 0))) (by kernel_rfl) (unhide SB _ (unhide H3)) (fun hHeld => ?_)
  generalize w2.drew = w3 at *
  refine take17 (i := 0) (d := 16) (v := .pointer (some ⟨b, 0, none⟩)) rfl rfl (by kernel_rfl) (by kernel_rfl) (by kernel_rfl) (fun _ _ _ h => h) (Or.inl ⟨by rfl, by intro w' hSw; (try dsimp only at hSw); go_simp⟩) (by assumption) ?_; (try simp only [List.setIfInBounds_toArray, List.set_cons_zero, List.set_cons_succ])
  refine take17 (i := 1) (d := 17) (v := .pointer (some ⟨b, 0, none⟩)) rfl rfl (by kernel_rfl) (by kernel_rfl) (by kernel_rfl) (fun _ _ _ h => h) (Or.inl ⟨by rfl, by intro w' hSw; (try dsimp only at hSw); go_simp⟩) (by assumption) ?_; (try simp only [List.setIfInBounds_toArray, List.set_cons_zero, List.set_cons_succ])
  refine take17 (i := 2) (d := 18) (v := .pointer (some ⟨b, 1, none⟩)) rfl rfl (by kernel_rfl) (by kernel_rfl) (by kernel_rfl) (fun _ _ _ h => h) (Or.inl ⟨by rfl, by intro w' hSw; (try dsimp only at hSw); go_simp⟩) (by assumption) ?_; (try simp only [List.setIfInBounds_toArray, List.set_cons_zero, List.set_cons_succ])
  refine take17 (i := 3) (d := 19) (v := .int .i64 1) rfl rfl (by kernel_rfl) (by kernel_rfl) (by kernel_rfl) (fun _ _ _ h => h) (Or.inl ⟨by rfl, by intro w' hSw; (try dsimp only at hSw); obtain ⟨s0, s1, s3, s6, s13, s76⟩ := hSw; go_simp⟩) (by assumption) ?_; (try simp only [List.setIfInBounds_toArray, List.set_cons_zero, List.set_cons_succ])
  refine take17 (i := 4) (d := 20) (v := .pointer (some ⟨b, 0, none⟩)) rfl rfl (by kernel_rfl) (by kernel_rfl) (by kernel_rfl) (fun _ _ _ h => h) (Or.inl ⟨by rfl, by intro w' hSw; (try dsimp only at hSw); go_simp⟩) (by assumption) ?_; (try simp only [List.setIfInBounds_toArray, List.set_cons_zero, List.set_cons_succ])
  refine take17 (i := 5) (d := 21) (v := .pointer (some ⟨b, 0, none⟩)) rfl rfl (by kernel_rfl) (by kernel_rfl) (by kernel_rfl) (fun _ _ _ h => h) (Or.inl ⟨by rfl, by intro w' hSw; (try dsimp only at hSw); go_simp⟩) (by assumption) ?_; (try simp only [List.setIfInBounds_toArray, List.set_cons_zero, List.set_cons_succ])
  refine take17 (i := 6) (d := 22) (v := .pointer (some ⟨b, 0, none⟩)) rfl rfl (by kernel_rfl) (by kernel_rfl) (by kernel_rfl) (fun _ _ _ h => h) (Or.inl ⟨by rfl, by intro w' hSw; (try dsimp only at hSw); go_simp⟩) (by assumption) ?_; (try simp only [List.setIfInBounds_toArray, List.set_cons_zero, List.set_cons_succ])
  refine take17 (i := 7) (d := 23) (v := .int .i64 0) rfl rfl (by kernel_rfl) (by kernel_rfl) (by kernel_rfl) (fun _ _ _ h => h) (Or.inl ⟨by rfl, by intro w' hSw; (try dsimp only at hSw); obtain ⟨s0, s1, s3, s6, s13, s76⟩ := hSw; go_simp⟩) (by assumption) ?_; (try simp only [List.setIfInBounds_toArray, List.set_cons_zero, List.set_cons_succ])
  refine take17 (i := 8) (d := 24) (v := .int .i64 1) rfl rfl (by kernel_rfl) (by kernel_rfl) (by kernel_rfl) (fun _ _ _ h => h) (Or.inl ⟨by rfl, by intro w' hSw; (try dsimp only at hSw); go_simp; all_goals rfl⟩) (by assumption) ?_; (try simp only [List.setIfInBounds_toArray, List.set_cons_zero, List.set_cons_succ])
  refine take17 (i := 9) (d := 25) (v := .pointer (some ⟨b, 0, none⟩)) rfl rfl (by kernel_rfl) (by kernel_rfl) (by kernel_rfl) (fun _ _ _ h => h) (Or.inl ⟨by rfl, by intro w' hSw; (try dsimp only at hSw); go_simp⟩) (by assumption) ?_; (try simp only [List.setIfInBounds_toArray, List.set_cons_zero, List.set_cons_succ])
  refine take17 (i := 10) (d := 26) (v := .pointer (some ⟨b, 0, none⟩)) rfl rfl (by kernel_rfl) (by kernel_rfl) (by kernel_rfl) (fun _ _ _ h => h) (Or.inl ⟨by rfl, by intro w' hSw; (try dsimp only at hSw); go_simp⟩) (by assumption) ?_; (try simp only [List.setIfInBounds_toArray, List.set_cons_zero, List.set_cons_succ])
  refine take17 (i := 13) (d := 29) (v := .pointer (some ⟨b, 0, none⟩)) rfl rfl (by kernel_rfl) (by kernel_rfl) (by kernel_rfl) (fun _ _ _ h => h) (Or.inl ⟨by rfl, by intro w' hSw; (try dsimp only at hSw); go_simp⟩) (by assumption) ?_; (try simp only [List.setIfInBounds_toArray, List.set_cons_zero, List.set_cons_succ])
  refine take17 (i := 14) (d := 30) (v := .pointer (some ⟨b, 13, none⟩)) rfl rfl (by kernel_rfl) (by kernel_rfl) (by kernel_rfl) (fun _ _ _ h => h) (Or.inl ⟨by rfl, by intro w' hSw; (try dsimp only at hSw); go_simp⟩) (by assumption) ?_; (try simp only [List.setIfInBounds_toArray, List.set_cons_zero, List.set_cons_succ])
  refine take17 (i := 15) (d := 31) (v := .pointer (some ⟨b, 75, none⟩)) rfl rfl (by kernel_rfl) (by kernel_rfl) (by kernel_rfl) (fun _ _ _ h => h) (Or.inl ⟨by rfl, by intro w' hSw; (try dsimp only at hSw); go_simp⟩) (by assumption) ?_; (try simp only [List.setIfInBounds_toArray, List.set_cons_zero, List.set_cons_succ])
  refine take17 (i := 18) (d := 34) (v := .pointer (some ⟨b, 0, none⟩)) rfl rfl (by kernel_rfl) (by kernel_rfl) (by kernel_rfl) (fun _ _ _ h => h) (Or.inl ⟨by rfl, by intro w' hSw; (try dsimp only at hSw); go_simp⟩) (by assumption) ?_; (try simp only [List.setIfInBounds_toArray, List.set_cons_zero, List.set_cons_succ])
  refine take17 (i := 19) (d := 35) (v := .pointer (some ⟨b, 0, none⟩)) rfl rfl (by kernel_rfl) (by kernel_rfl) (by kernel_rfl) (fun _ _ _ h => h) (Or.inl ⟨by rfl, by intro w' hSw; (try dsimp only at hSw); go_simp⟩) (by assumption) ?_; (try simp only [List.setIfInBounds_toArray, List.set_cons_zero, List.set_cons_succ])
  refine take17 (i := 20) (d := 36) (v := .pointer (some ⟨b, 6, none⟩)) rfl rfl (by kernel_rfl) (by kernel_rfl) (by kernel_rfl) (fun _ _ _ h => h) (Or.inl ⟨by rfl, by intro w' hSw; (try dsimp only at hSw); go_simp⟩) (by assumption) ?_; (try simp only [List.setIfInBounds_toArray, List.set_cons_zero, List.set_cons_succ])
  refine take17 (i := 21) (d := 37) (v := .int .i64 0) rfl rfl (by kernel_rfl) (by kernel_rfl) (by kernel_rfl) (fun _ _ _ h => h) (Or.inl ⟨by rfl, by intro w' hSw; (try dsimp only at hSw); obtain ⟨s0, s1, s3, s6, s13, s76⟩ := hSw; go_simp⟩) (by assumption) ?_; (try simp only [List.setIfInBounds_toArray, List.set_cons_zero, List.set_cons_succ])
  refine take17 (i := 22) (d := 38) (v := .int .i64 0) rfl rfl (by kernel_rfl) (by kernel_rfl) (by kernel_rfl) (fun _ _ _ h => h) (Or.inl ⟨by rfl, by intro w' hSw; (try dsimp only at hSw); go_simp; all_goals rfl⟩) (by assumption) ?_; (try simp only [List.setIfInBounds_toArray, List.set_cons_zero, List.set_cons_succ])
  refine take17 (i := 23) (d := 39) (v := .pointer (some ⟨b, 0, none⟩)) rfl rfl (by kernel_rfl) (by kernel_rfl) (by kernel_rfl) (fun _ _ _ h => h) (Or.inl ⟨by rfl, by intro w' hSw; (try dsimp only at hSw); go_simp⟩) (by assumption) ?_; (try simp only [List.setIfInBounds_toArray, List.set_cons_zero, List.set_cons_succ])
  refine take17 (i := 24) (d := 40) (v := .pointer (some ⟨b, 0, none⟩)) rfl rfl (by kernel_rfl) (by kernel_rfl) (by kernel_rfl) (fun _ _ _ h => h) (Or.inl ⟨by rfl, by intro w' hSw; (try dsimp only at hSw); go_simp⟩) (by assumption) ?_; (try simp only [List.setIfInBounds_toArray, List.set_cons_zero, List.set_cons_succ])
  refine take17 (i := 25) (d := 41) (v := .pointer (some ⟨b, 13, none⟩)) rfl rfl (by kernel_rfl) (by kernel_rfl) (by kernel_rfl) (fun _ _ _ h => h) (Or.inl ⟨by rfl, by intro w' hSw; (try dsimp only at hSw); go_simp⟩) (by assumption) ?_; (try simp only [List.setIfInBounds_toArray, List.set_cons_zero, List.set_cons_succ])
  refine take17 (i := 26) (d := 42) (v := .pointer (some ⟨b, 13, none⟩)) rfl rfl (by kernel_rfl) (by kernel_rfl) (by kernel_rfl) (fun _ _ _ h => h) (Or.inl ⟨by rfl, by intro w' hSw; (try dsimp only at hSw); go_simp⟩) (by assumption) ?_; (try simp only [List.setIfInBounds_toArray, List.set_cons_zero, List.set_cons_succ])
  refine take17 (i := 27) (d := 43) (v := .int .i64 1) rfl rfl (by kernel_rfl) (by kernel_rfl) (by kernel_rfl) (fun _ _ _ h => h) (Or.inl ⟨by rfl, by intro w' hSw; (try dsimp only at hSw); obtain ⟨s0, s1, s3, s6, s13, s76⟩ := hSw; go_simp⟩) (by assumption) ?_; (try simp only [List.setIfInBounds_toArray, List.set_cons_zero, List.set_cons_succ])
  refine take17 (i := 28) (d := 44) (v := .int .i64 1) rfl rfl (by kernel_rfl) (by kernel_rfl) (by kernel_rfl) (fun _ _ _ h => h) (Or.inl ⟨by rfl, by intro w' hSw; (try dsimp only at hSw); go_simp; all_goals rfl⟩) (by assumption) ?_; (try simp only [List.setIfInBounds_toArray, List.set_cons_zero, List.set_cons_succ])
  refine wpAnyH_ready (rs := [11]) (by kernel_rfl) (by simp) ?_
  refine AllReadyH.cons rfl (fun K hK => ?_) AllReadyH.nil
  · refine wp_load_mid 65 _ rfl g 0 rfl M _ (unhide R3) Try.underlying65 rfl (unhide HI) ?_
    refine hK.out _ _ (by assumption) (fun hHeld => ?_)
    clear hK K
    (try simp only [Act.put, List.setIfInBounds_toArray])
    have KP := hide (part7 (unhide H3) (unhide N2) (unhide HM) (unhide HK))
    refine take17 (i := 29) (d := 45) (v := .pointer (some ⟨g, 1, none⟩)) rfl rfl (by kernel_rfl) (by kernel_rfl) (by kernel_rfl) (fun _ _ _ h => h) (Or.inl ⟨by rfl, by intro w' hSw; (try dsimp only at hSw); go_simp⟩) (by assumption) ?_; (try simp only [List.setIfInBounds_toArray, List.set_cons_zero, List.set_cons_succ])
    refine wpAnyH_ready (rs := [12]) (by kernel_rfl) (by simp) ?_
    refine AllReadyH.cons rfl (fun K hK => ?_) AllReadyH.nil
    go_simp
    refine (unhide KP).mono ?_
    rintro e w4 ⟨rfl, b4⟩
    have H4 : Hid (w4.heap[b]? = some (.cells N.toArray 91)) := hide (below_keep b4 (unhide H3))
    have HX4 : Hid (w4.heap[g]? = some (.cells M.toArray 65)) := hide (below_keep b4 (unhide HX3))
    have T4 := hide ((unhide T3).trans (Touch.of_below b4))
    clear KP b4
    refine hK.out _ _ (unhide SB _ (unhide H4)) (fun hHeld => ?_)
    clear hK K
    (try simp only [Act.put, List.setIfInBounds_toArray, List.set_cons_zero, List.set_cons_succ])
    refine take17 (i := 16) (d := 32) (v := .pointer (some ⟨b, 76, none⟩)) rfl rfl (by kernel_rfl) (by kernel_rfl) (by kernel_rfl) (fun _ _ _ h => h) (Or.inl ⟨by rfl, by intro w' hSw; (try dsimp only at hSw); go_simp⟩) (by assumption) ?_; (try simp only [List.setIfInBounds_toArray, List.set_cons_zero, List.set_cons_succ])
    refine take17 (i := 17) (d := 33) (v := .int .i64 0) rfl rfl (by kernel_rfl) (by kernel_rfl) (by kernel_rfl) (fun _ _ _ h => h) (Or.inl ⟨by rfl, by intro w' hSw; (try dsimp only at hSw); obtain ⟨s0, s1, s3, s6, s13, s76⟩ := hSw; go_simp⟩) (by assumption) ?_; (try simp only [List.setIfInBounds_toArray, List.set_cons_zero, List.set_cons_succ])
    refine wpAnyH_ready (rs := [30]) (by kernel_rfl) (by simp) ?_
    refine AllReadyH.cons rfl (fun K hK => ?_) AllReadyH.nil
    have x4 : w4.cell? ⟨g, 1, none⟩ = some c1 := (cell_of (unhide HX4) 1).trans (by simpa using unhide C41)
    have g4 : w4.frozen? ⟨g, 1, none⟩ = false := frozen_of (unhide HX4) 1
    go_simp
    have H5 : Hid ((w4.setCell ⟨g, 1, none⟩ (.int .i64 1)).heap[b]? = some (.cells N.toArray 91)) := hide ((touch_set w4 g 1 (.int .i64 1)).keep (unhide H4) (fun e => by have := unhide HB; omega))
    have HX5 : Hid ((w4.setCell ⟨g, 1, none⟩ (.int .i64 1)).heap[g]? = some (.cells M5.toArray 65)) := hide ((heap_set (unhide HX4) 1 _).trans (by rw [unhide HM5, List.setIfInBounds_toArray]))
    have T5 := hide (touch_in (unhide T4) (touch_set w4 g 1 (.int .i64 1)) (unhide HG))
    refine hK.out _ _ (unhide SB _ (unhide H5)) (fun hHeld => ?_)
    clear hK K x4 g4
    generalize w4.setCell ⟨g, 1, none⟩ (.int .i64 1) = w5 at *
    (try simp only [Act.put, List.setIfInBounds_toArray, List.set_cons_zero, List.set_cons_succ])
    refine take17 (i := 31) (d := 46) (v := .pointer (some ⟨g, 2, none⟩)) rfl rfl (by kernel_rfl) (by kernel_rfl) (by kernel_rfl) (fun _ _ _ h => h) (Or.inl ⟨by rfl, by intro w' hSw; (try dsimp only at hSw); go_simp⟩) (by assumption) ?_; (try simp only [List.setIfInBounds_toArray, List.set_cons_zero, List.set_cons_succ])
    refine wpAnyH_ready (rs := [32]) (by kernel_rfl) (by simp) ?_
    refine AllReadyH.cons rfl (fun K hK => ?_) AllReadyH.nil
    have x5 : w5.cell? ⟨g, 2, none⟩ = some c2 := (cell_of (unhide HX5) 2).trans (by simpa using unhide C52)
    have g5 : w5.frozen? ⟨g, 2, none⟩ = false := frozen_of (unhide HX5) 2
    go_simp
    have H6 : Hid ((w5.setCell ⟨g, 2, none⟩ (.int .i64 0)).heap[b]? = some (.cells N.toArray 91)) := hide ((touch_set w5 g 2 (.int .i64 0)).keep (unhide H5) (fun e => by have := unhide HB; omega))
    have HX6 : Hid ((w5.setCell ⟨g, 2, none⟩ (.int .i64 0)).heap[g]? = some (.cells M6.toArray 65)) := hide ((heap_set (unhide HX5) 2 _).trans (by rw [unhide HM6, List.setIfInBounds_toArray]))
    have T6 := hide (touch_in (unhide T5) (touch_set w5 g 2 (.int .i64 0)) (unhide HG))
    refine hK.out _ _ (unhide SB _ (unhide H6)) (fun hHeld => ?_)
    clear hK K x5 g5
    generalize w5.setCell ⟨g, 2, none⟩ (.int .i64 0) = w6 at *
    (try simp only [Act.put, List.setIfInBounds_toArray, List.set_cons_zero, List.set_cons_succ])
    refine take17 (i := 33) (d := 47) (v := .pointer (some ⟨g, 3, none⟩)) rfl rfl (by kernel_rfl) (by kernel_rfl) (by kernel_rfl) (fun _ _ _ h => h) (Or.inl ⟨by rfl, by intro w' hSw; (try dsimp only at hSw); go_simp⟩) (by assumption) ?_; (try simp only [List.setIfInBounds_toArray, List.set_cons_zero, List.set_cons_succ])
    refine wpAnyH_ready (rs := [34]) (by kernel_rfl) (by simp) ?_
    refine AllReadyH.cons rfl (fun K hK => ?_) AllReadyH.nil
    have x6 : w6.cell? ⟨g, 3, none⟩ = some c3 := (cell_of (unhide HX6) 3).trans (by simpa using unhide C63)
    have g6 : w6.frozen? ⟨g, 3, none⟩ = false := frozen_of (unhide HX6) 3
    go_simp
    have H7 : Hid ((w6.setCell ⟨g, 3, none⟩ (.int .i64 1)).heap[b]? = some (.cells N.toArray 91)) := hide ((touch_set w6 g 3 (.int .i64 1)).keep (unhide H6) (fun e => by have := unhide HB; omega))
    have HX7 : Hid ((w6.setCell ⟨g, 3, none⟩ (.int .i64 1)).heap[g]? = some (.cells M7.toArray 65)) := hide ((heap_set (unhide HX6) 3 _).trans (by rw [unhide HM7, List.setIfInBounds_toArray]))
    have T7 := hide (touch_in (unhide T6) (touch_set w6 g 3 (.int .i64 1)) (unhide HG))
    refine hK.out _ _ (unhide SB _ (unhide H7)) (fun hHeld => ?_)
    clear hK K x6 g6
    generalize w6.setCell ⟨g, 3, none⟩ (.int .i64 1) = w7 at *
    (try simp only [Act.put, List.setIfInBounds_toArray, List.set_cons_zero, List.set_cons_succ])
    refine wpAnyH_done (by kernel_rfl) ?_ _
    clear hHeld H4 HX4 T4 H5 HX5 T5 H6 HX6 T6 H3 HX3 T3 R3
    go_upto_region 3 with fail
    have T8 := hide ((unhide T7).drew)
    have H8 : Hid (w7.drew.heap[b]? = some (.cells N.toArray 91)) := hide (unhide H7)
    have HX8 : Hid (w7.drew.heap[g]? = some (.cells M7.toArray 65)) := hide (unhide HX7)
    clear T7 H7 HX7
    refine wp_region_held_drew (S := (fun w' => w'.cell? ⟨b, 0, none⟩ = some (.int .i64 0) ∧ w'.cell? ⟨b, 1, none⟩ = some (.int .i64 1) ∧ w'.cell? ⟨b, 3, none⟩ = some (.int .i64 0) ∧ w'.cell? ⟨b, 6, none⟩ = some (.int .i64 0) ∧ w'.cell? ⟨b, 13, none⟩ = some (.int .i64 1) ∧ w'.cell? ⟨b, 76, none⟩ = some (.int .i64 0))) (by kernel_rfl) (unhide SB _ (unhide H8)) (fun hHeld => ?_)
    generalize w7.drew = w7 at *
    have T7 := T8
    have H7 := H8
    have HX7 := HX8
    clear T8 H8 HX8
    refine take17 (i := 0) (d := 48) (v := .pointer (some ⟨b, 0, none⟩)) rfl rfl (by kernel_rfl) (by kernel_rfl) (by kernel_rfl) (fun _ _ _ h => h) (Or.inl ⟨by rfl, by intro w' hSw; (try dsimp only at hSw); go_simp⟩) (by assumption) ?_; (try simp only [List.setIfInBounds_toArray, List.set_cons_zero, List.set_cons_succ])
    refine take17 (i := 1) (d := 49) (v := .pointer (some ⟨b, 0, none⟩)) rfl rfl (by kernel_rfl) (by kernel_rfl) (by kernel_rfl) (fun _ _ _ h => h) (Or.inl ⟨by rfl, by intro w' hSw; (try dsimp only at hSw); go_simp⟩) (by assumption) ?_; (try simp only [List.setIfInBounds_toArray, List.set_cons_zero, List.set_cons_succ])
    refine take17 (i := 2) (d := 50) (v := .pointer (some ⟨b, 0, none⟩)) rfl rfl (by kernel_rfl) (by kernel_rfl) (by kernel_rfl) (fun _ _ _ h => h) (Or.inl ⟨by rfl, by intro w' hSw; (try dsimp only at hSw); go_simp⟩) (by assumption) ?_; (try simp only [List.setIfInBounds_toArray, List.set_cons_zero, List.set_cons_succ])
    refine take17 (i := 3) (d := 51) (v := .int .i64 0) rfl rfl (by kernel_rfl) (by kernel_rfl) (by kernel_rfl) (fun _ _ _ h => h) (Or.inl ⟨by rfl, by intro w' hSw; (try dsimp only at hSw); obtain ⟨s0, s1, s3, s6, s13, s76⟩ := hSw; go_simp⟩) (by assumption) ?_; (try simp only [List.setIfInBounds_toArray, List.set_cons_zero, List.set_cons_succ])
    refine take17 (i := 4) (d := 52) (v := .pointer (some ⟨b, 0, none⟩)) rfl rfl (by kernel_rfl) (by kernel_rfl) (by kernel_rfl) (fun _ _ _ h => h) (Or.inl ⟨by rfl, by intro w' hSw; (try dsimp only at hSw); go_simp⟩) (by assumption) ?_; (try simp only [List.setIfInBounds_toArray, List.set_cons_zero, List.set_cons_succ])
    refine take17 (i := 5) (d := 53) (v := .pointer (some ⟨b, 0, none⟩)) rfl rfl (by kernel_rfl) (by kernel_rfl) (by kernel_rfl) (fun _ _ _ h => h) (Or.inl ⟨by rfl, by intro w' hSw; (try dsimp only at hSw); go_simp⟩) (by assumption) ?_; (try simp only [List.setIfInBounds_toArray, List.set_cons_zero, List.set_cons_succ])
    refine take17 (i := 6) (d := 54) (v := .pointer (some ⟨b, 0, none⟩)) rfl rfl (by kernel_rfl) (by kernel_rfl) (by kernel_rfl) (fun _ _ _ h => h) (Or.inl ⟨by rfl, by intro w' hSw; (try dsimp only at hSw); go_simp⟩) (by assumption) ?_; (try simp only [List.setIfInBounds_toArray, List.set_cons_zero, List.set_cons_succ])
    refine take17 (i := 7) (d := 55) (v := .int .i64 0) rfl rfl (by kernel_rfl) (by kernel_rfl) (by kernel_rfl) (fun _ _ _ h => h) (Or.inl ⟨by rfl, by intro w' hSw; (try dsimp only at hSw); obtain ⟨s0, s1, s3, s6, s13, s76⟩ := hSw; go_simp⟩) (by assumption) ?_; (try simp only [List.setIfInBounds_toArray, List.set_cons_zero, List.set_cons_succ])
    refine take17 (i := 8) (d := 56) (v := .pointer (some ⟨b, 0, none⟩)) rfl rfl (by kernel_rfl) (by kernel_rfl) (by kernel_rfl) (fun _ _ _ h => h) (Or.inl ⟨by rfl, by intro w' hSw; (try dsimp only at hSw); go_simp⟩) (by assumption) ?_; (try simp only [List.setIfInBounds_toArray, List.set_cons_zero, List.set_cons_succ])
    refine take17 (i := 9) (d := 57) (v := .pointer (some ⟨b, 0, none⟩)) rfl rfl (by kernel_rfl) (by kernel_rfl) (by kernel_rfl) (fun _ _ _ h => h) (Or.inl ⟨by rfl, by intro w' hSw; (try dsimp only at hSw); go_simp⟩) (by assumption) ?_; (try simp only [List.setIfInBounds_toArray, List.set_cons_zero, List.set_cons_succ])
    refine take17 (i := 10) (d := 58) (v := .pointer (some ⟨b, 3, none⟩)) rfl rfl (by kernel_rfl) (by kernel_rfl) (by kernel_rfl) (fun _ _ _ h => h) (Or.inl ⟨by rfl, by intro w' hSw; (try dsimp only at hSw); go_simp⟩) (by assumption) ?_; (try simp only [List.setIfInBounds_toArray, List.set_cons_zero, List.set_cons_succ])
    refine take17 (i := 11) (d := 59) (v := .int .i64 0) rfl rfl (by kernel_rfl) (by kernel_rfl) (by kernel_rfl) (fun _ _ _ h => h) (Or.inl ⟨by rfl, by intro w' hSw; (try dsimp only at hSw); obtain ⟨s0, s1, s3, s6, s13, s76⟩ := hSw; go_simp⟩) (by assumption) ?_; (try simp only [List.setIfInBounds_toArray, List.set_cons_zero, List.set_cons_succ])
    refine take17 (i := 12) (d := 60) (v := .pointer (some ⟨b, 0, none⟩)) rfl rfl (by kernel_rfl) (by kernel_rfl) (by kernel_rfl) (fun _ _ _ h => h) (Or.inl ⟨by rfl, by intro w' hSw; (try dsimp only at hSw); go_simp⟩) (by assumption) ?_; (try simp only [List.setIfInBounds_toArray, List.set_cons_zero, List.set_cons_succ])
    refine take17 (i := 13) (d := 61) (v := .pointer (some ⟨b, 0, none⟩)) rfl rfl (by kernel_rfl) (by kernel_rfl) (by kernel_rfl) (fun _ _ _ h => h) (Or.inl ⟨by rfl, by intro w' hSw; (try dsimp only at hSw); go_simp⟩) (by assumption) ?_; (try simp only [List.setIfInBounds_toArray, List.set_cons_zero, List.set_cons_succ])
    refine take17 (i := 14) (d := 62) (v := .pointer (some ⟨b, 6, none⟩)) rfl rfl (by kernel_rfl) (by kernel_rfl) (by kernel_rfl) (fun _ _ _ h => h) (Or.inl ⟨by rfl, by intro w' hSw; (try dsimp only at hSw); go_simp⟩) (by assumption) ?_; (try simp only [List.setIfInBounds_toArray, List.set_cons_zero, List.set_cons_succ])
    refine take17 (i := 15) (d := 63) (v := .int .i64 0) rfl rfl (by kernel_rfl) (by kernel_rfl) (by kernel_rfl) (fun _ _ _ h => h) (Or.inl ⟨by rfl, by intro w' hSw; (try dsimp only at hSw); obtain ⟨s0, s1, s3, s6, s13, s76⟩ := hSw; go_simp⟩) (by assumption) ?_; (try simp only [List.setIfInBounds_toArray, List.set_cons_zero, List.set_cons_succ])
    refine take17 (i := 16) (d := 64) (v := .pointer (some ⟨g, 47, none⟩)) rfl rfl (by kernel_rfl) (by kernel_rfl) (by kernel_rfl) (fun _ _ _ h => h) (Or.inl ⟨by rfl, by intro w' hSw; (try dsimp only at hSw); go_simp⟩) (by assumption) ?_; (try simp only [List.setIfInBounds_toArray, List.set_cons_zero, List.set_cons_succ])
    refine wpAnyH_ready (rs := [17]) (by kernel_rfl) (by simp) ?_
    refine AllReadyH.cons rfl (fun K hK => ?_) AllReadyH.nil
    have x7 : w7.cell? ⟨g, 47, none⟩ = some c47 := (cell_of (unhide HX7) 47).trans (by simpa using unhide C747)
    have g7 : w7.frozen? ⟨g, 47, none⟩ = false := frozen_of (unhide HX7) 47
    go_simp
    have H8 : Hid ((w7.setCell ⟨g, 47, none⟩ (.int .i64 0)).heap[b]? = some (.cells N.toArray 91)) := hide ((touch_set w7 g 47 (.int .i64 0)).keep (unhide H7) (fun e => by have := unhide HB; omega))
    have HX8 : Hid ((w7.setCell ⟨g, 47, none⟩ (.int .i64 0)).heap[g]? = some (.cells M8.toArray 65)) := hide ((heap_set (unhide HX7) 47 _).trans (by rw [unhide HM8, List.setIfInBounds_toArray]))
    have T8 := hide (touch_in (unhide T7) (touch_set w7 g 47 (.int .i64 0)) (unhide HG))
    refine hK.out _ _ (unhide SB _ (unhide H8)) (fun hHeld => ?_)
    clear hK K x7 g7
    generalize w7.setCell ⟨g, 47, none⟩ (.int .i64 0) = w8 at *
    (try simp only [Act.put, List.setIfInBounds_toArray, List.set_cons_zero, List.set_cons_succ])
    refine take17 (i := 18) (d := 65) (v := .pointer (some ⟨g, 54, none⟩)) rfl rfl (by kernel_rfl) (by kernel_rfl) (by kernel_rfl) (fun _ _ _ h => h) (Or.inl ⟨by rfl, by intro w' hSw; (try dsimp only at hSw); go_simp⟩) (by assumption) ?_; (try simp only [List.setIfInBounds_toArray, List.set_cons_zero, List.set_cons_succ])
    refine wpAnyH_ready (rs := [19]) (by kernel_rfl) (by simp) ?_
    refine AllReadyH.cons rfl (fun K hK => ?_) AllReadyH.nil
    have x8 : w8.cell? ⟨g, 54, none⟩ = some c54 := (cell_of (unhide HX8) 54).trans (by simpa using unhide C854)
    have g8 : w8.frozen? ⟨g, 54, none⟩ = false := frozen_of (unhide HX8) 54
    go_simp
    have H9 : Hid ((w8.setCell ⟨g, 54, none⟩ (.int .i64 0)).heap[b]? = some (.cells N.toArray 91)) := hide ((touch_set w8 g 54 (.int .i64 0)).keep (unhide H8) (fun e => by have := unhide HB; omega))
    have HX9 : Hid ((w8.setCell ⟨g, 54, none⟩ (.int .i64 0)).heap[g]? = some (.cells M9.toArray 65)) := hide ((heap_set (unhide HX8) 54 _).trans (by rw [unhide HM9, List.setIfInBounds_toArray]))
    have T9 := hide (touch_in (unhide T8) (touch_set w8 g 54 (.int .i64 0)) (unhide HG))
    refine hK.out _ _ (unhide SB _ (unhide H9)) (fun hHeld => ?_)
    clear hK K x8 g8
    generalize w8.setCell ⟨g, 54, none⟩ (.int .i64 0) = w9 at *
    (try simp only [Act.put, List.setIfInBounds_toArray, List.set_cons_zero, List.set_cons_succ])
    refine take17 (i := 20) (d := 66) (v := .pointer (some ⟨g, 52, none⟩)) rfl rfl (by kernel_rfl) (by kernel_rfl) (by kernel_rfl) (fun _ _ _ h => h) (Or.inl ⟨by rfl, by intro w' hSw; (try dsimp only at hSw); go_simp⟩) (by assumption) ?_; (try simp only [List.setIfInBounds_toArray, List.set_cons_zero, List.set_cons_succ])
    refine wpAnyH_ready (rs := [21]) (by kernel_rfl) (by simp) ?_
    refine AllReadyH.cons rfl (fun K hK => ?_) AllReadyH.nil
    have x9 : w9.cell? ⟨g, 52, none⟩ = some c52 := (cell_of (unhide HX9) 52).trans (by simpa using unhide C952)
    have g9 : w9.frozen? ⟨g, 52, none⟩ = false := frozen_of (unhide HX9) 52
    go_simp
    have H10 : Hid ((w9.setCell ⟨g, 52, none⟩ (.int .i64 0)).heap[b]? = some (.cells N.toArray 91)) := hide ((touch_set w9 g 52 (.int .i64 0)).keep (unhide H9) (fun e => by have := unhide HB; omega))
    have HX10 : Hid ((w9.setCell ⟨g, 52, none⟩ (.int .i64 0)).heap[g]? = some (.cells M10.toArray 65)) := hide ((heap_set (unhide HX9) 52 _).trans (by rw [unhide HM10, List.setIfInBounds_toArray]))
    have T10 := hide (touch_in (unhide T9) (touch_set w9 g 52 (.int .i64 0)) (unhide HG))
    refine hK.out _ _ (unhide SB _ (unhide H10)) (fun hHeld => ?_)
    clear hK K x9 g9
    generalize w9.setCell ⟨g, 52, none⟩ (.int .i64 0) = w10 at *
    (try simp only [Act.put, List.setIfInBounds_toArray, List.set_cons_zero, List.set_cons_succ])
    refine take17 (i := 22) (d := 67) (v := .pointer (some ⟨g, 48, none⟩)) rfl rfl (by kernel_rfl) (by kernel_rfl) (by kernel_rfl) (fun _ _ _ h => h) (Or.inl ⟨by rfl, by intro w' hSw; (try dsimp only at hSw); go_simp⟩) (by assumption) ?_; (try simp only [List.setIfInBounds_toArray, List.set_cons_zero, List.set_cons_succ])
    refine wpAnyH_ready (rs := [23]) (by kernel_rfl) (by simp) ?_
    refine AllReadyH.cons rfl (fun K hK => ?_) AllReadyH.nil
    have x10 : w10.cell? ⟨g, 48, none⟩ = some c48 := (cell_of (unhide HX10) 48).trans (by simpa using unhide C1048)
    have g10 : w10.frozen? ⟨g, 48, none⟩ = false := frozen_of (unhide HX10) 48
    go_simp
    have H11 : Hid ((w10.setCell ⟨g, 48, none⟩ (.int .i64 0)).heap[b]? = some (.cells N.toArray 91)) := hide ((touch_set w10 g 48 (.int .i64 0)).keep (unhide H10) (fun e => by have := unhide HB; omega))
    have HX11 : Hid ((w10.setCell ⟨g, 48, none⟩ (.int .i64 0)).heap[g]? = some (.cells M11.toArray 65)) := hide ((heap_set (unhide HX10) 48 _).trans (by rw [unhide HM11, List.setIfInBounds_toArray]))
    have T11 := hide (touch_in (unhide T10) (touch_set w10 g 48 (.int .i64 0)) (unhide HG))
    refine hK.out _ _ (unhide SB _ (unhide H11)) (fun hHeld => ?_)
    clear hK K x10 g10
    generalize w10.setCell ⟨g, 48, none⟩ (.int .i64 0) = w11 at *
    (try simp only [Act.put, List.setIfInBounds_toArray, List.set_cons_zero, List.set_cons_succ])
    refine wpAnyH_done (by kernel_rfl) ?_ _
    clear hHeld H7 HX7 T7 H8 HX8 T8 H9 HX9 T9 H10 HX10 T10
    go_upto_region 4 with fail
    have HI11 : Hid ((Try.prog.info? 65).map (·.size) = some M11.length) := hide (by rw [unhide HL11]; exact info_ms)
    have R11 : Hid (w11.rangeAt g 0 M11) := hide (range_of (unhide HX11) (fun j v hj => by rw [Nat.zero_add]; exact hj))
    obtain ⟨D, hD⟩ : ∃ D, D = reqD M11 f := ⟨_, rfl⟩
    have HDL : D.length = 61 := by rw [hD]; exact rq_len (unhide HL11)
    have HDI : Hid ((Try.prog.info? 75).map (·.size) = some D.length) := hide (by rw [HDL]; exact info_rq)
    have HD1 : Hid (D.toArray.all (·.oneCell') = true) := hide (by rw [hD]; exact rq_one (unhide HO11))
    obtain ⟨Z, hZ⟩ : ∃ Z, Z = (lay N.toArray 14 D).toList := ⟨_, rfl⟩
    have HZ : Hid (lay N.toArray 14 D = Z.toArray) := hide (by rw [hZ])
    have HFit : Hid (14 + D.length ≤ N.toArray.size) := hide (by rw [HDL, List.size_toArray, unhide HL2]; decide)
    have HZL : Hid (Z.length = 113) := hide (by rw [hZ, Array.length_toList, lay_size, List.size_toArray]; exact unhide HL2)
    have HZR : Hid (∀ j v, M11[j]? = some v → Z[14 + j]? = some v) := hide (fun j v hj => by
      have hlt := (List.getElem?_eq_some_iff.1 hj).1
      rw [unhide HL11] at hlt
      rw [hZ, Array.getElem?_toList, lay_at, if_pos (by rw [HDL, List.size_toArray, unhide HL2]; omega), Nat.add_sub_cancel_left, hD, reqD, List.getElem?_append_left (by rw [unhide HL11]; exact hlt)]
      exact hj)
    have HDD := hide hD
    clear hD hZ HDL N0 N1 N2 N3 N6 N13 N76 SB HX11
    go_wp2_with (first | (with_reducible (show wpList _ _ _ (Oper.mk _ (Op.load 65 _) _ _ _ _ :: _) _ _); refine wpList_load_mid rfl 65 _ rfl g 0 rfl M11 _ (unhide R11) Try.underlying65 rfl (unhide HI11) ?_) | (with_reducible (show wpList _ _ _ (Oper.mk _ (Op.build 75 _) _ _ _ _ :: _) _ _); refine build_rq rfl _ _ rfl M11 f rfl rfl (unhide HL11) ?_; rw [← unhide HDD]) | (with_reducible (show wpList _ _ _ (Oper.mk _ (Op.store 75 _ _) _ _ _ _ :: _) _ _); refine store_part 75 91 rfl _ _ rfl b 14 D rfl rfl Z (unhide H11) (unhide HFit) (unhide HDI) (unhide HD1) (unhide HZ) ?_; rintro w12 q1 q2; have H12 := hide q1; have T12 := hide ((unhide T11).trans q2); clear q1 q2))
    have KP := hide (post_any (unhide H12) (unhide HZL) (unhide HZR) (unhide HL11) (all_oneCell_toArray (unhide HO11)) (unhide E44))
    refine (unhide KP).mono ?_
    rintro e w13 ⟨x, rfl, hx, hh, ht⟩
    have FF : Hid (AskP w b (.returned (.slice (some ⟨x, 0, none⟩) 1 1)) w13) := hide ⟨x, M11, rfl, Nat.le_trans (unhide T12).size hx, hh, unhide E0, unhide E1, unhide E2, (unhide T12).trans ht⟩
    clear hx hh ht KP H11 T11 H12 T12 HZ HFit HZL HZR HDI HD1 HDD R11 HI11 HL11 HO11 E0 E1 E2 E44
    go_wp2
    go_returns
    exact unhide FF
end Go.Proofs.Ytbonlonkienhaaa
