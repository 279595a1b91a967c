/-
  wire's writer: others. Conditions: the message as it lies, what was laid so far at most 2^40 bytes.
-/
import Derived.Test.YtblmondkdcpkaaaZ09
import Derived.Test.YtblmondkdcpkaaaZ11

/-
  wire's writer: raft, fetch, fetched, cmd, others. Conditions: the message as it lies, what was laid so far at most 2^40 bytes.
-/
namespace Go.Proofs.Ytblmondkdcpkaaa
open Go.RowKit
set_option linter.unusedVariables false

/-- The first that isn't 0. -/
def fst0 : List Int → Int
  | [] => 0
  | x :: r => if x ≠ 0 then x else fst0 r
theorem fst0_hit {x : Int} {r : List Int} {E : Int} (h : fst0 (x :: r) = E) (hx : x ≠ 0) : E = x := by
  simp only [fst0] at h
  rw [if_pos hx] at h
  exact h.symm
theorem fst0_pass {x : Int} {r : List Int} {E : Int} (h : fst0 (x :: r) = E) (hx : x = 0) : fst0 r = E := by
  simp only [fst0] at h
  rw [if_neg (by omega)] at h
  exact h
theorem fst0_end {E : Int} (h : fst0 [] = E) : E = 0 := h.symm
theorem cnt_no {n : Nat} (h : cntE n ≠ 0) : cntE n = 2 := by
  unfold cntE at *
  split
  · rfl
  · rename_i hn
    rw [if_neg hn] at h
    exact absurd rfl h
theorem cnt_ok {n : Nat} (h : cntE n = 0) : n ≤ 512 := by
  unfold cntE at h
  split at h
  · cases h
  · omega
theorem foldEn_len {w : World} (os : List En) : ∀ (s : Ws), (∀ o ∈ os, EnIn w o) → (os.foldl stepEn s).1.length ≤ s.1.length + os.length * 4116 := by
  induction os with
  | nil => intro s _; simp
  | cons x r ih =>
    intro s h
    have h1 := ih (stepEn s x) (fun o ho => h o (List.mem_cons_of_mem _ ho))
    have h2 := stepEn_len s (h x (List.mem_cons_self ..))
    simp only [List.foldl_cons, List.length_cons]
    omega
theorem foldBa_len {w : World} (os : List Ba) : ∀ (s : Ws), (∀ o ∈ os, BaIn w o) → (os.foldl stepBa s).1.length ≤ s.1.length + os.length * 4116 := by
  induction os with
  | nil => intro s _; simp
  | cons x r ih =>
    intro s h
    have h1 := ih (stepBa s x) (fun o ho => h o (List.mem_cons_of_mem _ ho))
    have h2 := stepBa_len s (h x (List.mem_cons_self ..))
    simp only [List.foldl_cons, List.length_cons]
    omega
theorem foldAb_len {w : World} (os : List Ab) : ∀ (s : Ws), (∀ o ∈ os, AbIn w o) → (os.foldl stepAb s).1.length ≤ s.1.length + os.length * 4116 := by
  induction os with
  | nil => intro s _; simp
  | cons x r ih =>
    intro s h
    have h1 := ih (stepAb s x) (fun o ho => h o (List.mem_cons_of_mem _ ho))
    have h2 := stepAb_len s (h x (List.mem_cons_self ..))
    simp only [List.foldl_cons, List.length_cons]
    omega
section
variable {w0 w : World} {N : Nat → Prop} {b : Nat} {s : Ws}
set_option maxHeartbeats 16000000 in
theorem raft_w {r1 r2 r3 r4 r5 r6 r7 : Int} {rj : Bool} {en : List En} {ea : Option Addr} {ec : Nat} {sn : List Nat} {sa : Option Addr} {sc : Nat} {E : Int} {s1 s2 s3 s4 : Ws} (h : Wq w0 N w b s) (hf : ∀ x ∈ [r1, r2, r3, r4, r5, r6, r7], I64 x) (hen : RowsAt cellsEn 2 w0 ea en) (hin : ∀ o ∈ en, EnIn w0 o) (hm : en.length ≤ 140737488355328) (hsn : LAt w0 sa sn) (hsc : sa = none → sc = 0) (hE : fst0 [cntE en.length] = E) (e1 : wX s (encL [r1, r2, r3, r4, r5, r6, r7]) = s1) (e2 : wX s1 [rj.toNat] = s2) (e3 : en.foldl stepEn (wX s2 (enc en.length)) = s3) (e4 : wB s3 sn = s4) (hl : s.1.length ≤ 1099511627776) :
    Calls Try.prog 42 #[.agg #[.pointer (some ⟨b, 0, none⟩)], .agg #[.int .i64 r1, .int .i64 r2, .int .i64 r3, .int .i64 r4, .int .i64 r5, .int .i64 r6, .int .i64 r7, .bool rj, .slice ea en.length ec, .slice sa sn.length sc]] w fun e w' => WP w0 N w b E s4 e w' := by
  have hb0 := ((Below.refl w.heap.size w).alloc (Nat.le_refl _) (.cells #[.pointer (some ⟨b, 0, none⟩)] 77)).alloc (by simp) (.cells #[.int .i64 r1, .int .i64 r2, .int .i64 r3, .int .i64 r4, .int .i64 r5, .int .i64 r6, .int .i64 r7, .bool rj, .slice ea en.length ec, .slice sa sn.length sc] 26)
  have Q0 := hide (h.grow hb0)
  have HX := hide (heap_old (.cells #[.int .i64 r1, .int .i64 r2, .int .i64 r3, .int .i64 r4, .int .i64 r5, .int .i64 r6, .int .i64 r7, .bool rj, .slice ea en.length ec, .slice sa sn.length sc] 26) (heap_new w (.cells #[.pointer (some ⟨b, 0, none⟩)] 77)))
  have HB := hide (heap_new (w.alloc (.cells #[.pointer (some ⟨b, 0, none⟩)] 77)) (.cells #[.int .i64 r1, .int .i64 r2, .int .i64 r3, .int .i64 r4, .int .i64 r5, .int .i64 r6, .int .i64 r7, .bool rj, .slice ea en.length ec, .slice sa sn.length sc] 26))
  have hsz : (w.alloc (.cells #[.pointer (some ⟨b, 0, none⟩)] 77)).heap.size = w.heap.size + 1 := by simp
  rw [hsz] at HB
  have HN := hide h.old
  have HL := hide h.low
  have HB0 := hide hb0
  have HE0 := hide hE
  have hmf : ∀ (fn : Fn) (first cap : Array Value) (w : World), (Instr.makeFunc fn first cap).run Try.prog w = .ok (.func fn first cap) w := fun _ _ _ _ => rfl
  have E1 := hide e1
  have E2 := hide e2
  have E3 := hide e3
  have E4 := hide e4
  have HF := hide hf
  have HR := hide hen
  have HIN := hide hin
  have HSN := hide hsn
  clear h hb0 hsz hE e1 e2 e3 e4 hf hen hin hsn
  go_enter Try.func42, Try.ntmps42
  go_upto_region 1 with fail
  generalize (w.alloc (.cells #[.pointer (some ⟨b, 0, none⟩)] 77)).alloc (.cells #[.int .i64 r1, .int .i64 r2, .int .i64 r3, .int .i64 r4, .int .i64 r5, .int .i64 r6, .int .i64 r7, .bool rj, .slice ea en.length ec, .slice sa sn.length sc] 26) = W1 at *
  have T0 : Hid (Touch (Off (Gr N w W1)) W1 W1) := hide (Touch.refl _ _)
  have l0 := hl
  have z0 := cell_of (Gr.keep (unhide T0) (unhide HX) (Nat.le_refl _)) 0
  have y0 := cell_of (Gr.keep (unhide T0) (unhide HB) (by omega)) 0
  have y1 := cell_of (Gr.keep (unhide T0) (unhide HB) (by omega)) 1
  have y2 := cell_of (Gr.keep (unhide T0) (unhide HB) (by omega)) 2
  have y3 := cell_of (Gr.keep (unhide T0) (unhide HB) (by omega)) 3
  have y4 := cell_of (Gr.keep (unhide T0) (unhide HB) (by omega)) 4
  have y5 := cell_of (Gr.keep (unhide T0) (unhide HB) (by omega)) 5
  have y6 := cell_of (Gr.keep (unhide T0) (unhide HB) (by omega)) 6
  simp at z0 y0 y1 y2 y3 y4 y5 y6
  have K := wints_lit [r1, r2, r3, r4, r5, r6, r7] (vs := #[.int .i64 r1, .int .i64 r2, .int .i64 r3, .int .i64 r4, .int .i64 r5, .int .i64 r6, .int .i64 r7]) rfl (unhide Q0) (unhide HF) (by simp) (by omega)
  rw [unhide E1] at K
  have HK := hide K
  have l1 : s1.1.length ≤ s.1.length + 100 := by
    rw [← unhide E1]
    have := wX_len s (encL [r1, r2, r3, r4, r5, r6, r7])
    have h2 := encL_len [r1, r2, r3, r4, r5, r6, r7] (unhide HF)
    simp only [List.length_cons, List.length_nil] at h2
    omega
  clear K
  go_wp2_with fail
  refine (unhide HK).mono ?_
  rintro e w2 ⟨rfl, q, t⟩
  have Q1 := hide q
  have T1 := hide ((unhide T0).trans t)
  clear q t HK z0 y0 y1 y2 y3 y4 y5 y6
  have z0 := cell_of (Gr.keep (unhide T1) (unhide HX) (Nat.le_refl _)) 0
  have y7 := cell_of (Gr.keep (unhide T1) (unhide HB) (by omega)) 7
  simp at z0 y7
  have K := flag_q rj (unhide Q1) (by omega)
  rw [unhide E2] at K
  have HK := hide K
  have l2 : s2.1.length ≤ s1.1.length + 1 := by
    rw [← unhide E2]
    have := wX_len s1 [rj.toNat]
    simp only [List.length_cons, List.length_nil] at this
    omega
  clear K
  go_wp2_with fail
  refine (unhide HK).mono ?_
  rintro e w3 ⟨rfl, q, t⟩
  have Q2 := hide q
  have T2 := hide ((unhide T1).trans t)
  clear q t HK z0 y7
  have z0 := cell_of (Gr.keep (unhide T2) (unhide HX) (Nat.le_refl _)) 0
  have y8 := cell_of (Gr.keep (unhide T2) (unhide HB) (by omega)) 8
  simp at z0 y8
  by_cases hz : cntE en.length ≠ 0
  · have HEE := hide (fst0_hit (unhide HE0) hz)
    have HQ : Hid (E ≠ 0) := hide (by rw [unhide HEE]; exact hz)
    have K := (layEn_long (cap := ec) (unhide Q2) (unhide HR) (unhide HIN) hm hz (by omega)).mono (R' := fun e w' => e = gone (cntE en.length) ∧ Touch (Off (Gr N w W1)) w3 w') (fun e w' h => ⟨by rw [cnt_no hz]; exact h.1, h.2⟩)
    rw [← unhide HEE] at K
    have HK := hide K
    clear K hz
    go_wp2_with fail
    refine (unhide HK).mono ?_
    rintro e wz ⟨rfl, t⟩
    have TF := hide (Off.leave (unhide HB0) ((unhide T2).trans t))
    clear t
    go_wp2
    exact ⟨rfl, unhide TF, fun h => absurd h (unhide HQ), fun _ => rfl⟩
  have hz2 : cntE en.length = 0 := by omega
  have HE1 := hide (fst0_pass (unhide HE0) hz2)
  clear hz
  have hc5 := cnt_ok hz2
  have HK := hide (layEn_any (cap := ec) (unhide Q2) (unhide HR) (unhide HIN) hm hz2 (unhide E3) (by omega))
  have l3 : s3.1.length ≤ s2.1.length + 3000000 := by
    rw [← unhide E3]
    have h1 := foldEn_len en (wX s2 (enc en.length)) (unhide HIN)
    have h2 := wX_len s2 (enc en.length)
    have h3 := enc_len10 (n := en.length) (by omega)
    omega
  go_wp2_with fail
  refine (unhide HK).mono ?_
  rintro e w4 ⟨rfl, q, t⟩
  have Q3 := hide q
  have T3 := hide ((unhide T2).trans t)
  clear q t HK z0 y8 hz2 hc5
  have z0 := cell_of (Gr.keep (unhide T3) (unhide HX) (Nat.le_refl _)) 0
  have y9 := cell_of (Gr.keep (unhide T3) (unhide HB) (by omega)) 9
  simp at z0 y9
  have LD := hide ((unhide Q3).lat (unhide HSN))
  have K := bytes_q sa sc sn (unhide Q3) (unhide LD).1 hsc (unhide LD).2 (by omega)
  rw [unhide E4] at K
  have HK := hide K
  have l4 : s4.1.length ≤ s3.1.length + 4106 := by
    rw [← unhide E4]
    exact wB_len _ _
  clear K
  go_wp2_with fail
  refine (unhide HK).mono ?_
  rintro e w5 ⟨rfl, q, t⟩
  have Q4 := hide q
  have T4 := hide ((unhide T3).trans t)
  clear q t HK z0 y9
  clear LD
  have FF := hide (Wq.leave (unhide Q4) (unhide HB0) (unhide HN) (unhide HL) (unhide T4))
  have HEz := hide (fst0_end (unhide HE1))
  go_wp2
  go_returns
  exact ⟨(unhide FF).2, fun _ => ⟨rfl, (unhide FF).1⟩, fun h => absurd (unhide HEz) h⟩
set_option maxHeartbeats 16000000 in
theorem fetch_w {f1 f2 f3 f4 f5 : Int} {E : Int} {s1 : Ws} (h : Wq w0 N w b s) (hf : ∀ x ∈ [f1, f2, f3, f4, f5], I64 x) (hE : fst0 [] = E) (e1 : wX s (encL [f1, f2, f3, f4, f5]) = s1) (hl : s.1.length ≤ 1099511627776) :
    Calls Try.prog 43 #[.agg #[.pointer (some ⟨b, 0, none⟩)], .agg #[.int .i64 f1, .int .i64 f2, .int .i64 f3, .int .i64 f4, .int .i64 f5]] w fun e w' => WP w0 N w b E s1 e w' := by
  have hb0 := ((Below.refl w.heap.size w).alloc (Nat.le_refl _) (.cells #[.pointer (some ⟨b, 0, none⟩)] 77)).alloc (by simp) (.cells #[.int .i64 f1, .int .i64 f2, .int .i64 f3, .int .i64 f4, .int .i64 f5] 28)
  have Q0 := hide (h.grow hb0)
  have HX := hide (heap_old (.cells #[.int .i64 f1, .int .i64 f2, .int .i64 f3, .int .i64 f4, .int .i64 f5] 28) (heap_new w (.cells #[.pointer (some ⟨b, 0, none⟩)] 77)))
  have HB := hide (heap_new (w.alloc (.cells #[.pointer (some ⟨b, 0, none⟩)] 77)) (.cells #[.int .i64 f1, .int .i64 f2, .int .i64 f3, .int .i64 f4, .int .i64 f5] 28))
  have hsz : (w.alloc (.cells #[.pointer (some ⟨b, 0, none⟩)] 77)).heap.size = w.heap.size + 1 := by simp
  rw [hsz] at HB
  have HN := hide h.old
  have HL := hide h.low
  have HB0 := hide hb0
  have HE0 := hide hE
  have hmf : ∀ (fn : Fn) (first cap : Array Value) (w : World), (Instr.makeFunc fn first cap).run Try.prog w = .ok (.func fn first cap) w := fun _ _ _ _ => rfl
  have E1 := hide e1
  have HF := hide hf
  clear h hb0 hsz hE e1 hf
  go_enter Try.func43, Try.ntmps43
  go_upto_region 1 with fail
  generalize (w.alloc (.cells #[.pointer (some ⟨b, 0, none⟩)] 77)).alloc (.cells #[.int .i64 f1, .int .i64 f2, .int .i64 f3, .int .i64 f4, .int .i64 f5] 28) = W1 at *
  have T0 : Hid (Touch (Off (Gr N w W1)) W1 W1) := hide (Touch.refl _ _)
  have l0 := hl
  have z0 := cell_of (Gr.keep (unhide T0) (unhide HX) (Nat.le_refl _)) 0
  have y0 := cell_of (Gr.keep (unhide T0) (unhide HB) (by omega)) 0
  have y1 := cell_of (Gr.keep (unhide T0) (unhide HB) (by omega)) 1
  have y2 := cell_of (Gr.keep (unhide T0) (unhide HB) (by omega)) 2
  have y3 := cell_of (Gr.keep (unhide T0) (unhide HB) (by omega)) 3
  have y4 := cell_of (Gr.keep (unhide T0) (unhide HB) (by omega)) 4
  simp at z0 y0 y1 y2 y3 y4
  have K := wints_lit [f1, f2, f3, f4, f5] (vs := #[.int .i64 f1, .int .i64 f2, .int .i64 f3, .int .i64 f4, .int .i64 f5]) rfl (unhide Q0) (unhide HF) (by simp) (by omega)
  rw [unhide E1] at K
  have HK := hide K
  have l1 : s1.1.length ≤ s.1.length + 100 := by
    rw [← unhide E1]
    have := wX_len s (encL [f1, f2, f3, f4, f5])
    have h2 := encL_len [f1, f2, f3, f4, f5] (unhide HF)
    simp only [List.length_cons, List.length_nil] at h2
    omega
  clear K
  go_wp2_with fail
  refine (unhide HK).mono ?_
  rintro e w2 ⟨rfl, q, t⟩
  have Q1 := hide q
  have T1 := hide ((unhide T0).trans t)
  clear q t HK z0 y0 y1 y2 y3 y4
  have FF := hide (Wq.leave (unhide Q1) (unhide HB0) (unhide HN) (unhide HL) (unhide T1))
  have HEz := hide (fst0_end (unhide HE0))
  go_wp2
  go_returns
  exact ⟨(unhide FF).2, fun _ => ⟨rfl, (unhide FF).1⟩, fun h => absurd (unhide HEz) h⟩
set_option maxHeartbeats 16000000 in
theorem fetched_w {g1 g2 g3 g4 g5 g6 g7 g8 : Int} {gd : Bool} {gb : List Ba} {ga : Option Addr} {gc : Nat} {E : Int} {s1 s2 s3 : Ws} (h : Wq w0 N w b s) (hf : ∀ x ∈ [g1, g2, g3, g4, g5, g6, g7, g8], I64 x) (hgb : RowsAt cellsBa 9 w0 ga gb) (hin : ∀ o ∈ gb, BaIn w0 o) (hm : gb.length ≤ 140737488355328) (hE : fst0 [cntE gb.length, errs gb] = E) (e1 : wX s (encL [g1, g2, g3, g4, g5, g6, g7, g8]) = s1) (e2 : wX s1 [gd.toNat] = s2) (e3 : gb.foldl stepBa (wX s2 (enc gb.length)) = s3) (hl : s.1.length ≤ 1099511627776) :
    Calls Try.prog 44 #[.agg #[.pointer (some ⟨b, 0, none⟩)], .agg #[.int .i64 g1, .int .i64 g2, .int .i64 g3, .int .i64 g4, .bool gd, .int .i64 g5, .int .i64 g6, .int .i64 g7, .int .i64 g8, .slice ga gb.length gc]] w fun e w' => WP w0 N w b E s3 e w' := by
  have hb0 := ((Below.refl w.heap.size w).alloc (Nat.le_refl _) (.cells #[.pointer (some ⟨b, 0, none⟩)] 77)).alloc (by simp) (.cells #[.int .i64 g1, .int .i64 g2, .int .i64 g3, .int .i64 g4, .bool gd, .int .i64 g5, .int .i64 g6, .int .i64 g7, .int .i64 g8, .slice ga gb.length gc] 31)
  have Q0 := hide (h.grow hb0)
  have HX := hide (heap_old (.cells #[.int .i64 g1, .int .i64 g2, .int .i64 g3, .int .i64 g4, .bool gd, .int .i64 g5, .int .i64 g6, .int .i64 g7, .int .i64 g8, .slice ga gb.length gc] 31) (heap_new w (.cells #[.pointer (some ⟨b, 0, none⟩)] 77)))
  have HB := hide (heap_new (w.alloc (.cells #[.pointer (some ⟨b, 0, none⟩)] 77)) (.cells #[.int .i64 g1, .int .i64 g2, .int .i64 g3, .int .i64 g4, .bool gd, .int .i64 g5, .int .i64 g6, .int .i64 g7, .int .i64 g8, .slice ga gb.length gc] 31))
  have hsz : (w.alloc (.cells #[.pointer (some ⟨b, 0, none⟩)] 77)).heap.size = w.heap.size + 1 := by simp
  rw [hsz] at HB
  have HN := hide h.old
  have HL := hide h.low
  have HB0 := hide hb0
  have HE0 := hide hE
  have hmf : ∀ (fn : Fn) (first cap : Array Value) (w : World), (Instr.makeFunc fn first cap).run Try.prog w = .ok (.func fn first cap) w := fun _ _ _ _ => rfl
  have E1 := hide e1
  have E2 := hide e2
  have E3 := hide e3
  have HF := hide hf
  have HR := hide hgb
  have HIN := hide hin
  clear h hb0 hsz hE e1 e2 e3 hf hgb hin
  go_enter Try.func44, Try.ntmps44
  go_upto_region 1 with fail
  generalize (w.alloc (.cells #[.pointer (some ⟨b, 0, none⟩)] 77)).alloc (.cells #[.int .i64 g1, .int .i64 g2, .int .i64 g3, .int .i64 g4, .bool gd, .int .i64 g5, .int .i64 g6, .int .i64 g7, .int .i64 g8, .slice ga gb.length gc] 31) = W1 at *
  have T0 : Hid (Touch (Off (Gr N w W1)) W1 W1) := hide (Touch.refl _ _)
  have l0 := hl
  have z0 := cell_of (Gr.keep (unhide T0) (unhide HX) (Nat.le_refl _)) 0
  have y0 := cell_of (Gr.keep (unhide T0) (unhide HB) (by omega)) 0
  have y1 := cell_of (Gr.keep (unhide T0) (unhide HB) (by omega)) 1
  have y2 := cell_of (Gr.keep (unhide T0) (unhide HB) (by omega)) 2
  have y3 := cell_of (Gr.keep (unhide T0) (unhide HB) (by omega)) 3
  have y5 := cell_of (Gr.keep (unhide T0) (unhide HB) (by omega)) 5
  have y6 := cell_of (Gr.keep (unhide T0) (unhide HB) (by omega)) 6
  have y7 := cell_of (Gr.keep (unhide T0) (unhide HB) (by omega)) 7
  have y8 := cell_of (Gr.keep (unhide T0) (unhide HB) (by omega)) 8
  simp at z0 y0 y1 y2 y3 y5 y6 y7 y8
  have K := wints_lit [g1, g2, g3, g4, g5, g6, g7, g8] (vs := #[.int .i64 g1, .int .i64 g2, .int .i64 g3, .int .i64 g4, .int .i64 g5, .int .i64 g6, .int .i64 g7, .int .i64 g8]) rfl (unhide Q0) (unhide HF) (by simp) (by omega)
  rw [unhide E1] at K
  have HK := hide K
  have l1 : s1.1.length ≤ s.1.length + 100 := by
    rw [← unhide E1]
    have := wX_len s (encL [g1, g2, g3, g4, g5, g6, g7, g8])
    have h2 := encL_len [g1, g2, g3, g4, g5, g6, g7, g8] (unhide HF)
    simp only [List.length_cons, List.length_nil] at h2
    omega
  clear K
  go_wp2_with fail
  refine (unhide HK).mono ?_
  rintro e w2 ⟨rfl, q, t⟩
  have Q1 := hide q
  have T1 := hide ((unhide T0).trans t)
  clear q t HK z0 y0 y1 y2 y3 y5 y6 y7 y8
  have z0 := cell_of (Gr.keep (unhide T1) (unhide HX) (Nat.le_refl _)) 0
  have y4 := cell_of (Gr.keep (unhide T1) (unhide HB) (by omega)) 4
  simp at z0 y4
  have K := flag_q gd (unhide Q1) (by omega)
  rw [unhide E2] at K
  have HK := hide K
  have l2 : s2.1.length ≤ s1.1.length + 1 := by
    rw [← unhide E2]
    have := wX_len s1 [gd.toNat]
    simp only [List.length_cons, List.length_nil] at this
    omega
  clear K
  go_wp2_with fail
  refine (unhide HK).mono ?_
  rintro e w3 ⟨rfl, q, t⟩
  have Q2 := hide q
  have T2 := hide ((unhide T1).trans t)
  clear q t HK z0 y4
  have z0 := cell_of (Gr.keep (unhide T2) (unhide HX) (Nat.le_refl _)) 0
  have y9 := cell_of (Gr.keep (unhide T2) (unhide HB) (by omega)) 9
  simp at z0 y9
  by_cases hz : cntE gb.length ≠ 0
  · have HEE := hide (fst0_hit (unhide HE0) hz)
    have HQ : Hid (E ≠ 0) := hide (by rw [unhide HEE]; exact hz)
    have K := (layBa_long (cap := gc) (unhide Q2) (unhide HR) (unhide HIN) hm hz (by omega)).mono (R' := fun e w' => e = gone (cntE gb.length) ∧ Touch (Off (Gr N w W1)) w3 w') (fun e w' h => ⟨by rw [cnt_no hz]; exact h.1, h.2⟩)
    rw [← unhide HEE] at K
    have HK := hide K
    clear K hz
    go_wp2_with fail
    refine (unhide HK).mono ?_
    rintro e wz ⟨rfl, t⟩
    have TF := hide (Off.leave (unhide HB0) ((unhide T2).trans t))
    clear t
    go_wp2
    exact ⟨rfl, unhide TF, fun h => absurd h (unhide HQ), fun _ => rfl⟩
  have hz2 : cntE gb.length = 0 := by omega
  have HE1 := hide (fst0_pass (unhide HE0) hz2)
  clear hz
  have hc5 := cnt_ok hz2
  have KA := hide (layBa_any (cap := gc) (unhide Q2) (unhide HR) (unhide HIN) hm hz2 rfl (unhide E3) (by omega))
  clear hz2
  by_cases hz : errs gb ≠ 0
  · have HEE := hide (fst0_hit (unhide HE1) hz)
    have HQ : Hid (E ≠ 0) := hide (by rw [unhide HEE]; exact hz)
    have K := (unhide KA).mono (R' := fun e w' => e = gone (errs gb) ∧ Touch (Off (Gr N w W1)) w3 w') (fun e w' h => ⟨h.2.2 hz, h.1⟩)
    rw [← unhide HEE] at K
    have HK := hide K
    clear K hz
    go_wp2_with fail
    refine (unhide HK).mono ?_
    rintro e wz ⟨rfl, t⟩
    have TF := hide (Off.leave (unhide HB0) ((unhide T2).trans t))
    clear t
    go_wp2
    exact ⟨rfl, unhide TF, fun h => absurd h (unhide HQ), fun _ => rfl⟩
  have hz2 : errs gb = 0 := by omega
  have HE2 := hide (fst0_pass (unhide HE1) hz2)
  clear hz
  have HK := hide ((unhide KA).mono (R' := fun e w' => WD w0 (Gr N w W1) w3 b s3 e w') (fun e w' h => ⟨(h.2.1 hz2).1, (h.2.1 hz2).2, h.1⟩))
  clear KA
  have l3 : s3.1.length ≤ s2.1.length + 3000000 := by
    rw [← unhide E3]
    have h1 := foldBa_len gb (wX s2 (enc gb.length)) (unhide HIN)
    have h2 := wX_len s2 (enc gb.length)
    have h3 := enc_len10 (n := gb.length) (by omega)
    omega
  go_wp2_with fail
  refine (unhide HK).mono ?_
  rintro e w4 ⟨rfl, q, t⟩
  have Q3 := hide q
  have T3 := hide ((unhide T2).trans t)
  clear q t HK z0 y9 hz2 hc5
  have FF := hide (Wq.leave (unhide Q3) (unhide HB0) (unhide HN) (unhide HL) (unhide T3))
  have HEz := hide (fst0_end (unhide HE2))
  go_wp2
  go_returns
  exact ⟨(unhide FF).2, fun _ => ⟨rfl, (unhide FF).1⟩, fun h => absurd (unhide HEz) h⟩
end
end Go.Proofs.Ytblmondkdcpkaaa


/-
  A message as it lies; wire's writer: batch and cmd told in one form; others. Conditions: the message as it lies, what was laid so far at most 2^40 bytes.
-/
namespace Go.Proofs.Ytblmondkdcpkaaa
open Go.RowKit
set_option linter.unusedVariables false

/-- A message, and where its lists lie. -/
structure Mg where
  kd : Int
  fr : Int
  tt : Int
  co : Int
  er : Int
  r1 : Int
  r2 : Int
  r3 : Int
  r4 : Int
  r5 : Int
  r6 : Int
  r7 : Int
  rj : Bool
  en : List En
  ea : Option Addr
  ec : Nat
  sn : List Nat
  sa : Option Addr
  sc : Nat
  f1 : Int
  f2 : Int
  f3 : Int
  f4 : Int
  f5 : Int
  g1 : Int
  g2 : Int
  g3 : Int
  g4 : Int
  gd : Bool
  g5 : Int
  g6 : Int
  g7 : Int
  g8 : Int
  gb : List Ba
  ga : Option Addr
  gc : Nat
  c : Cm
  B : Bt
  ba : Option Addr
  bc : Nat
  o1 : Int
  o2 : Int
  o3 : Int
  o4 : Int
  pid : Nat
  o5 : Int
  cm : Bool
  o6 : Int
  o7 : Int
  o8 : Int
  ms : List Int
  ma : Option Addr
  mc : Nat
  bs : List Ba
  bsa : Option Addr
  bsc : Nat
  ab : List Ab
  aa : Option Addr
  ac : Nat
  o9 : Int
def mgL (m : Mg) : List Value := [.int .i64 m.kd, .int .i64 m.fr, .int .i64 m.tt, .int .i64 m.co, .int .i64 m.er, .int .i64 m.r1, .int .i64 m.r2, .int .i64 m.r3, .int .i64 m.r4, .int .i64 m.r5, .int .i64 m.r6, .int .i64 m.r7, .bool m.rj, .slice m.ea m.en.length m.ec, .slice m.sa m.sn.length m.sc, .int .i64 m.f1, .int .i64 m.f2, .int .i64 m.f3, .int .i64 m.f4, .int .i64 m.f5, .int .i64 m.g1, .int .i64 m.g2, .int .i64 m.g3, .int .i64 m.g4, .bool m.gd, .int .i64 m.g5, .int .i64 m.g6, .int .i64 m.g7, .int .i64 m.g8, .slice m.ga m.gb.length m.gc, .int .i64 m.c.kd, .int .i64 m.c.nd, .int .i64 m.c.pt, .int .i64 m.c.ep, .int .i64 m.c.ve, .slice m.c.a m.c.l.length m.c.k, .int .i64 m.B.base, .int .i64 m.B.epoch, .int .u64 (m.B.pid : Int), .int .i64 m.B.pep, .int .i64 m.B.seq, .bool m.B.txn, .bool m.B.ctl, .bool m.B.com, .slice m.ba m.B.vs.length m.bc, .int .i64 m.o1, .int .i64 m.o2, .int .i64 m.o3, .int .i64 m.o4, .int .u64 (m.pid : Int), .int .i64 m.o5, .bool m.cm, .int .i64 m.o6, .int .i64 m.o7, .int .i64 m.o8, .slice m.ma m.ms.length m.mc, .slice m.bsa m.bs.length m.bsc, .slice m.aa m.ab.length m.ac, .int .i64 m.o9]
structure MgIn (w : World) (m : Mg) : Prop where
  hd : ∀ x ∈ [m.kd, m.fr, m.tt, m.co, m.er], I64 x
  rf : ∀ x ∈ [m.r1, m.r2, m.r3, m.r4, m.r5, m.r6, m.r7], I64 x
  en : RowsAt cellsEn 2 w m.ea m.en
  ein : ∀ o ∈ m.en, EnIn w o
  em : m.en.length ≤ 140737488355328
  sn : LAt w m.sa m.sn
  sc : m.sa = none → m.sc = 0
  fe : ∀ x ∈ [m.f1, m.f2, m.f3, m.f4, m.f5], I64 x
  ge : ∀ x ∈ [m.g1, m.g2, m.g3, m.g4, m.g5, m.g6, m.g7, m.g8], I64 x
  gb : RowsAt cellsBa 9 w m.ga m.gb
  gin : ∀ o ∈ m.gb, BaIn w o
  gm : m.gb.length ≤ 140737488355328
  c : CIn w m.c
  cf : CFit m.c
  b : RAt w m.ba m.B.vs
  bf : m.B.Fits
  ot : ∀ x ∈ [m.o1, m.o2, m.o3, m.o4, m.o5, m.o6, m.o7, m.o8, m.o9], I64 x
  pid : m.pid < 18446744073709551616
  ms : IAt w m.ma m.ms
  msf : ∀ x ∈ m.ms, -9223372036854775808 ≤ x ∧ x < 9223372036854775808
  mm : m.ms.length ≤ 140737488355328
  bs : RowsAt cellsBa 9 w m.bsa m.bs
  bin : ∀ o ∈ m.bs, BaIn w o
  bm : m.bs.length ≤ 140737488355328
  ab : RowsAt cellsAb 3 w m.aa m.ab
  ain : ∀ o ∈ m.ab, AbIn w o
  am : m.ab.length ≤ 140737488355328
section
variable {w0 w : World} {N : Nat → Prop} {b : Nat} {s : Ws}
theorem WP.ok {E : Int} {s' : Ws} {e : Ending} {w' : World} (hE : E = 0) (h : WD w0 N w b s' e w') : WP w0 N w b E s' e w' := ⟨h.2.2, fun _ => ⟨h.1, h.2.1⟩, fun h => absurd hE h⟩
theorem WP.no {E : Int} {s' : Ws} {e : Ending} {w' : World} (hE : E ≠ 0) (h : e = gone E ∧ Touch (Off N) w w') : WP w0 N w b E s' e w' := ⟨h.2, fun h => absurd h hE, fun _ => h.1⟩
theorem batch_w {B : Bt} (a : Option Addr) (cap : Nat) (h : Wq w0 N w b s) (hB : RAt w0 a B.vs) (hf : B.Fits) (hl : s.1.length ≤ 35184372088832) :
    Calls Try.prog 63 #[.agg #[.pointer (some ⟨b, 0, none⟩)], bv B a cap] w fun e w' => WP w0 N w b (batE B) (batS s B) e w' := by
  by_cases hz : B.ctl = false ∧ B.vs.length = 0
  · have h1 : batE B = 0 := by unfold batE; rw [if_pos hz]
    have h2 : batS s B = wB s [] := by unfold batS; rw [if_pos hz]
    rw [h2]
    exact (batch_none B a cap h hz.1 hz.2 hl).mono fun _ _ hp => WP.ok h1 hp
  · have h1 : batE B = (chk B : Int) := by unfold batE; rw [if_neg hz]
    have h2 : batS s B = wB s (encB B) := by unfold batS; rw [if_neg hz]
    rw [h1, h2]
    by_cases hc : chk B = 0
    · exact (batch_ok a cap h hz hB hf hc rfl hl).mono fun _ _ hp => WP.ok (by rw [hc]; rfl) hp
    · exact (batch_no a cap h hz hB hf hc rfl hl).mono fun _ _ hp => WP.no (by omega) hp
def cmdE (c : Cm) : Int := if isC c = true then 0 else 1
theorem cenc_any {c : Cm} (hc : CIn w c) (hf : CFit c) : ∃ (L : List Nat), (isC c = true → L = encC c) ∧ Calls Try.prog 64 #[.agg (cmA c)] w fun e w' => EnC w (cmdE c) L e w' := by
  by_cases hC : isC c = true
  · have e : cmdE c = 0 := by unfold cmdE; rw [if_pos hC]
    rw [e]
    exact ⟨encC c, fun _ => rfl, encode_ok hc hf hC⟩
  · have e : cmdE c = 1 := by unfold cmdE; rw [if_neg hC]
    rw [e]
    exact ⟨[], fun h => absurd h hC, encode_bad hc (by simpa using hC)⟩
set_option maxHeartbeats 8000000 in
theorem cmd_w {c : Cm} (h : Wq w0 N w b s) (hc : CIn w0 c) (hf : CFit c) (hl : s.1.length ≤ 35184372088832) :
    Calls Try.prog 45 #[.agg #[.pointer (some ⟨b, 0, none⟩)], .agg (cmA c)] w fun e w' => WP w0 N w b (cmdE c) (wB s (encC c)) e w' := by
  have hb0 := ((Below.refl w.heap.size w).alloc (Nat.le_refl _) (.cells #[.pointer (some ⟨b, 0, none⟩)] 77)).alloc (by simp) (.cells (cmA c) 34)
  have Q0 := hide (h.grow hb0)
  have HX := hide (heap_old (.cells (cmA c) 34) (heap_new w (.cells #[.pointer (some ⟨b, 0, none⟩)] 77)))
  have HB := hide (heap_new (w.alloc (.cells #[.pointer (some ⟨b, 0, none⟩)] 77)) (.cells (cmA c) 34))
  have hsz : (w.alloc (.cells #[.pointer (some ⟨b, 0, none⟩)] 77)).heap.size = w.heap.size + 1 := by simp
  rw [hsz] at HB
  have HN := hide h.old
  have HL := hide h.low
  have HB0 := hide hb0
  obtain ⟨L, hL, KE⟩ := cenc_any (w := (w.alloc (.cells #[.pointer (some ⟨b, 0, none⟩)] 77)).alloc (.cells (cmA c) 34)) (hc.later (h.base.trans (hb0.mono h.base.size))) hf
  have HKE := hide KE
  have HLL : Hid (cmdE c = 0 → encC c = L) := hide (fun e => by
    unfold cmdE at e
    split at e
    · rename_i hC; exact (hL hC).symm
    · cases e)
  clear h hb0 hsz hc hf hL KE
  generalize cmdE c = E at *
  generalize encC c = EC at *
  have e6 : cmA c = #[.int .i64 c.kd, .int .i64 c.nd, .int .i64 c.pt, .int .i64 c.ep, .int .i64 c.ve, .slice c.a c.l.length c.k] := rfl
  rw [e6] at HKE HX HB HB0 Q0 ⊢
  go_enter Try.func45, Try.ntmps45
  go_upto_region 1 with fail
  generalize (w.alloc (.cells #[.pointer (some ⟨b, 0, none⟩)] 77)).alloc (.cells #[.int .i64 c.kd, .int .i64 c.nd, .int .i64 c.pt, .int .i64 c.ep, .int .i64 c.ve, .slice c.a c.l.length c.k] 34) = W1 at *
  have y0 := cell_of (unhide HB) 0
  have y1 := cell_of (unhide HB) 1
  have y2 := cell_of (unhide HB) 2
  have y3 := cell_of (unhide HB) 3
  have y4 := cell_of (unhide HB) 4
  have y5 := cell_of (unhide HB) 5
  simp at y0 y1 y2 y3 y4 y5
  go_wp2_with fail
  refine (unhide HKE).mono ?_
  rintro e w2 ⟨vo, rfl, r2, n2, b2⟩
  obtain ⟨va, vc, rfl, vl, _, _, vn, vb⟩ := r2.parts
  have Q2 := hide ((unhide Q0).grow b2)
  have HX2 := hide (below_keep b2 (unhide HX))
  have VL := hide vl
  have NV : Hid (0 < L.length → ∀ x, va = some x → Gr (Gr N w W1) W1 w2 x.block) := hide (fun h0 x hx => by
    obtain ⟨b', o', e', hlt, _⟩ := vl 0 h0
    rw [hx] at e'
    cases e'
    exact .inr ⟨n2 _ (by rw [hx]; rfl), hlt⟩)
  have B2 := hide b2
  clear r2 n2 b2 vl vb y0 y1 y2 y3 y4 y5
  by_cases hE : E = 0
  · have eL := unhide HLL hE
    subst eL
    subst hE
    go_wp2_with fail
    refine (need_any 0 w2).mono ?_
    rintro e w3 ⟨rfl, he, _⟩
    obtain rfl := he rfl
    clear he
    have x0 := cell_of (unhide HX2) 0
    simp at x0
    go_wp2_with fail
    refine (bytes_q va vc EC (unhide Q2) (unhide VL) vn (unhide NV) (by omega)).mono ?_
    rintro e w4 ⟨rfl, q4, t4⟩
    have F1 := Wq.leave q4 (unhide B2) (unhide Q0).old (unhide Q0).low t4
    have FF := hide (Wq.leave F1.1 (unhide HB0) (unhide HN) (unhide HL) F1.2)
    clear q4 t4 F1
    go_wp2
    go_returns
    exact WP.ok rfl ⟨rfl, unhide FF⟩
  · have T2 := hide (Off.leave (N := N) (unhide HB0) (Touch.of_below (unhide B2)))
    have HE := hide hE
    clear hE
    go_wp2_with fail
    refine (need_any E w2).mono ?_
    rintro e w3 ⟨rfl, _, he⟩
    obtain rfl := he (unhide HE)
    clear he
    go_wp2
    exact ⟨rfl, WP.no (unhide HE) ⟨rfl, unhide T2⟩⟩
end
end Go.Proofs.Ytblmondkdcpkaaa


namespace Go.Proofs.Ytblmondkdcpkaaa
open Go.RowKit
set_option linter.unusedVariables false

section
variable {w0 w : World} {N : Nat → Prop} {b : Nat} {s : Ws}
set_option maxHeartbeats 16000000 in
theorem others_w {m : Mg} {E : Int} {s1 s2 s3 s4 s5 s6 s7 : Ws} (h : Wq w0 N w b s) (hm : MgIn w0 m) (hE : fst0 [cntE m.ms.length, batE m.B, cntE m.bs.length, errs m.bs, cntE m.ab.length] = E) (e1 : wX s (encL [m.o1, m.o2, m.o3, m.o4, m.o5, m.o6, m.o7, m.o8, m.o9]) = s1) (e2 : wX s1 (enc m.pid) = s2) (e3 : wX s2 [m.cm.toNat] = s3) (e4 : wX s3 (enc m.ms.length ++ encL m.ms) = s4) (e5 : batS s4 m.B = s5) (e6 : m.bs.foldl stepBa (wX s5 (enc m.bs.length)) = s6) (e7 : m.ab.foldl stepAb (wX s6 (enc m.ab.length)) = s7) (hl : s.1.length ≤ 1099511627776) :
    Calls Try.prog 46 #[.agg #[.pointer (some ⟨b, 0, none⟩)], .agg (mgL m).toArray] w fun e w' => WP w0 N w b E s7 e w' := by
  have HF := hide hm.ot
  have HP := hide hm.pid
  have HMS := hide hm.ms
  have HM := hide hm.msf
  have HBR := hide hm.b
  have HBF := hide hm.bf
  have HBS := hide hm.bs
  have HBI := hide hm.bin
  have HAB := hide hm.ab
  have HAI := hide hm.ain
  have hb0 := ((Below.refl w.heap.size w).alloc (Nat.le_refl _) (.cells #[.pointer (some ⟨b, 0, none⟩)] 77)).alloc (by simp) (.cells (mgL m).toArray 41)
  have Q0 := hide (h.grow hb0)
  have HX := hide (heap_old (.cells (mgL m).toArray 41) (heap_new w (.cells #[.pointer (some ⟨b, 0, none⟩)] 77)))
  have HB := hide (heap_new (w.alloc (.cells #[.pointer (some ⟨b, 0, none⟩)] 77)) (.cells (mgL m).toArray 41))
  have hsz : (w.alloc (.cells #[.pointer (some ⟨b, 0, none⟩)] 77)).heap.size = w.heap.size + 1 := by simp
  rw [hsz] at HB
  have HN := hide h.old
  have HL := hide h.low
  have HB0 := hide hb0
  have HE0 := hide hE
  have hmf : ∀ (fn : Fn) (first cap : Array Value) (w : World), (Instr.makeFunc fn first cap).run Try.prog w = .ok (.func fn first cap) w := fun _ _ _ _ => rfl
  have E1 := hide e1
  have E2 := hide e2
  have E3 := hide e3
  have E4 := hide e4
  have E5 := hide e5
  have E6 := hide e6
  have E7 := hide e7
  have HMI := hide hm
  clear h hb0 hsz hE e1 e2 e3 e4 e5 e6 e7 hm
  go_enter Try.func46, Try.ntmps46
  go_upto_region 1 with fail
  generalize (w.alloc (.cells #[.pointer (some ⟨b, 0, none⟩)] 77)).alloc (.cells (mgL m).toArray 41) = W1 at *
  have T0 : Hid (Touch (Off (Gr N w W1)) W1 W1) := hide (Touch.refl _ _)
  have l0 := hl
  have z0 := cell_of (Gr.keep (unhide T0) (unhide HX) (Nat.le_refl _)) 0
  have y45 : W1.cell? ⟨w.heap.size + 1, 45, none⟩ = some (.int .i64 m.o1) := cell_of (Gr.keep (unhide T0) (unhide HB) (by omega)) 45
  have y46 : W1.cell? ⟨w.heap.size + 1, 46, none⟩ = some (.int .i64 m.o2) := cell_of (Gr.keep (unhide T0) (unhide HB) (by omega)) 46
  have y47 : W1.cell? ⟨w.heap.size + 1, 47, none⟩ = some (.int .i64 m.o3) := cell_of (Gr.keep (unhide T0) (unhide HB) (by omega)) 47
  have y48 : W1.cell? ⟨w.heap.size + 1, 48, none⟩ = some (.int .i64 m.o4) := cell_of (Gr.keep (unhide T0) (unhide HB) (by omega)) 48
  have y50 : W1.cell? ⟨w.heap.size + 1, 50, none⟩ = some (.int .i64 m.o5) := cell_of (Gr.keep (unhide T0) (unhide HB) (by omega)) 50
  have y52 : W1.cell? ⟨w.heap.size + 1, 52, none⟩ = some (.int .i64 m.o6) := cell_of (Gr.keep (unhide T0) (unhide HB) (by omega)) 52
  have y53 : W1.cell? ⟨w.heap.size + 1, 53, none⟩ = some (.int .i64 m.o7) := cell_of (Gr.keep (unhide T0) (unhide HB) (by omega)) 53
  have y54 : W1.cell? ⟨w.heap.size + 1, 54, none⟩ = some (.int .i64 m.o8) := cell_of (Gr.keep (unhide T0) (unhide HB) (by omega)) 54
  have y58 : W1.cell? ⟨w.heap.size + 1, 58, none⟩ = some (.int .i64 m.o9) := cell_of (Gr.keep (unhide T0) (unhide HB) (by omega)) 58
  simp at z0
  have K := wints_lit [m.o1, m.o2, m.o3, m.o4, m.o5, m.o6, m.o7, m.o8, m.o9] (vs := #[.int .i64 m.o1, .int .i64 m.o2, .int .i64 m.o3, .int .i64 m.o4, .int .i64 m.o5, .int .i64 m.o6, .int .i64 m.o7, .int .i64 m.o8, .int .i64 m.o9]) rfl (unhide Q0) (unhide HF) (by simp) (by omega)
  rw [unhide E1] at K
  have HK := hide K
  have l1 : s1.1.length ≤ s.1.length + 100 := by
    rw [← unhide E1]
    have := wX_len s (encL [m.o1, m.o2, m.o3, m.o4, m.o5, m.o6, m.o7, m.o8, m.o9])
    have h2 := encL_len [m.o1, m.o2, m.o3, m.o4, m.o5, m.o6, m.o7, m.o8, m.o9] (unhide HF)
    simp only [List.length_cons, List.length_nil] at h2
    omega
  clear K
  go_wp2_with fail
  refine (unhide HK).mono ?_
  rintro e w2 ⟨rfl, q, t⟩
  have Q1 := hide q
  have T1 := hide ((unhide T0).trans t)
  clear q t HK z0 y45 y46 y47 y48 y50 y52 y53 y54 y58
  have z0 := cell_of (Gr.keep (unhide T1) (unhide HX) (Nat.le_refl _)) 0
  have y49 : w2.cell? ⟨w.heap.size + 1, 49, none⟩ = some (.int .u64 (m.pid : Int)) := cell_of (Gr.keep (unhide T1) (unhide HB) (by omega)) 49
  simp at z0
  have K := uint_q m.pid (unhide Q1) (unhide HP) (by omega)
  rw [unhide E2] at K
  have HK := hide K
  have l2 : s2.1.length ≤ s1.1.length + 10 := by
    rw [← unhide E2]
    have := wX_len s1 (enc m.pid)
    have h2 := enc_len10 (unhide HP)
    omega
  clear K
  go_wp2_with fail
  refine (unhide HK).mono ?_
  rintro e w3 ⟨rfl, q, t⟩
  have Q2 := hide q
  have T2 := hide ((unhide T1).trans t)
  clear q t HK z0 y49
  have z0 := cell_of (Gr.keep (unhide T2) (unhide HX) (Nat.le_refl _)) 0
  have y51 : w3.cell? ⟨w.heap.size + 1, 51, none⟩ = some (.bool m.cm) := cell_of (Gr.keep (unhide T2) (unhide HB) (by omega)) 51
  simp at z0
  have K := flag_q m.cm (unhide Q2) (by omega)
  rw [unhide E3] at K
  have HK := hide K
  have l3 : s3.1.length ≤ s2.1.length + 1 := by
    rw [← unhide E3]
    have := wX_len s2 [m.cm.toNat]
    simp only [List.length_cons, List.length_nil] at this
    omega
  clear K
  go_wp2_with fail
  refine (unhide HK).mono ?_
  rintro e w4 ⟨rfl, q, t⟩
  have Q3 := hide q
  have T3 := hide ((unhide T2).trans t)
  clear q t HK z0 y51
  have z0 := cell_of (Gr.keep (unhide T3) (unhide HX) (Nat.le_refl _)) 0
  have y55 : w4.cell? ⟨w.heap.size + 1, 55, none⟩ = some (.slice m.ma m.ms.length m.mc) := cell_of (Gr.keep (unhide T3) (unhide HB) (by omega)) 55
  simp at z0
  have hu := conv_len m.ms.length (unhide HMI).mm
  by_cases hz : cntE m.ms.length ≠ 0
  · have HEE := hide (fst0_hit (unhide HE0) hz)
    have HQ : Hid (E ≠ 0) := hide (by rw [unhide HEE]; exact hz)
    have K := (needCount_no w4 hz).mono (R' := fun e w' => e = gone (cntE m.ms.length) ∧ Touch (Off (Gr N w W1)) w4 w') (fun e w' h => ⟨by rw [cnt_no hz]; exact h.1, by rw [h.2]; exact Touch.refl _ _⟩)
    rw [← unhide HEE] at K
    have HK := hide K
    clear K hz
    go_wp2_with fail
    refine (unhide HK).mono ?_
    rintro e wz ⟨rfl, t⟩
    have TF := hide (Off.leave (unhide HB0) ((unhide T3).trans t))
    clear t
    go_wp2
    exact ⟨rfl, unhide TF, fun h => absurd h (unhide HQ), fun _ => rfl⟩
  have hz2 : cntE m.ms.length = 0 := by omega
  have HE1 := hide (fst0_pass (unhide HE0) hz2)
  clear hz
  have KC := hide (needCount_ok w4 hz2)
  go_wp2_with fail
  refine (unhide KC).mono ?_
  rintro e wy ⟨rfl, rfl⟩
  clear KC hu
  have LD := hide ((unhide Q3).iat (unhide HMS))
  have hc5 := cnt_ok hz2
  have K := ints_q m.ma m.mc m.ms (unhide Q3) (unhide LD).1 (unhide LD).2 (unhide HM) (by omega) (by omega)
  rw [unhide E4] at K
  have HK := hide K
  have l4 : s4.1.length ≤ s3.1.length + 5200 := by
    rw [← unhide E4]
    have := wX_len s3 (enc m.ms.length ++ encL m.ms)
    have h2 := encL_len m.ms (unhide HM)
    have h3 := enc_len10 (n := m.ms.length) (by omega)
    rw [List.length_append] at this
    omega
  clear K
  go_wp2_with fail
  refine (unhide HK).mono ?_
  rintro e w5 ⟨rfl, q, t⟩
  have Q4 := hide q
  have T4 := hide ((unhide T3).trans t)
  clear q t HK z0 y55
  clear LD hz2 hc5
  have z0 := cell_of (Gr.keep (unhide T4) (unhide HX) (Nat.le_refl _)) 0
  have y36 : w5.cell? ⟨w.heap.size + 1, 36, none⟩ = some (.int .i64 m.B.base) := cell_of (Gr.keep (unhide T4) (unhide HB) (by omega)) 36
  have y37 : w5.cell? ⟨w.heap.size + 1, 37, none⟩ = some (.int .i64 m.B.epoch) := cell_of (Gr.keep (unhide T4) (unhide HB) (by omega)) 37
  have y38 : w5.cell? ⟨w.heap.size + 1, 38, none⟩ = some (.int .u64 (m.B.pid : Int)) := cell_of (Gr.keep (unhide T4) (unhide HB) (by omega)) 38
  have y39 : w5.cell? ⟨w.heap.size + 1, 39, none⟩ = some (.int .i64 m.B.pep) := cell_of (Gr.keep (unhide T4) (unhide HB) (by omega)) 39
  have y40 : w5.cell? ⟨w.heap.size + 1, 40, none⟩ = some (.int .i64 m.B.seq) := cell_of (Gr.keep (unhide T4) (unhide HB) (by omega)) 40
  have y41 : w5.cell? ⟨w.heap.size + 1, 41, none⟩ = some (.bool m.B.txn) := cell_of (Gr.keep (unhide T4) (unhide HB) (by omega)) 41
  have y42 : w5.cell? ⟨w.heap.size + 1, 42, none⟩ = some (.bool m.B.ctl) := cell_of (Gr.keep (unhide T4) (unhide HB) (by omega)) 42
  have y43 : w5.cell? ⟨w.heap.size + 1, 43, none⟩ = some (.bool m.B.com) := cell_of (Gr.keep (unhide T4) (unhide HB) (by omega)) 43
  have y44 : w5.cell? ⟨w.heap.size + 1, 44, none⟩ = some (.slice m.ba m.B.vs.length m.bc) := cell_of (Gr.keep (unhide T4) (unhide HB) (by omega)) 44
  simp at z0
  have KA := hide (batch_w m.ba m.bc (unhide Q4) (unhide HBR) (unhide HBF) (by omega))
  by_cases hz : batE m.B ≠ 0
  · have HEE := hide (fst0_hit (unhide HE1) hz)
    have HQ : Hid (E ≠ 0) := hide (by rw [unhide HEE]; exact hz)
    have K := (unhide KA).mono (R' := fun e w' => e = gone (batE m.B) ∧ Touch (Off (Gr N w W1)) w5 w') (fun e w' h => ⟨h.2.2 hz, h.1⟩)
    rw [← unhide HEE] at K
    have HK := hide K
    clear K hz
    go_wp2_with fail
    refine (unhide HK).mono ?_
    rintro e wz ⟨rfl, t⟩
    have TF := hide (Off.leave (unhide HB0) ((unhide T4).trans t))
    clear t
    go_wp2
    exact ⟨rfl, unhide TF, fun h => absurd h (unhide HQ), fun _ => rfl⟩
  have hz2 : batE m.B = 0 := by omega
  have HE2 := hide (fst0_pass (unhide HE1) hz2)
  clear hz
  have K2 := (unhide KA).mono (R' := fun e w' => WD w0 (Gr N w W1) w5 b (batS s4 m.B) e w') (fun e w' h => ⟨(h.2.1 hz2).1, (h.2.1 hz2).2, h.1⟩)
  rw [unhide E5] at K2
  have HK := hide K2
  clear KA K2
  have l5 : s5.1.length ≤ s4.1.length + 4106 := by
    rw [← unhide E5]
    exact batS_len _ _
  go_wp2_with fail
  refine (unhide HK).mono ?_
  rintro e w6 ⟨rfl, q, t⟩
  have Q5 := hide q
  have T5 := hide ((unhide T4).trans t)
  clear q t HK z0 y36 y37 y38 y39 y40 y41 y42 y43 y44 hz2
  have z0 := cell_of (Gr.keep (unhide T5) (unhide HX) (Nat.le_refl _)) 0
  have y56 : w6.cell? ⟨w.heap.size + 1, 56, none⟩ = some (.slice m.bsa m.bs.length m.bsc) := cell_of (Gr.keep (unhide T5) (unhide HB) (by omega)) 56
  simp at z0
  by_cases hz : cntE m.bs.length ≠ 0
  · have HEE := hide (fst0_hit (unhide HE2) hz)
    have HQ : Hid (E ≠ 0) := hide (by rw [unhide HEE]; exact hz)
    have K := (layBa_long (cap := m.bsc) (unhide Q5) (unhide HBS) (unhide HBI) (unhide HMI).bm hz (by omega)).mono (R' := fun e w' => e = gone (cntE m.bs.length) ∧ Touch (Off (Gr N w W1)) w6 w') (fun e w' h => ⟨by rw [cnt_no hz]; exact h.1, h.2⟩)
    rw [← unhide HEE] at K
    have HK := hide K
    clear K hz
    go_wp2_with fail
    refine (unhide HK).mono ?_
    rintro e wz ⟨rfl, t⟩
    have TF := hide (Off.leave (unhide HB0) ((unhide T5).trans t))
    clear t
    go_wp2
    exact ⟨rfl, unhide TF, fun h => absurd h (unhide HQ), fun _ => rfl⟩
  have hz2 : cntE m.bs.length = 0 := by omega
  have HE3 := hide (fst0_pass (unhide HE2) hz2)
  clear hz
  have hc5 := cnt_ok hz2
  have KA := hide (layBa_any (cap := m.bsc) (unhide Q5) (unhide HBS) (unhide HBI) (unhide HMI).bm hz2 rfl (unhide E6) (by omega))
  clear hz2
  by_cases hz : errs m.bs ≠ 0
  · have HEE := hide (fst0_hit (unhide HE3) hz)
    have HQ : Hid (E ≠ 0) := hide (by rw [unhide HEE]; exact hz)
    have K := (unhide KA).mono (R' := fun e w' => e = gone (errs m.bs) ∧ Touch (Off (Gr N w W1)) w6 w') (fun e w' h => ⟨h.2.2 hz, h.1⟩)
    rw [← unhide HEE] at K
    have HK := hide K
    clear K hz
    go_wp2_with fail
    refine (unhide HK).mono ?_
    rintro e wz ⟨rfl, t⟩
    have TF := hide (Off.leave (unhide HB0) ((unhide T5).trans t))
    clear t
    go_wp2
    exact ⟨rfl, unhide TF, fun h => absurd h (unhide HQ), fun _ => rfl⟩
  have hz2 : errs m.bs = 0 := by omega
  have HE4 := hide (fst0_pass (unhide HE3) hz2)
  clear hz
  have HK := hide ((unhide KA).mono (R' := fun e w' => WD w0 (Gr N w W1) w6 b s6 e w') (fun e w' h => ⟨(h.2.1 hz2).1, (h.2.1 hz2).2, h.1⟩))
  clear KA
  have l6 : s6.1.length ≤ s5.1.length + 3000000 := by
    rw [← unhide E6]
    have h1 := foldBa_len m.bs (wX s5 (enc m.bs.length)) (unhide HBI)
    have h2 := wX_len s5 (enc m.bs.length)
    have h3 := enc_len10 (n := m.bs.length) (by omega)
    omega
  go_wp2_with fail
  refine (unhide HK).mono ?_
  rintro e w7 ⟨rfl, q, t⟩
  have Q6 := hide q
  have T6 := hide ((unhide T5).trans t)
  clear q t HK z0 y56 hz2 hc5
  have z0 := cell_of (Gr.keep (unhide T6) (unhide HX) (Nat.le_refl _)) 0
  have y57 : w7.cell? ⟨w.heap.size + 1, 57, none⟩ = some (.slice m.aa m.ab.length m.ac) := cell_of (Gr.keep (unhide T6) (unhide HB) (by omega)) 57
  simp at z0
  by_cases hz : cntE m.ab.length ≠ 0
  · have HEE := hide (fst0_hit (unhide HE4) hz)
    have HQ : Hid (E ≠ 0) := hide (by rw [unhide HEE]; exact hz)
    have K := (layAb_long (cap := m.ac) (unhide Q6) (unhide HAB) (unhide HAI) (unhide HMI).am hz (by omega)).mono (R' := fun e w' => e = gone (cntE m.ab.length) ∧ Touch (Off (Gr N w W1)) w7 w') (fun e w' h => ⟨by rw [cnt_no hz]; exact h.1, h.2⟩)
    rw [← unhide HEE] at K
    have HK := hide K
    clear K hz
    go_wp2_with fail
    refine (unhide HK).mono ?_
    rintro e wz ⟨rfl, t⟩
    have TF := hide (Off.leave (unhide HB0) ((unhide T6).trans t))
    clear t
    go_wp2
    exact ⟨rfl, unhide TF, fun h => absurd h (unhide HQ), fun _ => rfl⟩
  have hz2 : cntE m.ab.length = 0 := by omega
  have HE5 := hide (fst0_pass (unhide HE4) hz2)
  clear hz
  have hc5 := cnt_ok hz2
  have HK := hide (layAb_any (cap := m.ac) (unhide Q6) (unhide HAB) (unhide HAI) (unhide HMI).am hz2 (unhide E7) (by omega))
  have l7 : s7.1.length ≤ s6.1.length + 3000000 := by
    rw [← unhide E7]
    have h1 := foldAb_len m.ab (wX s6 (enc m.ab.length)) (unhide HAI)
    have h2 := wX_len s6 (enc m.ab.length)
    have h3 := enc_len10 (n := m.ab.length) (by omega)
    omega
  go_wp2_with fail
  refine (unhide HK).mono ?_
  rintro e w8 ⟨rfl, q, t⟩
  have Q7 := hide q
  have T7 := hide ((unhide T6).trans t)
  clear q t HK z0 y57 hz2 hc5
  have FF := hide (Wq.leave (unhide Q7) (unhide HB0) (unhide HN) (unhide HL) (unhide T7))
  have HEz := hide (fst0_end (unhide HE5))
  go_wp2
  go_returns
  exact ⟨(unhide FF).2, fun _ => ⟨rfl, (unhide FF).1⟩, fun h => absurd (unhide HEz) h⟩
end
end Go.Proofs.Ytblmondkdcpkaaa
