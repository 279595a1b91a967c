/-
  wire's writer: raft, fetch, fetched, cmd, others. Conditions: the message as it lies, what was laid so far at most 2^40 bytes.
-/
import Derived.Test.YtcekleconjmfjaaWq4
import Derived.Test.YtcekleconjmfjaaCa17
namespace Go.Proofs.Ytcekleconjmfjaa
open Go.RowKit
set_option linter.unusedVariables false

/-- The first that isn't 0. -/
def fst0 : List Int → Int
  | [] => 0
  | x :: r => if x ≠ 0 then x else fst0 r
theorem fst0_hit {x : Int} {r : List Int} {E : Int} (h : fst0 (x :: r) = E) (hx : x ≠ 0) : E = x := by
  simp only [fst0] at h
  rw [if_pos hx] at h
  exact h.symm
theorem fst0_pass {x : Int} {r : List Int} {E : Int} (h : fst0 (x :: r) = E) (hx : x = 0) : fst0 r = E := by
  simp only [fst0] at h
  rw [if_neg (by omega)] at h
  exact h
theorem fst0_end {E : Int} (h : fst0 [] = E) : E = 0 := h.symm
theorem cnt_no {n : Nat} (h : cntE n ≠ 0) : cntE n = 2 := by
  unfold cntE at *
  split
  · rfl
  · rename_i hn
    rw [if_neg hn] at h
    exact absurd rfl h
theorem cnt_ok {n : Nat} (h : cntE n = 0) : n ≤ 512 := by
  unfold cntE at h
  split at h
  · cases h
  · omega
theorem foldEn_len {w : World} (os : List En) : ∀ (s : Ws), (∀ o ∈ os, EnIn w o) → (os.foldl stepEn s).1.length ≤ s.1.length + os.length * 4116 := by
  induction os with
  | nil => intro s _; simp
  | cons x r ih =>
    intro s h
    have h1 := ih (stepEn s x) (fun o ho => h o (List.mem_cons_of_mem _ ho))
    have h2 := stepEn_len s (h x (List.mem_cons_self ..))
    simp only [List.foldl_cons, List.length_cons]
    omega
theorem foldBa_len {w : World} (os : List Ba) : ∀ (s : Ws), (∀ o ∈ os, BaIn w o) → (os.foldl stepBa s).1.length ≤ s.1.length + os.length * 4116 := by
  induction os with
  | nil => intro s _; simp
  | cons x r ih =>
    intro s h
    have h1 := ih (stepBa s x) (fun o ho => h o (List.mem_cons_of_mem _ ho))
    have h2 := stepBa_len s (h x (List.mem_cons_self ..))
    simp only [List.foldl_cons, List.length_cons]
    omega
theorem foldAb_len {w : World} (os : List Ab) : ∀ (s : Ws), (∀ o ∈ os, AbIn w o) → (os.foldl stepAb s).1.length ≤ s.1.length + os.length * 4116 := by
  induction os with
  | nil => intro s _; simp
  | cons x r ih =>
    intro s h
    have h1 := ih (stepAb s x) (fun o ho => h o (List.mem_cons_of_mem _ ho))
    have h2 := stepAb_len s (h x (List.mem_cons_self ..))
    simp only [List.foldl_cons, List.length_cons]
    omega
section
variable {w0 w : World} {N : Nat → Prop} {b : Nat} {s : Ws}
set_option maxHeartbeats 16000000 in
theorem raft_w {r1 r2 r3 r4 r5 r6 r7 : Int} {rj : Bool} {en : List En} {ea : Option Addr} {ec : Nat} {sn : List Nat} {sa : Option Addr} {sc : Nat} {E : Int} {s1 s2 s3 s4 : Ws} (h : Wq w0 N w b s) (hf : ∀ x ∈ [r1, r2, r3, r4, r5, r6, r7], I64 x) (hen : RowsAt cellsEn 2 w0 ea en) (hin : ∀ o ∈ en, EnIn w0 o) (hm : en.length ≤ 140737488355328) (hsn : LAt w0 sa sn) (hsc : sa = none → sc = 0) (hE : fst0 [cntE en.length] = E) (e1 : wX s (encL [r1, r2, r3, r4, r5, r6, r7]) = s1) (e2 : wX s1 [rj.toNat] = s2) (e3 : en.foldl stepEn (wX s2 (enc en.length)) = s3) (e4 : wB s3 sn = s4) (hl : s.1.length ≤ 1099511627776) :
    Calls Try.prog 42 #[.agg #[.pointer (some ⟨b, 0, none⟩)], .agg #[.int .i64 r1, .int .i64 r2, .int .i64 r3, .int .i64 r4, .int .i64 r5, .int .i64 r6, .int .i64 r7, .bool rj, .slice ea en.length ec, .slice sa sn.length sc]] w fun e w' => WP w0 N w b E s4 e w' := by
  have hb0 := ((Below.refl w.heap.size w).alloc (Nat.le_refl _) (.cells #[.pointer (some ⟨b, 0, none⟩)] 77)).alloc (by simp) (.cells #[.int .i64 r1, .int .i64 r2, .int .i64 r3, .int .i64 r4, .int .i64 r5, .int .i64 r6, .int .i64 r7, .bool rj, .slice ea en.length ec, .slice sa sn.length sc] 26)
  have Q0 := hide (h.grow hb0)
  have HX := hide (heap_old (.cells #[.int .i64 r1, .int .i64 r2, .int .i64 r3, .int .i64 r4, .int .i64 r5, .int .i64 r6, .int .i64 r7, .bool rj, .slice ea en.length ec, .slice sa sn.length sc] 26) (heap_new w (.cells #[.pointer (some ⟨b, 0, none⟩)] 77)))
  have HB := hide (heap_new (w.alloc (.cells #[.pointer (some ⟨b, 0, none⟩)] 77)) (.cells #[.int .i64 r1, .int .i64 r2, .int .i64 r3, .int .i64 r4, .int .i64 r5, .int .i64 r6, .int .i64 r7, .bool rj, .slice ea en.length ec, .slice sa sn.length sc] 26))
  have hsz : (w.alloc (.cells #[.pointer (some ⟨b, 0, none⟩)] 77)).heap.size = w.heap.size + 1 := by simp
  rw [hsz] at HB
  have HN := hide h.old
  have HL := hide h.low
  have HB0 := hide hb0
  have HE0 := hide hE
  have hmf : ∀ (fn : Fn) (first cap : Array Value) (w : World), (Instr.makeFunc fn first cap).run Try.prog w = .ok (.func fn first cap) w := fun _ _ _ _ => rfl
  have E1 := hide e1
  have E2 := hide e2
  have E3 := hide e3
  have E4 := hide e4
  have HF := hide hf
  have HR := hide hen
  have HIN := hide hin
  have HSN := hide hsn
  clear h hb0 hsz hE e1 e2 e3 e4 hf hen hin hsn
  go_enter Try.func42, Try.ntmps42
  go_upto_region 1 with fail
  generalize (w.alloc (.cells #[.pointer (some ⟨b, 0, none⟩)] 77)).alloc (.cells #[.int .i64 r1, .int .i64 r2, .int .i64 r3, .int .i64 r4, .int .i64 r5, .int .i64 r6, .int .i64 r7, .bool rj, .slice ea en.length ec, .slice sa sn.length sc] 26) = W1 at *
  have T0 : Hid (Touch (Off (Gr N w W1)) W1 W1) := hide (Touch.refl _ _)
  have l0 := hl
  have z0 := cell_of (Gr.keep (unhide T0) (unhide HX) (Nat.le_refl _)) 0
  have y0 := cell_of (Gr.keep (unhide T0) (unhide HB) (by omega)) 0
  have y1 := cell_of (Gr.keep (unhide T0) (unhide HB) (by omega)) 1
  have y2 := cell_of (Gr.keep (unhide T0) (unhide HB) (by omega)) 2
  have y3 := cell_of (Gr.keep (unhide T0) (unhide HB) (by omega)) 3
  have y4 := cell_of (Gr.keep (unhide T0) (unhide HB) (by omega)) 4
  have y5 := cell_of (Gr.keep (unhide T0) (unhide HB) (by omega)) 5
  have y6 := cell_of (Gr.keep (unhide T0) (unhide HB) (by omega)) 6
  simp at z0 y0 y1 y2 y3 y4 y5 y6
  have K := wints_lit [r1, r2, r3, r4, r5, r6, r7] (vs := #[.int .i64 r1, .int .i64 r2, .int .i64 r3, .int .i64 r4, .int .i64 r5, .int .i64 r6, .int .i64 r7]) rfl (unhide Q0) (unhide HF) (by simp) (by omega)
  rw [unhide E1] at K
  have HK := hide K
  have l1 : s1.1.length ≤ s.1.length + 100 := by
    rw [← unhide E1]
    have := wX_len s (encL [r1, r2, r3, r4, r5, r6, r7])
    have h2 := encL_len [r1, r2, r3, r4, r5, r6, r7] (unhide HF)
    simp only [List.length_cons, List.length_nil] at h2
    omega
  clear K
  go_wp2_with fail
  refine (unhide HK).mono ?_
  rintro e w2 ⟨rfl, q, t⟩
  have Q1 := hide q
  have T1 := hide ((unhide T0).trans t)
  clear q t HK z0 y0 y1 y2 y3 y4 y5 y6
  have z0 := cell_of (Gr.keep (unhide T1) (unhide HX) (Nat.le_refl _)) 0
  have y7 := cell_of (Gr.keep (unhide T1) (unhide HB) (by omega)) 7
  simp at z0 y7
  have K := flag_q rj (unhide Q1) (by omega)
  rw [unhide E2] at K
  have HK := hide K
  have l2 : s2.1.length ≤ s1.1.length + 1 := by
    rw [← unhide E2]
    have := wX_len s1 [rj.toNat]
    simp only [List.length_cons, List.length_nil] at this
    omega
  clear K
  go_wp2_with fail
  refine (unhide HK).mono ?_
  rintro e w3 ⟨rfl, q, t⟩
  have Q2 := hide q
  have T2 := hide ((unhide T1).trans t)
  clear q t HK z0 y7
  have z0 := cell_of (Gr.keep (unhide T2) (unhide HX) (Nat.le_refl _)) 0
  have y8 := cell_of (Gr.keep (unhide T2) (unhide HB) (by omega)) 8
  simp at z0 y8
  by_cases hz : cntE en.length ≠ 0
  · have HEE := hide (fst0_hit (unhide HE0) hz)
    have HQ : Hid (E ≠ 0) := hide (by rw [unhide HEE]; exact hz)
    have K := (layEn_long (cap := ec) (unhide Q2) (unhide HR) (unhide HIN) hm hz (by omega)).mono (R' := fun e w' => e = gone (cntE en.length) ∧ Touch (Off (Gr N w W1)) w3 w') (fun e w' h => ⟨by rw [cnt_no hz]; exact h.1, h.2⟩)
    rw [← unhide HEE] at K
    have HK := hide K
    clear K hz
    go_wp2_with fail
    refine (unhide HK).mono ?_
    rintro e wz ⟨rfl, t⟩
    have TF := hide (Off.leave (unhide HB0) ((unhide T2).trans t))
    clear t
    go_wp2
    exact ⟨rfl, unhide TF, fun h => absurd h (unhide HQ), fun _ => rfl⟩
  have hz2 : cntE en.length = 0 := by omega
  have HE1 := hide (fst0_pass (unhide HE0) hz2)
  clear hz
  have hc5 := cnt_ok hz2
  have HK := hide (layEn_any (cap := ec) (unhide Q2) (unhide HR) (unhide HIN) hm hz2 (unhide E3) (by omega))
  have l3 : s3.1.length ≤ s2.1.length + 3000000 := by
    rw [← unhide E3]
    have h1 := foldEn_len en (wX s2 (enc en.length)) (unhide HIN)
    have h2 := wX_len s2 (enc en.length)
    have h3 := enc_len10 (n := en.length) (by omega)
    omega
  go_wp2_with fail
  refine (unhide HK).mono ?_
  rintro e w4 ⟨rfl, q, t⟩
  have Q3 := hide q
  have T3 := hide ((unhide T2).trans t)
  clear q t HK z0 y8 hz2 hc5
  have z0 := cell_of (Gr.keep (unhide T3) (unhide HX) (Nat.le_refl _)) 0
  have y9 := cell_of (Gr.keep (unhide T3) (unhide HB) (by omega)) 9
  simp at z0 y9
  have LD := hide ((unhide Q3).lat (unhide HSN))
  have K := bytes_q sa sc sn (unhide Q3) (unhide LD).1 hsc (unhide LD).2 (by omega)
  rw [unhide E4] at K
  have HK := hide K
  have l4 : s4.1.length ≤ s3.1.length + 4106 := by
    rw [← unhide E4]
    exact wB_len _ _
  clear K
  go_wp2_with fail
  refine (unhide HK).mono ?_
  rintro e w5 ⟨rfl, q, t⟩
  have Q4 := hide q
  have T4 := hide ((unhide T3).trans t)
  clear q t HK z0 y9
  clear LD
  have FF := hide (Wq.leave (unhide Q4) (unhide HB0) (unhide HN) (unhide HL) (unhide T4))
  have HEz := hide (fst0_end (unhide HE1))
  go_wp2
  go_returns
  exact ⟨(unhide FF).2, fun _ => ⟨rfl, (unhide FF).1⟩, fun h => absurd (unhide HEz) h⟩
set_option maxHeartbeats 16000000 in
theorem fetch_w {f1 f2 f3 f4 f5 : Int} {E : Int} {s1 : Ws} (h : Wq w0 N w b s) (hf : ∀ x ∈ [f1, f2, f3, f4, f5], I64 x) (hE : fst0 [] = E) (e1 : wX s (encL [f1, f2, f3, f4, f5]) = s1) (hl : s.1.length ≤ 1099511627776) :
    Calls Try.prog 43 #[.agg #[.pointer (some ⟨b, 0, none⟩)], .agg #[.int .i64 f1, .int .i64 f2, .int .i64 f3, .int .i64 f4, .int .i64 f5]] w fun e w' => WP w0 N w b E s1 e w' := by
  have hb0 := ((Below.refl w.heap.size w).alloc (Nat.le_refl _) (.cells #[.pointer (some ⟨b, 0, none⟩)] 77)).alloc (by simp) (.cells #[.int .i64 f1, .int .i64 f2, .int .i64 f3, .int .i64 f4, .int .i64 f5] 28)
  have Q0 := hide (h.grow hb0)
  have HX := hide (heap_old (.cells #[.int .i64 f1, .int .i64 f2, .int .i64 f3, .int .i64 f4, .int .i64 f5] 28) (heap_new w (.cells #[.pointer (some ⟨b, 0, none⟩)] 77)))
  have HB := hide (heap_new (w.alloc (.cells #[.pointer (some ⟨b, 0, none⟩)] 77)) (.cells #[.int .i64 f1, .int .i64 f2, .int .i64 f3, .int .i64 f4, .int .i64 f5] 28))
  have hsz : (w.alloc (.cells #[.pointer (some ⟨b, 0, none⟩)] 77)).heap.size = w.heap.size + 1 := by simp
  rw [hsz] at HB
  have HN := hide h.old
  have HL := hide h.low
  have HB0 := hide hb0
  have HE0 := hide hE
  have hmf : ∀ (fn : Fn) (first cap : Array Value) (w : World), (Instr.makeFunc fn first cap).run Try.prog w = .ok (.func fn first cap) w := fun _ _ _ _ => rfl
  have E1 := hide e1
  have HF := hide hf
  clear h hb0 hsz hE e1 hf
  go_enter Try.func43, Try.ntmps43
  go_upto_region 1 with fail
  generalize (w.alloc (.cells #[.pointer (some ⟨b, 0, none⟩)] 77)).alloc (.cells #[.int .i64 f1, .int .i64 f2, .int .i64 f3, .int .i64 f4, .int .i64 f5] 28) = W1 at *
  have T0 : Hid (Touch (Off (Gr N w W1)) W1 W1) := hide (Touch.refl _ _)
  have l0 := hl
  have z0 := cell_of (Gr.keep (unhide T0) (unhide HX) (Nat.le_refl _)) 0
  have y0 := cell_of (Gr.keep (unhide T0) (unhide HB) (by omega)) 0
  have y1 := cell_of (Gr.keep (unhide T0) (unhide HB) (by omega)) 1
  have y2 := cell_of (Gr.keep (unhide T0) (unhide HB) (by omega)) 2
  have y3 := cell_of (Gr.keep (unhide T0) (unhide HB) (by omega)) 3
  have y4 := cell_of (Gr.keep (unhide T0) (unhide HB) (by omega)) 4
  simp at z0 y0 y1 y2 y3 y4
  have K := wints_lit [f1, f2, f3, f4, f5] (vs := #[.int .i64 f1, .int .i64 f2, .int .i64 f3, .int .i64 f4, .int .i64 f5]) rfl (unhide Q0) (unhide HF) (by simp) (by omega)
  rw [unhide E1] at K
  have HK := hide K
  have l1 : s1.1.length ≤ s.1.length + 100 := by
    rw [← unhide E1]
    have := wX_len s (encL [f1, f2, f3, f4, f5])
    have h2 := encL_len [f1, f2, f3, f4, f5] (unhide HF)
    simp only [List.length_cons, List.length_nil] at h2
    omega
  clear K
  go_wp2_with fail
  refine (unhide HK).mono ?_
  rintro e w2 ⟨rfl, q, t⟩
  have Q1 := hide q
  have T1 := hide ((unhide T0).trans t)
  clear q t HK z0 y0 y1 y2 y3 y4
  have FF := hide (Wq.leave (unhide Q1) (unhide HB0) (unhide HN) (unhide HL) (unhide T1))
  have HEz := hide (fst0_end (unhide HE0))
  go_wp2
  go_returns
  exact ⟨(unhide FF).2, fun _ => ⟨rfl, (unhide FF).1⟩, fun h => absurd (unhide HEz) h⟩
set_option maxHeartbeats 16000000 in
theorem fetched_w {g1 g2 g3 g4 g5 g6 g7 g8 : Int} {gd : Bool} {gb : List Ba} {ga : Option Addr} {gc : Nat} {E : Int} {s1 s2 s3 : Ws} (h : Wq w0 N w b s) (hf : ∀ x ∈ [g1, g2, g3, g4, g5, g6, g7, g8], I64 x) (hgb : RowsAt cellsBa 9 w0 ga gb) (hin : ∀ o ∈ gb, BaIn w0 o) (hm : gb.length ≤ 140737488355328) (hE : fst0 [cntE gb.length, errs gb] = E) (e1 : wX s (encL [g1, g2, g3, g4, g5, g6, g7, g8]) = s1) (e2 : wX s1 [gd.toNat] = s2) (e3 : gb.foldl stepBa (wX s2 (enc gb.length)) = s3) (hl : s.1.length ≤ 1099511627776) :
    Calls Try.prog 44 #[.agg #[.pointer (some ⟨b, 0, none⟩)], .agg #[.int .i64 g1, .int .i64 g2, .int .i64 g3, .int .i64 g4, .bool gd, .int .i64 g5, .int .i64 g6, .int .i64 g7, .int .i64 g8, .slice ga gb.length gc]] w fun e w' => WP w0 N w b E s3 e w' := by
  have hb0 := ((Below.refl w.heap.size w).alloc (Nat.le_refl _) (.cells #[.pointer (some ⟨b, 0, none⟩)] 77)).alloc (by simp) (.cells #[.int .i64 g1, .int .i64 g2, .int .i64 g3, .int .i64 g4, .bool gd, .int .i64 g5, .int .i64 g6, .int .i64 g7, .int .i64 g8, .slice ga gb.length gc] 31)
  have Q0 := hide (h.grow hb0)
  have HX := hide (heap_old (.cells #[.int .i64 g1, .int .i64 g2, .int .i64 g3, .int .i64 g4, .bool gd, .int .i64 g5, .int .i64 g6, .int .i64 g7, .int .i64 g8, .slice ga gb.length gc] 31) (heap_new w (.cells #[.pointer (some ⟨b, 0, none⟩)] 77)))
  have HB := hide (heap_new (w.alloc (.cells #[.pointer (some ⟨b, 0, none⟩)] 77)) (.cells #[.int .i64 g1, .int .i64 g2, .int .i64 g3, .int .i64 g4, .bool gd, .int .i64 g5, .int .i64 g6, .int .i64 g7, .int .i64 g8, .slice ga gb.length gc] 31))
  have hsz : (w.alloc (.cells #[.pointer (some ⟨b, 0, none⟩)] 77)).heap.size = w.heap.size + 1 := by simp
  rw [hsz] at HB
  have HN := hide h.old
  have HL := hide h.low
  have HB0 := hide hb0
  have HE0 := hide hE
  have hmf : ∀ (fn : Fn) (first cap : Array Value) (w : World), (Instr.makeFunc fn first cap).run Try.prog w = .ok (.func fn first cap) w := fun _ _ _ _ => rfl
  have E1 := hide e1
  have E2 := hide e2
  have E3 := hide e3
  have HF := hide hf
  have HR := hide hgb
  have HIN := hide hin
  clear h hb0 hsz hE e1 e2 e3 hf hgb hin
  go_enter Try.func44, Try.ntmps44
  go_upto_region 1 with fail
  generalize (w.alloc (.cells #[.pointer (some ⟨b, 0, none⟩)] 77)).alloc (.cells #[.int .i64 g1, .int .i64 g2, .int .i64 g3, .int .i64 g4, .bool gd, .int .i64 g5, .int .i64 g6, .int .i64 g7, .int .i64 g8, .slice ga gb.length gc] 31) = W1 at *
  have T0 : Hid (Touch (Off (Gr N w W1)) W1 W1) := hide (Touch.refl _ _)
  have l0 := hl
  have z0 := cell_of (Gr.keep (unhide T0) (unhide HX) (Nat.le_refl _)) 0
  have y0 := cell_of (Gr.keep (unhide T0) (unhide HB) (by omega)) 0
  have y1 := cell_of (Gr.keep (unhide T0) (unhide HB) (by omega)) 1
  have y2 := cell_of (Gr.keep (unhide T0) (unhide HB) (by omega)) 2
  have y3 := cell_of (Gr.keep (unhide T0) (unhide HB) (by omega)) 3
  have y5 := cell_of (Gr.keep (unhide T0) (unhide HB) (by omega)) 5
  have y6 := cell_of (Gr.keep (unhide T0) (unhide HB) (by omega)) 6
  have y7 := cell_of (Gr.keep (unhide T0) (unhide HB) (by omega)) 7
  have y8 := cell_of (Gr.keep (unhide T0) (unhide HB) (by omega)) 8
  simp at z0 y0 y1 y2 y3 y5 y6 y7 y8
  have K := wints_lit [g1, g2, g3, g4, g5, g6, g7, g8] (vs := #[.int .i64 g1, .int .i64 g2, .int .i64 g3, .int .i64 g4, .int .i64 g5, .int .i64 g6, .int .i64 g7, .int .i64 g8]) rfl (unhide Q0) (unhide HF) (by simp) (by omega)
  rw [unhide E1] at K
  have HK := hide K
  have l1 : s1.1.length ≤ s.1.length + 100 := by
    rw [← unhide E1]
    have := wX_len s (encL [g1, g2, g3, g4, g5, g6, g7, g8])
    have h2 := encL_len [g1, g2, g3, g4, g5, g6, g7, g8] (unhide HF)
    simp only [List.length_cons, List.length_nil] at h2
    omega
  clear K
  go_wp2_with fail
  refine (unhide HK).mono ?_
  rintro e w2 ⟨rfl, q, t⟩
  have Q1 := hide q
  have T1 := hide ((unhide T0).trans t)
  clear q t HK z0 y0 y1 y2 y3 y5 y6 y7 y8
  have z0 := cell_of (Gr.keep (unhide T1) (unhide HX) (Nat.le_refl _)) 0
  have y4 := cell_of (Gr.keep (unhide T1) (unhide HB) (by omega)) 4
  simp at z0 y4
  have K := flag_q gd (unhide Q1) (by omega)
  rw [unhide E2] at K
  have HK := hide K
  have l2 : s2.1.length ≤ s1.1.length + 1 := by
    rw [← unhide E2]
    have := wX_len s1 [gd.toNat]
    simp only [List.length_cons, List.length_nil] at this
    omega
  clear K
  go_wp2_with fail
  refine (unhide HK).mono ?_
  rintro e w3 ⟨rfl, q, t⟩
  have Q2 := hide q
  have T2 := hide ((unhide T1).trans t)
  clear q t HK z0 y4
  have z0 := cell_of (Gr.keep (unhide T2) (unhide HX) (Nat.le_refl _)) 0
  have y9 := cell_of (Gr.keep (unhide T2) (unhide HB) (by omega)) 9
  simp at z0 y9
  by_cases hz : cntE gb.length ≠ 0
  · have HEE := hide (fst0_hit (unhide HE0) hz)
    have HQ : Hid (E ≠ 0) := hide (by rw [unhide HEE]; exact hz)
    have K := (layBa_long (cap := gc) (unhide Q2) (unhide HR) (unhide HIN) hm hz (by omega)).mono (R' := fun e w' => e = gone (cntE gb.length) ∧ Touch (Off (Gr N w W1)) w3 w') (fun e w' h => ⟨by rw [cnt_no hz]; exact h.1, h.2⟩)
    rw [← unhide HEE] at K
    have HK := hide K
    clear K hz
    go_wp2_with fail
    refine (unhide HK).mono ?_
    rintro e wz ⟨rfl, t⟩
    have TF := hide (Off.leave (unhide HB0) ((unhide T2).trans t))
    clear t
    go_wp2
    exact ⟨rfl, unhide TF, fun h => absurd h (unhide HQ), fun _ => rfl⟩
  have hz2 : cntE gb.length = 0 := by omega
  have HE1 := hide (fst0_pass (unhide HE0) hz2)
  clear hz
  have hc5 := cnt_ok hz2
  have KA := hide (layBa_any (cap := gc) (unhide Q2) (unhide HR) (unhide HIN) hm hz2 rfl (unhide E3) (by omega))
  clear hz2
  by_cases hz : errs gb ≠ 0
  · have HEE := hide (fst0_hit (unhide HE1) hz)
    have HQ : Hid (E ≠ 0) := hide (by rw [unhide HEE]; exact hz)
    have K := (unhide KA).mono (R' := fun e w' => e = gone (errs gb) ∧ Touch (Off (Gr N w W1)) w3 w') (fun e w' h => ⟨h.2.2 hz, h.1⟩)
    rw [← unhide HEE] at K
    have HK := hide K
    clear K hz
    go_wp2_with fail
    refine (unhide HK).mono ?_
    rintro e wz ⟨rfl, t⟩
    have TF := hide (Off.leave (unhide HB0) ((unhide T2).trans t))
    clear t
    go_wp2
    exact ⟨rfl, unhide TF, fun h => absurd h (unhide HQ), fun _ => rfl⟩
  have hz2 : errs gb = 0 := by omega
  have HE2 := hide (fst0_pass (unhide HE1) hz2)
  clear hz
  have HK := hide ((unhide KA).mono (R' := fun e w' => WD w0 (Gr N w W1) w3 b s3 e w') (fun e w' h => ⟨(h.2.1 hz2).1, (h.2.1 hz2).2, h.1⟩))
  clear KA
  have l3 : s3.1.length ≤ s2.1.length + 3000000 := by
    rw [← unhide E3]
    have h1 := foldBa_len gb (wX s2 (enc gb.length)) (unhide HIN)
    have h2 := wX_len s2 (enc gb.length)
    have h3 := enc_len10 (n := gb.length) (by omega)
    omega
  go_wp2_with fail
  refine (unhide HK).mono ?_
  rintro e w4 ⟨rfl, q, t⟩
  have Q3 := hide q
  have T3 := hide ((unhide T2).trans t)
  clear q t HK z0 y9 hz2 hc5
  have FF := hide (Wq.leave (unhide Q3) (unhide HB0) (unhide HN) (unhide HL) (unhide T3))
  have HEz := hide (fst0_end (unhide HE2))
  go_wp2
  go_returns
  exact ⟨(unhide FF).2, fun _ => ⟨rfl, (unhide FF).1⟩, fun h => absurd (unhide HEz) h⟩
end
end Go.Proofs.Ytcekleconjmfjaa
