/-
  penstockref04.DocDecode, and 'awake' of layer 4. Conditions: the bytes are at most 2^47.
-/
import Derived.Test.YtnhociggoagpoacFr2
import Derived.Lib.SlBytesConst
namespace Go.Proofs.Ytnhociggoagpoac
open Go.RowKit
set_option linter.unusedVariables false

theorem unfix_fix {n : Nat} (h : n < 4294967296) (u : List Nat) : unfix (fix n ++ u) 0 = n := by
  simp only [unfix, fix, List.cons_append, List.getD_cons_zero, List.getD_cons_succ, Nat.zero_add]
  omega
theorem unfix_fix4 {n : Nat} (m : Nat) (h : n < 4294967296) (u : List Nat) : unfix (fix m ++ (fix n ++ u)) 4 = n := by
  simp only [unfix, fix, List.cons_append, List.nil_append, List.getD_cons_zero, List.getD_cons_succ]
  omega
/-- A frame is read as what it is of, whatever stands behind it. -/
theorem dec_fenc {p : List Nat} (h : p.length ≤ 4096) (u : List Nat) : dec (fenc p ++ u) = (p, 8 + p.length, 0) := by
  have e : fenc p ++ u = fix p.length ++ (fix (sm p) ++ (p ++ u)) := by simp [fenc]
  have e0 : unfix (fenc p ++ u) 0 = p.length := by rw [e]; exact unfix_fix (by omega) _
  have e4 : unfix (fenc p ++ u) 4 = sm p := by rw [e]; exact unfix_fix4 _ (sm_lt p) _
  have ed : (fenc p ++ u).drop 8 = p ++ u := by rw [e]; rfl
  have el : (fenc p ++ u).length = 8 + p.length + u.length := by rw [List.length_append, fenc_len]
  have ep : (p ++ u).take p.length = p := List.take_left
  unfold dec
  rw [e0, e4, ed, ep, if_neg (by omega), if_neg (by omega), if_neg (by omega), if_pos rfl]

/-- Where the document's frame ends. -/
def docTo (at_ : Nat) (d : List Nat × Nat × Nat) : Nat := if d.2.2 = 0 then at_ + d.2.1 else 0

section
variable {w : World} {a : Option Addr} {cap : Nat} {t : List Nat}

end

theorem two_ab : unfix (fenc [97, 98]) 0 = 2 := by simpa [fenc] using unfix_fix (n := 2) (by omega) (fix (sm [97, 98]) ++ [97, 98])
theorem dec_ab : dec (fenc [97, 98]) = ([97, 98], 10, 0) := by
  have := dec_fenc (p := [97, 98]) (by simp) []
  rw [List.append_nil] at this
  exact this

set_option maxRecDepth 100000 in
set_option maxHeartbeats 2000000 in
theorem awake4_any (w : World) :
    Calls Try.prog 7 #[] w fun e w' => e = .returned (.bool true) ∧ Below w.heap.size w w' := by
  have kc := fun (w : World) (C : Array Value) (n c : Nat) => Lib.run_convert_bytes_const (P := Try.prog) w 27 5 C n c Try.underlying27 Try.underlying5
  go_enter Try.func7, Try.ntmps7
  go_wp2_with fail
  refine (fnew_any w).mono ?_
  rintro e w1 ⟨rfl, h1, b1⟩
  have hd : LAt (w1.alloc (.cells #[.int .u8 97, .int .u8 98] 5 (2, 3))) (some ⟨w1.heap.size, 0, none⟩) [97, 98] := by
    intro i hi
    refine ⟨w1.heap.size, 0, rfl, by simp, ?_, ?_⟩
    · rw [cell_of' (heap_new _ _), Nat.zero_add]
      match i, hi with
      | 0, _ => rfl
      | 1, _ => rfl
    · match i, hi with
      | 0, _ => decide
      | 1, _ => decide
  have hb2 : Below w1.heap.size w1 (w1.alloc (.cells #[.int .u8 97, .int .u8 98] 5 (2, 3))) := (Below.refl _ _).alloc (Nat.le_refl _) _
  have hlt := h1.lt
  have EN := hide (fencode_any (cap := 2) (h1.keep (Touch.of_below (S := fun _ => False) hb2) (fun h => h)) hd (fun h => by cases h) (fun _ x hx => by cases hx; simp; omega) (by simp))
  have B2 := hide (b1.trans (hb2.mono b1.size))
  clear h1 b1 hd hb2
  go_wp2_with fail
  refine (unhide EN).mono ?_
  rintro e w3 ⟨v3, rfl, r3, n3, d3⟩
  have B3 := hide (below_touch (unhide B2) d3.touch (unhide B2).size (fun k hk => by omega))
  obtain ⟨x3, y3, rfl, l3, hc3, hm3, hn3, ho3, _⟩ := r3.parts
  have hlen : (fenc [97, 98]).length = 10 := by rw [fenc_len]; rfl
  have DE := fdecode_any d3.ready l3 hn3 hc3 (fun _ x hx => by have := n3 _ (ho3 x hx); simp at this; omega) (by omega)
  rw [dec_ab] at DE
  rw [hlen] at DE ⊢
  have DEH := hide DE
  clear DE r3 n3 d3 l3 hc3 hm3 hn3 ho3 EN B2 hlen
  go_wp2_with fail
  refine (unhide DEH).mono ?_
  rintro e w4 ⟨v4, rfl, r4, n4, d4⟩
  have B4 := hide (below_touch (unhide B3) d4.touch (unhide B3).size (fun k hk => by omega))
  obtain ⟨x4, y4, rfl, l4, _⟩ := r4.parts
  obtain ⟨cb, off, rfl, _, q0, _⟩ := l4.cell (i := 0) (by simp)
  obtain ⟨cb', off', e', _, q1, _⟩ := l4.cell (i := 1) (by simp)
  cases e'
  have CV := run_convert_bytes_back (P := Try.prog) w4 27 9 5 ⟨cb, off, none⟩ y4 [97, 98] Try.underlying27 Try.underlying5 Try.underlying9 (fun j hj => by
    match j, hj with
    | 0, _ => exact q0
    | 1, _ => exact q1)
  have CV2 : Sem.run Try.prog (convert 27 9 (.slice (some ⟨cb, off, none⟩) 2 y4)) w4 = .ok (.string ⟨#[97, 98]⟩) w4 := CV
  clear r4 n4 d4 l4 q0 q1 DEH B3 CV
  go_wp2
  go_returns
  exact ⟨by simp, unhide B4⟩
end Go.Proofs.Ytnhociggoagpoac
