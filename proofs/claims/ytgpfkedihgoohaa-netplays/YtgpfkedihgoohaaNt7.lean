/-
  net's Drop, pairOf and goes. Conditions: the net is one; numbers within 64 bits.
-/
import Derived.Test.YtgpfkedihgoohaaNt6
namespace Go.Proofs.Ytgpfkedihgoohaa
open Go.RowKit
set_option linter.unusedVariables false

theorem erase_map {α β : Type} (f : α → β) : ∀ (l : List α) (k : Nat), (l.map f).eraseIdx k = (l.eraseIdx k).map f
  | [], k => by simp
  | x :: r, 0 => by simp
  | x :: r, k + 1 => by simp [erase_map f r k]
theorem mem_erase {α : Type} {l : List α} {k : Nat} {x : α} (h : x ∈ l.eraseIdx k) : x ∈ l := List.mem_of_mem_eraseIdx h
/-- Behind remove. -/
theorem rm_post {w w' : World} {nb : Nat} {v : Value} {cm : Option Nat} {ps : List Pk} {D : Cts} {R : Nat → Prop} (h : NetAt w nb v cm ps D) (hR : ∀ k, NB nb v cm ps k → R k) {k : Nat} {hk : k < ps.length} {e : Ending} (hr : RmPost w nb v ps k hk [.map cm] 56 e w') : NPost w nb R ((ps.map Pk.abs).eraseIdx k) D w' ∧ PRow w' ps[k] := by
  obtain ⟨_, v', h1, h2, h3, h4⟩ := hr
  obtain ⟨a1, a2, a3⟩ := h.apart
  have each : ∀ p ∈ ps, PRow w' p := fun p hp => (h.list.each p hp).keep h3 (fun j hj hS => by
    rcases hS with rfl | hS
    · exact a1 p hp hj
    · exact h.list.apart hS p hp hj)
  refine ⟨NPost.of (ps' := ps.eraseIdx k) hR ⟨h1, ⟨h2, fun p hp => each p (mem_erase hp)⟩, h.cuts.keep h3 (fun m hm hs => ?_)⟩ (erase_map _ _ _).symm (h3.mono (fun j hj => hj.elim (fun e => .inl e) (fun e => .inr (.inr (.inl e))))) (fun j hj => ?_), each _ (List.getElem_mem hk)⟩
  · obtain ⟨b1, b2, b3⟩ := a3 m hm
    exact hs.elim b1 b2
  · rcases hj with rfl | hj | hj | ⟨p, hp, hj⟩
    · exact .inl (.inl rfl)
    · exact .inl (.inr (.inl hj))
    · exact .inl (.inr (.inr (.inl (by rw [← h4]; exact hj))))
    · exact .inl (.inr (.inr (.inr ⟨p, mem_erase hp, hj⟩)))

def DropPost (w : World) (nb : Nat) (R : Nat → Prop) (qs : List Pa) (D : Cts) (i : Int) (e : Ending) (w' : World) : Prop := e = .returned (.bool (decide (0 < qs.length))) ∧ NPost w nb R (qs.eraseIdx (rnd i qs.length)) D w'
theorem drop_nil (i : Int) (w : World) : Calls Try.prog 17 #[.pointer none, .int .i64 i] w fun e w' => e = .returned (.bool false) ∧ w' = w := by
  have K := hide (place_nil i w)
  go_enter Try.func17, Try.ntmps17
  go_wp2_with fail
  refine (unhide K).mono ?_
  rintro e w1 ⟨rfl, rfl⟩
  clear K
  go_wp2
  go_returns
  exact ⟨rfl, rfl⟩
set_option maxRecDepth 100000 in
theorem drop_any {w : World} {nb : Nat} {R : Nat → Prop} {qs : List Pa} {D : Cts} (h : NS w nb R qs D) (i : Int) (hi : InR i) : Calls Try.prog 17 #[.pointer (some ⟨nb, 0, none⟩), .int .i64 i] w fun e w' => DropPost w nb R qs D i e w' := by
  by_cases h0 : 0 < qs.length
  · have K := hide (place_some h h0 i hi)
    obtain ⟨v, cm, ps, h1, rfl, h3⟩ := h.ex
    obtain ⟨k, hke⟩ : ∃ k, k = rnd i (ps.map Pk.abs).length := ⟨_, rfl⟩
    have hk : k < ps.length := by rw [hke]; have := rnd_lt i h0; simpa using this
    rw [← hke] at K
    have RM := hide (remove_any (us := [.map cm]) h1.box h1.list (by decide) hk)
    have F : Hid (∀ e w', RmPost w nb v ps k hk [.map cm] 56 e w' → DropPost w nb R (ps.map Pk.abs) D i (.returned (.bool true)) w') := fun e w' hr => ⟨by simp only [h0, decide_true], by rw [← hke]; exact (rm_post h1 h3 hr).1⟩
    clear h h1 h3 hke h0
    go_enter Try.func17, Try.ntmps17
    go_wp2_with fail
    refine (unhide K).mono ?_
    rintro e w1 ⟨rfl, rfl⟩
    clear K
    go_wp2_with fail
    refine (unhide RM).mono ?_
    rintro e w2 hr
    have FF := hide (unhide F e w2 hr)
    obtain ⟨rfl, _⟩ := hr
    clear RM F
    go_wp2
    go_returns
    exact unhide FF
  · obtain rfl : qs = [] := List.eq_nil_of_length_eq_zero (by omega)
    have K := hide (place_none h i)
    have F : Hid (DropPost w nb R [] D i (.returned (.bool false)) w) := ⟨rfl, h.post (Below.refl _ _)⟩
    clear h h0
    go_enter Try.func17, Try.ntmps17
    go_wp2_with fail
    refine (unhide K).mono ?_
    rintro e w1 ⟨rfl, rfl⟩
    clear K
    go_wp2
    go_returns
    exact unhide F

theorem pairOf_low {a b : Int} (h : a < b) (w : World) : Calls Try.prog 37 #[.int .i64 a, .int .i64 b] w fun e w' => e = .returned (pairV a b) ∧ w' = w.alloc (.cells #[.int .i64 a, .int .i64 b] 65) := by
  have hb := heap_new w (.cells #[.int .i64 a, .int .i64 b] 65)
  have y0 := cell_of hb 0
  have y1 := cell_of hb 1
  simp only [List.getElem?_toArray, List.getElem?_cons_zero, List.getElem?_cons_succ] at y0 y1
  have h1 : ¬ b < a := by omega
  have h2 : a ≤ b := by omega
  have h3 : ¬ b ≤ a := by omega
  clear hb
  go_enter Try.func37, Try.ntmps37
  go_wp2
  refine bodyPost_ret (by simp [results, Try.results37, go_sem, y0, y1]; try rfl) rfl ?_
  exact ⟨rfl, rfl⟩
theorem pairOf_high {a b : Int} (h : b < a) (w : World) : Calls Try.prog 37 #[.int .i64 a, .int .i64 b] w fun e w' => e = .returned (pairV b a) ∧ w' = w.alloc (.cells #[.int .i64 b, .int .i64 a] 65) := by
  have hb := heap_new w (.cells #[.int .i64 b, .int .i64 a] 65)
  have y0 := cell_of hb 0
  have y1 := cell_of hb 1
  simp only [List.getElem?_toArray, List.getElem?_cons_zero, List.getElem?_cons_succ] at y0 y1
  have h1 : ¬ a < b := by omega
  have h2 : b ≤ a := by omega
  have h3 : ¬ a ≤ b := by omega
  clear hb
  go_enter Try.func37, Try.ntmps37
  go_wp2
  refine bodyPost_ret (by simp [results, Try.results37, go_sem, y0, y1]; try rfl) rfl ?_
  exact ⟨rfl, rfl⟩
theorem pairOf_same (a : Int) (w : World) : Calls Try.prog 37 #[.int .i64 a, .int .i64 a] w fun e w' => e = .returned (pairV a a) ∧ w' = w.alloc (.cells #[.int .i64 a, .int .i64 a] 65) := by
  have hb := heap_new w (.cells #[.int .i64 a, .int .i64 a] 65)
  have y0 := cell_of hb 0
  have y1 := cell_of hb 1
  simp only [List.getElem?_toArray, List.getElem?_cons_zero, List.getElem?_cons_succ] at y0 y1
  have h1 : ¬ a < a := by omega
  have h2 : a ≤ a := by omega
  clear hb
  go_enter Try.func37, Try.ntmps37
  go_wp2
  refine bodyPost_ret (by simp [results, Try.results37, go_sem, y0, y1]; try rfl) rfl ?_
  exact ⟨rfl, rfl⟩
/-- x and y: the lesser of the two, and the greater. -/
theorem pairOf_any {a b x y : Int} (hx : x = min a b) (hy : y = max a b) (w : World) : Calls Try.prog 37 #[.int .i64 a, .int .i64 b] w fun e w' => e = .returned (pairV x y) ∧ w' = w.alloc (.cells #[.int .i64 x, .int .i64 y] 65) := by
  rcases Int.lt_trichotomy a b with h | h | h
  · obtain rfl : x = a := by omega
    obtain rfl : y = b := by omega
    exact pairOf_low h w
  · subst h
    obtain rfl : x = a := by omega
    obtain rfl : y = x := by omega
    exact pairOf_same y w
  · obtain rfl : x = b := by omega
    obtain rfl : y = a := by omega
    exact pairOf_high h w

set_option maxRecDepth 100000 in
set_option maxHeartbeats 1000000 in
theorem goes_any {w : World} {nb : Nat} {v : Value} {cm : Option Nat} {ps : List Pk} {D : Cts} (h : NetAt w nb v cm ps D) {p : Pk} (hf : InR p.fr) (ht : InR p.to) : Calls Try.prog 32 #[.pointer (some ⟨nb, 0, none⟩), pkV p] w fun e w' => e = .returned (.bool (!isC D p.fr p.to)) ∧ Below w.heap.size w w' := by
  obtain ⟨fr, to, a, c, l⟩ := p
  simp only at hf ht ⊢
  obtain ⟨x, hx⟩ : ∃ x, x = min fr to := ⟨_, rfl⟩
  obtain ⟨y, hy⟩ : ∃ y, y = max fr to := ⟨_, rfl⟩
  have hic : isC D x y = isC D fr to := by rw [hx, hy]; exact isC_sort D fr to
  have hix : InR x := by rw [hx]; exact hf.min ht
  have hiy : InR y := by rw [hy]; exact hf.max ht
  have hxy : x ≤ y := by omega
  have K : Hid (∀ X, Calls Try.prog 37 #[.int .i64 fr, .int .i64 to] X fun e w' => e = .returned (pairV x y) ∧ w' = X.alloc (.cells #[.int .i64 x, .int .i64 y] 65)) := fun X => pairOf_any hx hy X
  have hA : Below w.heap.size w (w.alloc (.cells #[.int .i64 fr, .int .i64 to, .slice a l.length c] 33)) := (Below.refl _ _).alloc (Nat.le_refl _) _
  have G : (w.alloc (.cells #[.int .i64 fr, .int .i64 to, .slice a l.length c] 33)).heap[w.heap.size]? = some (.cells #[.int .i64 fr, .int .i64 to, .slice a l.length c] 33) := heap_new _ _
  have k0 : (w.alloc (.cells #[.int .i64 fr, .int .i64 to, .slice a l.length c] 33)).cell? ⟨w.heap.size, 0, none⟩ = some (.int .i64 fr) := by rw [cell_of G]; rfl
  have k1 : (w.alloc (.cells #[.int .i64 fr, .int .i64 to, .slice a l.length c] 33)).cell? ⟨w.heap.size, 1, none⟩ = some (.int .i64 to) := by rw [cell_of G]; rfl
  have c1 : (w.alloc (.cells #[.int .i64 fr, .int .i64 to, .slice a l.length c] 33)).cell? ⟨nb, 1, none⟩ = some (.map cm) := by rw [cell_of (below_keep hA h.box)]; rfl
  have HNB : Hid (nb < (w.alloc (.cells #[.int .i64 fr, .int .i64 to, .slice a l.length c] 33)).heap.size) := lt_of_heap (below_keep hA h.box)
  have LK : Hid (∀ X, Below (w.alloc (.cells #[.int .i64 fr, .int .i64 to, .slice a l.length c] 33)).heap.size (w.alloc (.cells #[.int .i64 fr, .int .i64 to, .slice a l.length c] 33)) X → (Instr.lookup 54 (.map cm) (pairV x y) true).run Try.prog X = .ok (.tuple #[.agg #[], .bool (isC D x y)]) X) := fun X hX =>
    (h.cuts.keep (Touch.of_below (S := fun _ => False) (hA.trans (hX.mono hA.size))) (fun _ _ h => h)).look hix hiy hxy
  have HA := hide hA
  clear G hA h
  rw [← hic]
  clear hic hx hy hxy hix hiy hf ht
  generalize isC D x y = r at *
  simp only [pkV, pkS]
  generalize l.length = m at *
  go_enter Try.func32, Try.ntmps32
  go_wp2_with fail
  generalize w.alloc (.cells #[.int .i64 fr, .int .i64 to, .slice a m c] 33) = W at *
  have SK : Hid (∀ X, Below W.heap.size W X → X.cell? ⟨w.heap.size, 0, none⟩ = some (.int .i64 fr) ∧ X.cell? ⟨w.heap.size, 1, none⟩ = some (.int .i64 to) ∧ X.cell? ⟨nb, 1, none⟩ = some (.map cm) ∧ (Instr.lookup 54 (.map cm) (pairV x y) true).run Try.prog X = .ok (.tuple #[.agg #[], .bool r]) X) := fun X hX =>
    ⟨(hX.cell (p := ⟨w.heap.size, 0, none⟩) (lt_of_cell k0)).trans k0, (hX.cell (p := ⟨w.heap.size, 1, none⟩) (lt_of_cell k1)).trans k1, (hX.cell (p := ⟨nb, 1, none⟩) (unhide HNB)).trans c1, unhide LK X hX⟩
  have F : Hid (∀ X, Below W.heap.size W X → Below w.heap.size w X) := fun X hX => (unhide HA).trans (hX.mono (unhide HA).size)
  clear LK HA HNB
  go_region_held3 (fun w' => w'.cell? ⟨w.heap.size, 0, none⟩ = some (.int .i64 fr) ∧ w'.cell? ⟨w.heap.size, 1, none⟩ = some (.int .i64 to) ∧ w'.cell? ⟨nb, 1, none⟩ = some (.map cm) ∧ (Instr.lookup 54 (.map cm) (pairV x y) true).run Try.prog w' = .ok (.tuple #[.agg #[], .bool r]) w') (exact unhide SK _ (by go_grown)) (first | (go_at_call 37; refine (unhide K _).mono ?_; rintro e w2 ⟨rfl, rfl⟩))
  all_goals
    go_wp2
    go_returns
    exact ⟨rfl, unhide F _ (by go_grown)⟩
end Go.Proofs.Ytgpfkedihgoohaa
