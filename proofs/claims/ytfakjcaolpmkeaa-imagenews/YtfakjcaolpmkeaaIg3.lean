/-
  What an image is asked that it only reads: isNode, isPart, isList, isThere. Conditions: as each says.
-/
import Derived.Test.YtfakjcaolpmkeaaIg2
namespace Go.Proofs.Ytfakjcaolpmkeaa
open Go.RowKit Go.Maps
set_option linter.unusedVariables false

def isN (n : Nat) (x : Int) : Bool := decide (0 ≤ x) && decide (x < (n : Int))
theorem isNode_nil (w : World) (x : Int) : Calls Try.prog 27 #[.pointer none, .int .i64 x] w fun e w' => e = .returned (.bool false) ∧ Touch (fun _ => False) w w' := by
  go_enter Try.func27, Try.ntmps27
  go_wp2
  go_ret
  exact ⟨rfl, Touch.refl _ _⟩
theorem isPart_nil (w : World) (x : Int) : Calls Try.prog 24 #[.pointer none, .int .i64 x] w fun e w' => e = .returned (.bool false) ∧ Touch (fun _ => False) w w' := by
  go_enter Try.func24, Try.ntmps24
  go_wp2
  go_ret
  exact ⟨rfl, Touch.refl _ _⟩
section
variable {w : World} {mb : Nat} {m : Im}
theorem isNode_eq (h : ImAt w mb m) (x : Int) : Calls Try.prog 27 #[.pointer (some ⟨mb, 0, none⟩), .int .i64 x] w fun e w' => e = .returned (.bool (isN m.ns.length x)) ∧ w' = w := by
  obtain ⟨c0, _⟩ := h.c
  obtain ⟨a, cap, e, _⟩ := h.nds.parts
  rw [e] at c0
  clear h e
  generalize m.ns.length = n at *
  unfold isN
  by_cases h0 : 0 ≤ x
  · by_cases h1 : x < (n : Int)
    all_goals
      go_enter Try.func27, Try.ntmps27
      go_wp2
      go_ret
      exact ⟨by simp [h0, h1], rfl⟩
  · go_enter Try.func27, Try.ntmps27
    go_wp2
    go_ret
    exact ⟨by simp; intro hh; omega, rfl⟩
theorem isNode_any (h : ImAt w mb m) (x : Int) : Calls Try.prog 27 #[.pointer (some ⟨mb, 0, none⟩), .int .i64 x] w fun e w' => e = .returned (.bool (isN m.ns.length x)) ∧ Touch (fun _ => False) w w' :=
  (isNode_eq h x).mono (fun e w' hh => ⟨hh.1, by rw [hh.2]; exact Touch.refl _ _⟩)
theorem isPart_eq (h : ImAt w mb m) (x : Int) : Calls Try.prog 24 #[.pointer (some ⟨mb, 0, none⟩), .int .i64 x] w fun e w' => e = .returned (.bool (isN m.ps.length x)) ∧ w' = w := by
  obtain ⟨_, c0, _⟩ := h.c
  obtain ⟨a, cap, e, _⟩ := h.pts.parts
  rw [e] at c0
  clear h e
  generalize m.ps.length = n at *
  unfold isN
  by_cases h0 : 0 ≤ x
  · by_cases h1 : x < (n : Int)
    all_goals
      go_enter Try.func24, Try.ntmps24
      go_wp2
      go_ret
      exact ⟨by simp [h0, h1], rfl⟩
  · go_enter Try.func24, Try.ntmps24
    go_wp2
    go_ret
    exact ⟨by simp; intro hh; omega, rfl⟩
theorem isPart_any (h : ImAt w mb m) (x : Int) : Calls Try.prog 24 #[.pointer (some ⟨mb, 0, none⟩), .int .i64 x] w fun e w' => e = .returned (.bool (isN m.ps.length x)) ∧ Touch (fun _ => False) w w' :=
  (isPart_eq h x).mono (fun e w' hh => ⟨hh.1, by rw [hh.2]; exact Touch.refl _ _⟩)
/-- Is the node there? -/
def thr (ns : List Nd) (x : Int) : Bool := (ns.getD x.toNat default).th
theorem isThere_any (h : ImAt w mb m) {x : Int} (hx : isN m.ns.length x = true) : Calls Try.prog 37 #[.pointer (some ⟨mb, 0, none⟩), .int .i64 x] w fun e w' => e = .returned (.bool (thr m.ns x)) ∧ Touch (fun _ => False) w w' := by
  have hx' : 0 ≤ x ∧ x < (m.ns.length : Int) := by simpa [isN] using hx
  obtain ⟨k, rfl⟩ := Int.eq_ofNat_of_zero_le hx'.1
  have hk : k < m.ns.length := by omega
  obtain ⟨c0, _⟩ := h.c
  obtain ⟨g, cap, e, _, h2, h3, _⟩ := h.nc hk
  rw [e] at c0
  have c1 := h3 0 (by omega)
  have et : thr m.ns (k : Int) = (m.ns[k]).th := by simp [thr, List.getD, hk]
  rw [et]
  simp only [ndC, List.getElem?_cons_zero, Nat.add_zero] at c1
  have hbig : m.ns.length ≤ 9223372036854775807 := by unfold maxLen at h2; omega
  generalize (m.ns[k]).th = b at *
  clear h h3 e et hx
  generalize m.ns.length = n at *
  go_enter Try.func37, Try.ntmps37
  go_wp2
  go_ret
  exact ⟨rfl, Touch.refl _ _⟩
/-- All of a list are nodes. -/
def inN (n : Nat) (l : List Int) : Prop := ∀ x ∈ l, isN n x = true
theorem tells_there (h : ImAt w mb m) {l : List Int} (hl : inN m.ns.length l) : Tells w 37 #[.pointer (some ⟨mb, 0, none⟩)] #[] l (thr m.ns) :=
  fun x hx W t => isThere_any (h.quiet t) (hl x hx)
theorem eg_there : ∀ args w, (callFunc 37 args).run Try.prog w = .ok (.enter 37 args) w := enters_of Try.func37 (by kernel_rfl) rfl
/-- A list that rises, of nodes alone. -/
def risF (n : Nat) : Int → List Int → Bool
  | _, [] => true
  | last, x :: r => decide (last < x) && isN n x && risF n x r
def isL (n : Nat) (l : List Int) : Bool := risF n (-1) l && decide (0 < l.length)
def lastI (last : Int) : List Int → Int
  | [] => last
  | x :: r => lastI x r
theorem risF_snoc (n : Nat) : ∀ (l : List Int) (last x : Int), risF n last (l ++ [x]) = (risF n last l && decide (lastI last l < x) && isN n x)
  | [], last, x => by simp [risF, lastI]; rfl
  | y :: r, last, x => by simp [risF, lastI, risF_snoc n r y x, Bool.and_assoc]; rfl
theorem lastI_snoc : ∀ (l : List Int) (last x : Int), lastI last (l ++ [x]) = x
  | [], last, x => rfl
  | y :: r, last, x => lastI_snoc r y x
theorem risF_take_false {n : Nat} {l : List Int} {k : Nat} (h : risF n (-1) (l.take k) = false) : risF n (-1) l = false := by
  have gen : ∀ (l : List Int) (k : Nat) (last : Int), risF n last (l.take k) = false → risF n last l = false := by
    intro l
    induction l with
    | nil => intro k last h; simp [risF] at h
    | cons y r ih =>
      intro k last h
      cases k with
      | zero => simp [risF] at h
      | succ k =>
        rw [List.take_succ_cons] at h
        simp only [risF, Bool.and_eq_false_iff] at h ⊢
        rcases h with h | h
        · exact .inl h
        · exact .inr (ih k y h)
  exact gen l k (-1) h
theorem take_snoc {l : List Int} {k : Nat} (h : k < l.length) : l.take (k + 1) = l.take k ++ [l.getD k 0] := by
  rw [List.take_add_one, List.getElem?_eq_getElem h]
  simp [List.getD, h]
set_option maxHeartbeats 1000000 in
theorem isList_any (h : ImAt w mb m) {a : Option Addr} {l : List Int} {c : Nat} (hl : IAt w a l) (hm : l.length ≤ maxLen) :
    Calls Try.prog 33 #[.pointer (some ⟨mb, 0, none⟩), .slice a l.length c] w fun e w' => e = .returned (.bool (isL m.ns.length l)) ∧ Touch (fun _ => False) w w' := by
  have H := hide h
  have HI := hide hl
  have HM := hide hm
  generalize hn : l.length = n
  have HN := hide hn
  clear h hl hm hn
  go_enter Try.func33, Try.ntmps33
  go_wp2
  go_loopg [4, 5, 7, 10] n (fun gg _ s5 _ s10 wr => ∃ kk : Nat, ∃ la : Int, kk ≤ n ∧ n - kk ≤ gg ∧ s10 = .int .i64 kk ∧ s5 = .int .i64 la ∧ Hid (la = lastI (-1) (l.take kk)) ∧ Hid (Touch (fun _ => False) w wr) ∧ Hid (risF m.ns.length (-1) (l.take kk) = true))
  case atStart => exact ⟨0, -1, Nat.zero_le _, by omega, rfl, rfl, hide rfl, hide (Touch.refl _ _), hide (by simp [risF])⟩
  case round =>
    obtain ⟨kk, la, hkk, hg, rfl, rfl, LA, T, A⟩ := hrel
    by_cases hlt : kk < n
    · have hltz : (kk : Int) < (n : Int) := by omega
      have hk' : kk < l.length := by rw [unhide HN]; exact hlt
      have hbig : n ≤ 9223372036854775807 := by have := unhide HM; rw [unhide HN] at this; unfold maxLen at this; omega
      obtain ⟨b, off, rfl, hb0, hcell⟩ := (IAt.keep (unhide HI) (unhide T) (fun _ _ _ hf => hf)) kk hk'
      have HS := hide (take_snoc hk')
      clear hk' hb0
      generalize l.getD kk 0 = y at *
      have hcall := hide (isNode_any ((unhide H).quiet (unhide T)) y)
      by_cases hla : y ≤ la
      · go_wp2
        go_ret
        refine ⟨?_, unhide T⟩
        have : risF m.ns.length (-1) l = false := risF_take_false (k := kk + 1) (by rw [unhide HS, risF_snoc, ← unhide LA]; simp [show ¬ la < y by omega])
        simp [isL, this]
      · have hla2 : la < y := by omega
        cases hq : isN m.ns.length y with
        | false =>
          rw [hq] at hcall
          go_wp2_with (go_at_call 27; refine (unhide hcall).mono ?_; rintro e w' ⟨rfl, t2⟩; have T2 := hide t2; clear t2)
          go_ret
          refine ⟨?_, (unhide T).trans (unhide T2)⟩
          have : risF m.ns.length (-1) l = false := risF_take_false (k := kk + 1) (by rw [unhide HS, risF_snoc]; simp [hq])
          simp [isL, this]
        | true =>
          rw [hq] at hcall
          go_wp2_with (go_at_call 27; refine (unhide hcall).mono ?_; rintro e w' ⟨rfl, t2⟩; have T2 := hide t2; clear t2)
          go_roundg (n - (kk + 1))
          case measure => omega
          case rel =>
            refine ⟨kk + 1, y, by omega, by omega, by go_num, rfl, hide (by rw [unhide HS, lastI_snoc]), hide ((unhide T).trans (unhide T2)), hide (by rw [unhide HS, risF_snoc, ← unhide LA, unhide A, hq]; simp [hla2])⟩
    · have hltz : ¬ (kk : Int) < (n : Int) := by omega
      have e : kk = n := by omega
      have A' := unhide A
      rw [e, ← unhide HN, List.take_length] at A'
      have A2 := hide A'
      clear A'
      go_wp2
      go_ret
      refine ⟨?_, unhide T⟩
      simp [isL, unhide A2, unhide HN]
end
end Go.Proofs.Ytfakjcaolpmkeaa
