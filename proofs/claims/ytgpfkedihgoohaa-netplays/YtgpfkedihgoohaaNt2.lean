/-
  A net's inner calls: place, get, own, add; then Send. Conditions: the net is one, and so is the packet.
-/
import Derived.Test.YtgpfkedihgoohaaNt1
import Derived.Deep.RegionWith
import Derived.Deep.RegionHeld3
import Derived.Deep.RegionLaw
import Derived.BigQuiet
namespace Go.Proofs.Ytgpfkedihgoohaa
open Go.RowKit
set_option linter.unusedVariables false

theorem place_nil (i : Int) (w : World) : Calls Try.prog 30 #[.pointer none, .int .i64 i] w fun e w' => e = .returned (.tuple #[.int .i64 0, .bool false]) ∧ w' = w := by
  go_enter Try.func30, Try.ntmps30
  go_wp2
  go_returns
  exact ⟨rfl, rfl⟩
theorem place_of {w : World} {nb : Nat} {i : Int} {x y : Value} (K : Calls Try.prog 39 #[.pointer (some ⟨nb, 0, none⟩), .int .i64 i] w fun e w' => e = .returned (.tuple #[x, y]) ∧ w' = w) :
    Calls Try.prog 30 #[.pointer (some ⟨nb, 0, none⟩), .int .i64 i] w fun e w' => e = .returned (.tuple #[x, y]) ∧ w' = w := by
  have K := hide K
  go_enter Try.func30, Try.ntmps30
  go_wp2_with fail
  refine (unhide K).mono ?_
  rintro e w1 ⟨rfl, rfl⟩
  clear K
  go_wp2
  go_returns
  exact ⟨rfl, rfl⟩
theorem place_none {w : World} {nb : Nat} {R : Nat → Prop} {D : Cts} (h : NS w nb R [] D) (i : Int) : Calls Try.prog 30 #[.pointer (some ⟨nb, 0, none⟩), .int .i64 i] w fun e w' => e = .returned (.tuple #[.int .i64 0, .bool false]) ∧ w' = w := by
  obtain ⟨v, cm, ps, h1, h2, h3⟩ := h.ex
  obtain rfl : ps = [] := by simpa using h2
  obtain ⟨a, cap, _, hc, _⟩ := h1.cell
  exact place_of (round_none hc i)
theorem place_some {w : World} {nb : Nat} {R : Nat → Prop} {qs : List Pa} {D : Cts} (h : NS w nb R qs D) (h0 : 0 < qs.length) (i : Int) (hi : InR i) : Calls Try.prog 30 #[.pointer (some ⟨nb, 0, none⟩), .int .i64 i] w fun e w' => e = .returned (.tuple #[.int .i64 (rnd i qs.length : Int), .bool true]) ∧ w' = w := by
  obtain ⟨v, cm, ps, h1, rfl, h3⟩ := h.ex
  obtain ⟨a, cap, _, hc, hl, hm⟩ := h1.cell
  rw [List.length_map] at *
  exact place_of (round_some hc h0 (by omega) i hi)

section
variable {α : Type} (f : α → List Value) {m : Nat} (hm : ∀ x, (f x).length = m)
include hm
theorem flat_len (l : List α) : (l.flatMap f).length = l.length * m := by
  induction l with
  | nil => simp
  | cons x r ih => rw [List.flatMap_cons, List.length_append, hm, ih, List.length_cons, Nat.add_mul]; omega
theorem flat_at : ∀ (l : List α) (i j : Nat) (hi : i < l.length), j < m → (l.flatMap f)[i * m + j]? = (f l[i])[j]? := by
  intro l
  induction l with
  | nil => intro i j hi; cases hi
  | cons x r ih =>
    intro i j hi hj
    rw [List.flatMap_cons]
    cases i with
    | zero => rw [Nat.zero_mul, Nat.zero_add, List.getElem?_append_left (by rw [hm]; exact hj)]; rfl
    | succ i =>
      have e : (i + 1) * m + j = (f x).length + (i * m + j) := by rw [hm, Nat.add_mul]; omega
      rw [e, List.getElem?_append_right (by omega), Nat.add_sub_cancel_left]
      exact ih i j (by simpa using hi) hj
end
/-- Packet k in its row. -/
theorem PL.at_ {w : World} {v : Value} {ps : List Pk} (h : PL w v ps) {k : Nat} (hk : k < ps.length) : ∃ g cap, v = .slice (some ⟨g, 0, none⟩) ps.length cap ∧ g < w.heap.size ∧ ps.length ≤ cap ∧ cap ≤ maxLen ∧ w.cell? ⟨g, k * 3, none⟩ = some (.int .i64 ps[k].fr) ∧ w.cell? ⟨g, k * 3 + 1, none⟩ = some (.int .i64 ps[k].to) ∧ w.cell? ⟨g, k * 3 + 2, none⟩ = some (pkS ps[k]) := by
  obtain ⟨a, cap, hv, hcap, hmax, _, _, hcells⟩ := h.row.parts
  obtain ⟨g, rfl, e2, e3, _⟩ := hcells (by omega)
  refine ⟨g, cap, hv, e2, hcap, hmax, ?_, ?_, ?_⟩
  · rw [e3 (k * 3) (by omega)]
    have := flat_at pkC pkC_len ps k 0 hk (by omega)
    rw [Nat.add_zero] at this
    rw [this]; rfl
  · rw [e3 (k * 3 + 1) (by omega), flat_at pkC pkC_len ps k 1 hk (by omega)]; rfl
  · rw [e3 (k * 3 + 2) (by omega), flat_at pkC pkC_len ps k 2 hk (by omega)]; rfl

/-- A packet that is answered: as it lies in w. -/
def GetPost (w : World) (p : Pk) (e : Ending) (w' : World) : Prop := e = .returned (pkV p) ∧ Below w.heap.size w w'
set_option maxRecDepth 100000 in
theorem get_any {w : World} {nb : Nat} {v : Value} {cm : Option Nat} {ps : List Pk} {D : Cts} (h : NetAt w nb v cm ps D) {k : Nat} (hk : k < ps.length) :
    Calls Try.prog 36 #[.pointer (some ⟨nb, 0, none⟩), .int .i64 (k : Int)] w fun e w' => GetPost w ps[k] e w' := by
  obtain ⟨g, cap, hv, hg, hcap, hmax, y0, y1, y2⟩ := h.list.at_ hk
  have c0 : w.cell? ⟨nb, 0, none⟩ = some (.slice (some ⟨g, 0, none⟩) ps.length cap) := by rw [cell_of h.box, ← hv]; rfl
  have hA : Below w.heap.size w (w.alloc (.cells #[.int .i64 0, .int .i64 0, .slice none 0 0] 33)) := (Below.refl _ _).alloc (Nat.le_refl _) _
  have hnb := lt_of_heap h.box
  have k0 := (hA.cell (p := ⟨nb, 0, none⟩) hnb).trans c0
  have z0 := (hA.cell (p := ⟨g, k * 3, none⟩) hg).trans y0
  have z1 := (hA.cell (p := ⟨g, k * 3 + 1, none⟩) hg).trans y1
  have z2 := (hA.cell (p := ⟨g, k * 3 + 2, none⟩) hg).trans y2
  have hkl : (k : Int) < (ps.length : Int) := by omega
  have hz : (0 : Int) ≤ (k : Int) := by omega
  clear h hv hA y0 y1 y2 c0
  generalize ps[k] = p at *
  obtain ⟨fr, to, a, c, l⟩ := p
  simp only [pkS] at z0 z1 z2
  have A : Hid (Below w.heap.size w (w.alloc (.cells #[.int .i64 fr, .int .i64 to, .slice a l.length c] 33))) := (Below.refl _ _).alloc (Nat.le_refl _) _
  have G : Hid ((w.alloc (.cells #[.int .i64 fr, .int .i64 to, .slice a l.length c] 33)).heap[w.heap.size]? = some (.cells #[.int .i64 fr, .int .i64 to, .slice a l.length c] 33)) := heap_new _ _
  unfold GetPost pkV pkS
  dsimp only
  generalize l.length = m at *
  go_enter Try.func36, Try.ntmps36
  go_wp2
  have x0 := cell_of (unhide G) 0
  have x1 := cell_of (unhide G) 1
  have x2 := cell_of (unhide G) 2
  simp only [List.getElem?_toArray, List.getElem?_cons_zero, List.getElem?_cons_succ] at x0 x1 x2
  refine bodyPost_ret (by simp [results, Try.results36, go_sem, x0, x1, x2]; try rfl) rfl ?_
  exact ⟨rfl, unhide A⟩

/-- bytes.Clone. -/
def ClPost (w : World) (l : List Nat) (e : Ending) (w' : World) : Prop := ∃ a c, e = .returned (.slice a l.length c) ∧ Row w' (.slice a l.length c) l ∧ New w (.slice a l.length c) ∧ Below w.heap.size w w'
set_option maxRecDepth 100000 in
theorem clone_any {w : World} {a : Option Addr} {l : List Nat} {c : Nat} (h : LAt w a l) (hn : a = none → c = 0) (hl : l.length ≤ 140737488355328) : Calls Try.prog 38 #[.slice a l.length c] w fun e w' => ClPost w l e w' := by
  cases a with
  | none =>
    have h0 : l = [] := by
      cases l with
      | nil => rfl
      | cons x r => obtain ⟨b, off, e, _⟩ := h.cell (i := 0) (by simp); cases e
    subst h0
    obtain rfl := hn rfl
    have F : Hid (ClPost w [] (.returned (.slice none 0 0)) w) := ⟨none, 0, rfl, Row.nil w, New.nil w, Below.refl _ _⟩
    clear h
    have eq := eql_nil (P := Try.prog) w 31 5 none 0 0 Try.underlying31
    go_enter Try.func38, Try.ntmps38
    go_wp2
    go_returns
    exact unhide F
  | some x =>
    have eq := eql_nil (P := Try.prog) w 31 5 (some x) l.length c Try.underlying31
    have hA : Below w.heap.size w (w.alloc (.cells #[] 5)) := (Below.refl _ _).alloc (Nat.le_refl _) _
    have HA := hide hA
    have SRC := hide (h.later hA)
    have R0 : Hid (Row (w.alloc (.cells #[] 5)) (.slice (some ⟨w.heap.size, 0, none⟩) 0 0) []) := Row.lit w [] (by simp) #[] rfl (Nat.zero_le _)
    clear h hA
    have F : Hid (∀ v' w', Row w' v' ([] ++ l) → Touch (fun k => (Value.slice (some ⟨w.heap.size, 0, none⟩) 0 0).ownBlock = some k) (w.alloc (.cells #[] 5)) w' → Moved (w.alloc (.cells #[] 5)) (.slice (some ⟨w.heap.size, 0, none⟩) 0 0) v' → ClPost w l (.returned v') w') := fun v' w' r t m => by
      obtain ⟨a', c', e, h1, h2, h3, h4, h5, _⟩ := r.parts
      simp only [List.nil_append] at e r
      subst e
      refine ⟨a', c', rfl, r, fun k hk => ?_, ?_⟩
      · rcases m k hk with e | e
        · have : w.heap.size = k := by simpa [Value.ownBlock] using e
          omega
        · simp at e; omega
      · refine below_touch (unhide HA) t (by simp) (fun k hk => ?_)
        have : w.heap.size = k := by simpa [Value.ownBlock] using hk
        omega
    go_enter Try.func38, Try.ntmps38
    go_wp2_with (at_builtin; refine wpList_row _ rfl (.tmp 5) (.tmp 6) rfl _ [] rfl (unhide R0) _ _ l rfl (unhide SRC) (by intro h; cases h) (by simp; exact hl) ?_; intro v' w' r t m)
    have FF := hide (unhide F v' w' r t m)
    clear F r t m R0 SRC HA
    go_returns
    exact unhide FF
end Go.Proofs.Ytgpfkedihgoohaa
