/-
  Rows of pairs (a number, bytes): a raft's entries and commits, as they lie; bytes.Clone; a sort of one number; a map of votes. Conditions: numbers within 64 bits, rows of at most 2^47 bytes.
-/
import Derived.Test.YtibjfekfkllnjaaWd8
import Derived.Maps.OwnSet
import Derived.Deep.RegionWith
import Derived.Deep.RegionHeld3
import Derived.Deep.RegionLaw
import Derived.BigQuiet
namespace Go.Proofs.Ytibjfekfkllnjaa
open Go.RowKit Go.Maps
set_option linter.unusedVariables false

theorem wrap_low {i : Int} (h0 : 0 ≤ i) (h1 : i ≤ 9223372036854775807) : IntKind.i64.wrap i = i := by
  simp [IntKind.wrap, IntKind.bits, IntKind.signed]
  omega
def InR (i : Int) : Prop := -9223372036854775808 ≤ i ∧ i ≤ 9223372036854775807
theorem InR.wf {i : Int} (h : InR i) : (Lit.int .i64 i).wf = true := by
  obtain ⟨h1, h2⟩ := h
  simp [Lit.wf, IntKind.min, IntKind.max, IntKind.signed, IntKind.bits]; omega
theorem Row.heap {w : World} {v : Value} {l : List Nat} (h : Row w v l) {k : Nat} (hk : v.ownBlock = some k) : ∃ cs, w.heap[k]? = some (.cells cs 5) := by
  rcases h.own.2 with ⟨rfl, _⟩ | ⟨g, cap, cur, rfl, hb, hgg, rest⟩
  · simp [Value.ownBlock] at hk
  · have : g = k := by simpa [Value.ownBlock] using hk
    rw [this] at hgg; exact ⟨_, hgg⟩
theorem below_drewN3 {B : Nat} {w0 w : World} (h : Below B w0 w) (n : Nat) : Below B w0 (w.drewN n) := h.trans ⟨rfl, rfl, rfl, Nat.le_refl _, fun _ _ => rfl⟩
theorem Touch.drewN {S : Nat → Prop} {a w : World} (h : Touch S a w) (n : Nat) : Touch S a (w.drewN n) := ⟨h.os, h.tape, h.output, h.size, h.block⟩
section
variable {α : Type} (f : α → List Value) {m : Nat} (hm : ∀ x, (f x).length = m)
include hm
theorem flat_len (l : List α) : (l.flatMap f).length = l.length * m := by
  induction l with
  | nil => simp
  | cons x r ih => rw [List.flatMap_cons, List.length_append, hm, ih, List.length_cons, Nat.add_mul]; omega
theorem flat_at : ∀ (l : List α) (i j : Nat) (hi : i < l.length), j < m → (l.flatMap f)[i * m + j]? = (f l[i])[j]? := by
  intro l
  induction l with
  | nil => intro i j hi; cases hi
  | cons x r ih =>
    intro i j hi hj
    rw [List.flatMap_cons]
    cases i with
    | zero => rw [Nat.zero_mul, Nat.zero_add, List.getElem?_append_left (by rw [hm]; exact hj)]; rfl
    | succ i =>
      have e : (i + 1) * m + j = (f x).length + (i * m + j) := by rw [hm, Nat.add_mul]; omega
      rw [e, List.getElem?_append_right (by omega), Nat.add_sub_cancel_left]
      exact ih i j (by simpa using hi) hj
end

/-- A number and bytes: as they lie; as they read. -/
structure En where
  t : Int
  a : Option Addr
  c : Nat
  l : List Nat
abbrev En.abs (p : En) : Int × List Nat := (p.t, p.l)
abbrev enS (p : En) : Value := .slice p.a p.l.length p.c
abbrev enV (p : En) : Value := .agg #[.int .i64 p.t, enS p]
def enC (p : En) : List Value := [.int .i64 p.t, enS p]
theorem enC_len (p : En) : (enC p).length = 2 := rfl
theorem enC_one (p : En) : ∀ u ∈ enC p, u.oneCell' = true := by
  intro u hu
  simp only [enC, List.mem_cons, List.not_mem_nil, or_false] at hu
  rcases hu with rfl | rfl <;> rfl
/-- One that is handed in. -/
structure EIn (w : World) (p : En) : Prop where
  at_ : LAt w p.a p.l
  none : p.a = none → p.c = 0
  len : p.l.length ≤ 140737488355328
theorem EIn.keep {w w' : World} {p : En} {S : Nat → Prop} (h : EIn w p) (t : Touch S w w') (hs : 0 < p.l.length → ∀ x, p.a = some x → ¬ S x.block) : EIn w' p := ⟨h.at_.keep t hs, h.none, h.len⟩
theorem EIn.later {w w' : World} {p : En} (h : EIn w p) (hb : Below w.heap.size w w') : EIn w' p := ⟨h.at_.later hb, h.none, h.len⟩
/-- One that the call has made. -/
structure ERow (w : World) (p : En) : Prop where
  row : Row w (enS p) p.l
  len : p.l.length ≤ 140737488355328
theorem ERow.ein {w : World} {p : En} (h : ERow w p) : EIn w p := by
  obtain ⟨a, cap, e, h1, _, _, h4, _⟩ := h.row.parts
  injection e with e1 _ e3
  subst e1 e3
  exact ⟨h1, h4, h.len⟩
theorem ERow.keep {w w' : World} {p : En} {S : Nat → Prop} (h : ERow w p) (t : Touch S w w') (hs : ∀ k, (enS p).ownBlock = some k → ¬ S k) : ERow w' p := ⟨h.row.keep t hs, h.len⟩
theorem ERow.later {w w' : World} {p : En} (h : ERow w p) (hb : Below w.heap.size w w') : ERow w' p := ⟨h.row.later hb, h.len⟩
/-- A list of them that the call has made. -/
structure EL (ty : TypeId) (w : World) (v : Value) (ps : List En) : Prop where
  row : Wide w ty 2 v ps.length (ps.flatMap enC)
  each : ∀ p ∈ ps, ERow w p
  sep : ps.Pairwise (fun p q => ∀ k, (enS p).ownBlock = some k → (enS q).ownBlock ≠ some k)
/-- Its blocks. -/
def ELB (v : Value) (ps : List En) (k : Nat) : Prop := v.ownBlock = some k ∨ ∃ p ∈ ps, (enS p).ownBlock = some k
section
variable {ty : TypeId} {w w' : World} {v v' : Value} {ps : List En} {S : Nat → Prop}
theorem EL.nil (ty : TypeId) (w : World) : EL ty w (.slice none 0 0) [] := ⟨Wide.nil _ _ _, (fun p hp => by cases hp), List.Pairwise.nil⟩
theorem EL.keep (h : EL ty w v ps) (t : Touch S w w') (hs : ∀ k, ELB v ps k → ¬ S k) : EL ty w' v ps :=
  ⟨h.row.keep t (fun k hk => hs k (.inl hk)), fun p hp => (h.each p hp).keep t (fun k hk => hs k (.inr ⟨p, hp, hk⟩)), h.sep⟩
theorem EL.later (h : EL ty w v ps) (hb : Below w.heap.size w w') : EL ty w' v ps := h.keep (Touch.of_below (S := fun _ => False) hb) (fun _ _ h => h)
theorem EL.lt (h : EL ty w v ps) : ∀ k, ELB v ps k → k < w.heap.size := by
  rintro k (hk | ⟨p, hp, hk⟩)
  · exact h.row.lt k hk
  · exact (h.each p hp).row.lt k hk
/-- The list's own block is no element's. -/
theorem EL.apart (h : EL ty w v ps) (ht : ty ≠ 5) {k : Nat} (hk : v.ownBlock = some k) : ∀ p ∈ ps, (enS p).ownBlock ≠ some k := fun p hp e => by
  obtain ⟨c1, h1⟩ := h.row.heap hk
  obtain ⟨c2, h2⟩ := (h.each p hp).row.heap e
  rw [h1] at h2
  exact absurd (Obj.cells.inj (Option.some.inj h2)).2.1 ht
/-- Element k in its row. -/
theorem EL.at_ (h : EL ty w v ps) {k : Nat} (hk : k < ps.length) : ∃ g cap, v = .slice (some ⟨g, 0, none⟩) ps.length cap ∧ g < w.heap.size ∧ ps.length ≤ cap ∧ cap ≤ maxLen ∧ w.cell? ⟨g, k * 2, none⟩ = some (.int .i64 ps[k].t) ∧ w.cell? ⟨g, k * 2 + 1, none⟩ = some (enS ps[k]) := by
  obtain ⟨a, cap, hv, hcap, hmax, _, _, hcells⟩ := h.row.parts
  obtain ⟨g, rfl, e2, e3, _⟩ := hcells (by omega)
  refine ⟨g, cap, hv, e2, hcap, hmax, ?_, ?_⟩
  · rw [e3 (k * 2) (by omega)]
    have := flat_at enC enC_len ps k 0 hk (by omega)
    rw [Nat.add_zero] at this
    rw [this]; rfl
  · rw [e3 (k * 2 + 1) (by omega), flat_at enC enC_len ps k 1 hk (by omega)]; rfl
theorem EL.snoc {w0 : World} {p : En} (hr : Wide w' ty 2 v' (ps.length + 1) (ps.flatMap enC ++ enC p)) (he : ∀ q ∈ ps, ERow w' q) (hp : ERow w' p) (hs : ps.Pairwise (fun p q => ∀ k, (enS p).ownBlock = some k → (enS q).ownBlock ≠ some k)) (hd : ∀ q ∈ ps, ∀ k, (enS q).ownBlock = some k → (enS p).ownBlock ≠ some k) : EL ty w' v' (ps ++ [p]) := by
  refine ⟨?_, fun q hq => ?_, List.pairwise_append.2 ⟨hs, List.pairwise_singleton _ _, fun q hq r hr => by rw [List.mem_singleton.1 hr]; exact hd q hq⟩⟩
  · rw [List.flatMap_append, List.flatMap_cons, List.flatMap_nil, List.append_nil, List.length_append, List.length_singleton]; exact hr
  · rcases List.mem_append.1 hq with h | h
    · exact he q h
    · rw [List.mem_singleton.1 h]; exact hp
end
/-- bytes.Clone. -/
def ClPost (w : World) (l : List Nat) (e : Ending) (w' : World) : Prop := ∃ a c, e = .returned (.slice a l.length c) ∧ Row w' (.slice a l.length c) l ∧ New w (.slice a l.length c) ∧ Below w.heap.size w w'
set_option maxRecDepth 100000 in
theorem clone_any {w : World} {a : Option Addr} {l : List Nat} {c : Nat} (h : LAt w a l) (hn : a = none → c = 0) (hl : l.length ≤ 140737488355328) : Calls Try.prog 32 #[.slice a l.length c] w fun e w' => ClPost w l e w' := by
  cases a with
  | none =>
    have h0 : l = [] := by
      cases l with
      | nil => rfl
      | cons x r => obtain ⟨b, off, e, _⟩ := h.cell (i := 0) (by simp); cases e
    subst h0
    obtain rfl := hn rfl
    have F : Hid (ClPost w [] (.returned (.slice none 0 0)) w) := ⟨none, 0, rfl, Row.nil w, New.nil w, Below.refl _ _⟩
    clear h
    have eq := eql_nil (P := Try.prog) w 33 5 none 0 0 Try.underlying33
    go_enter Try.func32, Try.ntmps32
    go_wp2
    go_returns
    exact unhide F
  | some x =>
    have eq := eql_nil (P := Try.prog) w 33 5 (some x) l.length c Try.underlying33
    have hA : Below w.heap.size w (w.alloc (.cells #[] 5)) := (Below.refl _ _).alloc (Nat.le_refl _) _
    have HA := hide hA
    have SRC := hide (h.later hA)
    have R0 : Hid (Row (w.alloc (.cells #[] 5)) (.slice (some ⟨w.heap.size, 0, none⟩) 0 0) []) := Row.lit w [] (by simp) #[] rfl (Nat.zero_le _)
    clear h hA
    have F : Hid (∀ v' w', Row w' v' ([] ++ l) → Touch (fun k => (Value.slice (some ⟨w.heap.size, 0, none⟩) 0 0).ownBlock = some k) (w.alloc (.cells #[] 5)) w' → Moved (w.alloc (.cells #[] 5)) (.slice (some ⟨w.heap.size, 0, none⟩) 0 0) v' → ClPost w l (.returned v') w') := fun v' w' r t m => by
      obtain ⟨a', c', e, h1, h2, h3, h4, h5, _⟩ := r.parts
      simp only [List.nil_append] at e r
      subst e
      refine ⟨a', c', rfl, r, fun k hk => ?_, ?_⟩
      · rcases m k hk with e | e
        · have : w.heap.size = k := by simpa [Value.ownBlock] using e
          omega
        · simp at e; omega
      · refine below_touch (unhide HA) t (by simp) (fun k hk => ?_)
        have : w.heap.size = k := by simpa [Value.ownBlock] using hk
        omega
    go_enter Try.func32, Try.ntmps32
    go_wp2_with (at_builtin; refine wpList_row _ rfl (.tmp 5) (.tmp 6) rfl _ [] rfl (unhide R0) _ _ l rfl (unhide SRC) (by intro h; cases h) (by simp; exact hl) ?_; intro v' w' r t m)
    have FF := hide (unhide F v' w' r t m)
    clear F r t m R0 SRC HA
    go_returns
    exact unhide FF
set_option maxRecDepth 100000 in
theorem len64_any (n : Nat) (hn : n = 0 ∨ n = 1) (w : World) : Calls Try.prog 80 #[.int .u64 (n : Nat)] w fun e w' => (∃ m, e = .returned (.int .i64 m)) ∧ w' = w := by
  rcases hn with rfl | rfl
  all_goals go_enter Try.func80, Try.ntmps80
  all_goals go_wp2
  all_goals go_returns
  all_goals exact ⟨⟨_, rfl⟩, rfl⟩
set_option maxRecDepth 100000 in
theorem len_any (n : Nat) (hn : n = 0 ∨ n = 1) (w : World) : Calls Try.prog 68 #[.int .u64 (n : Nat)] w fun e w' => (∃ m, e = .returned (.int .i64 m)) ∧ w' = w := by
  have L := hide (len64_any n hn w)
  rcases hn with rfl | rfl
  all_goals go_enter Try.func68, Try.ntmps68
  all_goals go_wp2_with fail
  all_goals refine (unhide L).mono ?_
  all_goals rintro e w1 ⟨⟨m, rfl⟩, rfl⟩
  all_goals go_wp2
  all_goals go_returns
  all_goals exact ⟨⟨_, rfl⟩, rfl⟩
set_option maxRecDepth 100000 in
theorem insI_any (n : Nat) (hn : n = 0 ∨ n = 1) (a : Option Addr) (cap : Nat) (w : World) : Calls Try.prog 70 #[.slice a n cap, .int .i64 0, .int .i64 (n : Nat)] w fun e w' => e = .returned (.tuple #[]) ∧ w' = w := by
  rcases hn with rfl | rfl
  all_goals go_enter Try.func70, Try.ntmps70
  all_goals go_wp2_with fail
  all_goals go_loopw [6] (fun pl wr => pl = .int .i64 1 ∧ wr = w) (fun _ _ => 0)
  case atStart => exact ⟨rfl, rfl⟩
  case round =>
    obtain ⟨rfl, rfl⟩ := hrel
    go_wp2
    go_returns
    exact ⟨rfl, rfl⟩
  case atStart => exact ⟨rfl, rfl⟩
  case round =>
    obtain ⟨rfl, rfl⟩ := hrel
    go_wp2
    go_returns
    exact ⟨rfl, rfl⟩
set_option maxRecDepth 100000 in
theorem pdqI_any (n : Nat) (hn : n = 0 ∨ n = 1) (a : Option Addr) (cap : Nat) (m : Int) (w : World) : Calls Try.prog 67 #[.slice a n cap, .int .i64 0, .int .i64 (n : Nat), .int .i64 m] w fun e w' => e = .returned (.tuple #[]) ∧ w' = w := by
  have I := hide (insI_any n hn a cap w)
  rcases hn with rfl | rfl
  · go_enter Try.func67, Try.ntmps67
    go_wp2_with fail
    go_loopw [1, 2] (fun p q wr => p = .int .i64 0 ∧ q = .int .i64 0 ∧ wr = w) (fun _ _ _ => 0)
    case atStart => exact ⟨rfl, rfl, rfl⟩
    case round =>
      obtain ⟨rfl, rfl, rfl⟩ := hrel
      go_wp2_with fail
      refine (unhide I).mono ?_
      rintro e w1 ⟨rfl, rfl⟩
      go_wp2
      go_returns
      exact ⟨rfl, rfl⟩
  · go_enter Try.func67, Try.ntmps67
    go_wp2_with fail
    go_loopw [1, 2] (fun p q wr => p = .int .i64 0 ∧ q = .int .i64 1 ∧ wr = w) (fun _ _ _ => 0)
    case atStart => exact ⟨rfl, rfl, rfl⟩
    case round =>
      obtain ⟨rfl, rfl, rfl⟩ := hrel
      go_wp2_with fail
      refine (unhide I).mono ?_
      rintro e w1 ⟨rfl, rfl⟩
      go_wp2
      go_returns
      exact ⟨rfl, rfl⟩
set_option maxRecDepth 100000 in
theorem sortI_any (n : Nat) (hn : n = 0 ∨ n = 1) (a : Option Addr) (cap : Nat) (w : World) : Calls Try.prog 58 #[.slice a n cap] w fun e w' => e = .returned (.tuple #[]) ∧ w' = w := by
  have L := hide (len_any n hn w)
  have Q : Hid (∀ m, Calls Try.prog 67 #[.slice a n cap, .int .i64 0, .int .i64 (n : Nat), .int .i64 m] w fun e w' => e = .returned (.tuple #[]) ∧ w' = w) := fun m => pdqI_any n hn a cap m w
  rcases hn with rfl | rfl
  all_goals go_enter Try.func58, Try.ntmps58
  all_goals go_wp2_with fail
  all_goals refine (unhide L).mono ?_
  all_goals rintro e w1 ⟨⟨m, rfl⟩, rfl⟩
  all_goals go_wp2_with fail
  all_goals refine (unhide Q m).mono ?_
  all_goals rintro e w1 ⟨rfl, rfl⟩
  all_goals go_wp2
  all_goals go_returns
  all_goals exact ⟨rfl, rfl⟩
end Go.Proofs.Ytibjfekfkllnjaa
