/-
  raft's Propose, of a node that is alone and leads. Conditions: the log is one, of at most 2^42 - 128 entries.
-/
import Derived.Test.YtibjfekfkllnjaaRt8
namespace Go.Proofs.Ytibjfekfkllnjaa
open Go.RowKit Go.Maps
set_option linter.unusedVariables false
variable {sn : Value}

/-- What Propose leaves. -/
def PrPost (w : World) (rb : Nat) (C : Value → Array Value) (v : Value) (ps : List En) (q : Int × List Nat) (e : Ending) (w' : World) : Prop :=
  e = .returned (.tuple #[.int .i64 ((ps.length + 1 : Nat) : Int), .int .i64 0]) ∧ ∃ v' p', w'.heap[rb]? = some (.cells (C v') 77) ∧ EL 64 w' v' (ps ++ [p']) ∧ p'.abs = q ∧ Touch (fun k => k = rb ∨ v.ownBlock = some k) w w' ∧ ∀ k, ELB v' (ps ++ [p']) k → ELB v ps k ∨ w.heap.size ≤ k
set_option maxRecDepth 100000 in
set_option maxHeartbeats 2000000 in
theorem propose1 {w : World} {rb : Nat} {T vo le tk li nx mt to : Int} {mo : Option Nat} {sv : Bool} {v : Value} {ps : List En} {a : Option Addr} {c : Nat} {l : List Nat} (h : R1 sn w rb T vo v 3 le tk li mo nx mt (ps.length : Int) to sv) (L : EL 64 w v ps) (hn : ps.length ≤ 4398046510976) (hp : EIn w ⟨T, a, c, l⟩) (hl : l.length ≤ 4096) :
    Calls Try.prog 13 #[.pointer (some ⟨rb, 0, none⟩), .slice a l.length c] w fun e w' => PrPost w rb (fun v' => r1C sn T vo v' 3 le tk li mo nx ((ps.length + 1 : Nat) : Int) ((ps.length + 1 : Nat) : Int) to true) v ps (T, l) e w' := by
  obtain ⟨av, cv, rfl⟩ := L.row.shape
  have hwl : wrap64 (0 + (ps.length : Int)) = (ps.length : Int) := by rw [wrap64_i64, Int.zero_add]; exact wrap_low (by omega) (by omega)
  have hws : IntKind.i64.wrap ((ps.length : Int) - (ps.length : Int)) = 0 := by rw [Int.sub_self]; rfl
  have LA : Hid (∀ n, Calls Try.prog 25 #[.pointer (some ⟨rb, 0, none⟩)] (w.drewN n) fun e w' => e = .returned (.int .i64 (ps.length : Int)) ∧ ∃ m, w' = (w.drewN n).drewN m) := fun n => by
    have := last12_any (w := w.drewN n) (rb := rb) (k := ps.length) (cap := cv) (base := 0) (a := av) (cell_of h 4) (cell_of h 7)
    rw [hwl] at this
    exact this
  have x8 : w.cell? ⟨rb, 8, none⟩ = some (.int .i64 3) := cell_of h 8
  have x23 : w.cell? ⟨rb, 23, none⟩ = some (.int .i64 (ps.length : Int)) := cell_of h 23
  have LY : Hid (∀ n, Calls Try.prog 26 #[.pointer (some ⟨rb, 0, none⟩), .slice a l.length c] (w.drewN n) fun e w' => LyPost (w.drewN n) rb (fun v' => r1C sn T vo v' 3 le tk li mo nx ((ps.length + 1 : Nat) : Int) ((ps.length + 1 : Nat) : Int) to true) (.slice av ps.length cv) ps (T, l) e w') := fun n =>
    lay1 (w := w.drewN n) h (L.keep ((Touch.refl (fun _ => False) w).drewN n) (fun _ _ h => h)) hn (by omega) (hp.keep ((Touch.refl (fun _ => False) w).drewN n) (fun _ _ _ h => h))
  clear h L hp
  have hl2 : ¬ (4096 : Int) < (l.length : Int) := by omega
  have HN := hide hn
  clear hl hn
  generalize hM : ps.length = m at *
  have HM := hide hM
  clear hM
  generalize hml : l.length = ml at *
  clear hml
  go_enter Try.func13, Try.ntmps13
  go_wp2_with fail
  go_quiet (first | (go_at_call 25; exact Calls.quiet_of (unhide LA _)))
  go_wp2_with fail
  refine (unhide LY _).mono ?_
  rintro e w2 ⟨rfl, v', p', h3, l3, q3, t3, n3⟩
  have FO : Hid (Calls Try.prog 27 #[.pointer (some ⟨rb, 0, none⟩)] w2 fun e w' => e = .returned (.tuple #[]) ∧ w' = w2) := feedOthers1 (cell_of h3 0) (cell_of h3 1)
  obtain ⟨a3, c3, hv3⟩ := l3.row.shape
  rw [List.length_append, List.length_singleton, unhide HM] at hv3
  have LB : Hid (Calls Try.prog 25 #[.pointer (some ⟨rb, 0, none⟩)] w2 fun e w' => e = .returned (.int .i64 ((m + 1 : Nat) : Int)) ∧ ∃ j, w' = w2.drewN j) := by
    have h3' := h3
    simp only [hv3] at h3'
    have := last12_any (w := w2) (rb := rb) (k := m + 1) (cap := c3) (base := 0) (a := a3) (cell_of h3' 4) (cell_of h3' 7)
    have hw : wrap64 (0 + ((m + 1 : Nat) : Int)) = ((m + 1 : Nat) : Int) := by have := unhide HN; rw [wrap64_i64, Int.zero_add]; exact wrap_low (by omega) (by omega)
    rw [hw] at this
    exact this
  have F : Hid (∀ j, PrPost w rb (fun v' => r1C sn T vo v' 3 le tk li mo nx ((m + 1 : Nat) : Int) ((m + 1 : Nat) : Int) to true) (.slice av m cv) ps (T, l) (.returned (.tuple #[.int .i64 ((m + 1 : Nat) : Int), .int .i64 0])) (w2.drewN j)) := fun j => by
    refine ⟨by rw [unhide HM], v', p', h3, l3.keep ((Touch.refl (fun _ => False) w2).drewN j) (fun _ _ h => h), q3, ?_, n3⟩
    exact ((Touch.refl _ w).drewN nq).trans (t3.drewN j)
  clear LY LA h3 l3 q3 t3 n3 x8 x23
  go_wp2_with fail
  refine (unhide FO).mono ?_
  rintro e w4 ⟨rfl, rfl⟩
  clear FO
  go_wp2_with fail
  refine (unhide LB).mono ?_
  rintro e w5 ⟨rfl, j, rfl⟩
  clear LB
  go_wp2
  go_returns
  exact unhide F j

/-- A list of entries that is handed in. -/
structure EArr (w : World) (a : Option Addr) (ps : List En) : Prop where
  cell : ∀ i (h : i < ps.length), ∃ b off, a = some ⟨b, off, none⟩ ∧ b < w.heap.size ∧ w.cell? ⟨b, off + i * 2, none⟩ = some (.int .i64 ps[i].t) ∧ w.cell? ⟨b, off + i * 2 + 1, none⟩ = some (enS ps[i])
  each : ∀ p ∈ ps, EIn w p
theorem EArr.later {w w' : World} {a : Option Addr} {ps : List En} (h : EArr w a ps) (hb : Below w.heap.size w w') : EArr w' a ps := by
  refine ⟨fun i hi => ?_, fun p hp => (h.each p hp).later hb⟩
  obtain ⟨b, off, h1, h2, h3, h4⟩ := h.cell i hi
  exact ⟨b, off, h1, Nat.lt_of_lt_of_le h2 hb.size, (hb.cell (p := ⟨b, off + i * 2, none⟩) h2).trans h3, (hb.cell (p := ⟨b, off + i * 2 + 1, none⟩) h2).trans h4⟩
theorem EL.arr {ty : TypeId} {w : World} {v : Value} {ps : List En} (h : EL ty w v ps) : ∃ a cap, v = .slice a ps.length cap ∧ EArr w a ps := by
  obtain ⟨a, cap, hv, _⟩ := h.row.parts
  refine ⟨a, cap, hv, fun i hi => ?_, fun p hp => (h.each p hp).ein⟩
  obtain ⟨g, cap', hv', hg, _, _, y0, y1⟩ := h.at_ hi
  rw [hv] at hv'
  cases hv'
  exact ⟨g, 0, rfl, hg, by rw [Nat.zero_add]; exact y0, by rw [Nat.zero_add]; exact y1⟩
/-- Entries of their own. -/
def OsPost (w : World) (qs : List (Int × List Nat)) (e : Ending) (w' : World) : Prop := ∃ v' ps', e = .returned v' ∧ EL 64 w' v' ps' ∧ ps'.map En.abs = qs ∧ (∀ k, ELB v' ps' k → w.heap.size ≤ k) ∧ Below w.heap.size w w'
end Go.Proofs.Ytibjfekfkllnjaa
