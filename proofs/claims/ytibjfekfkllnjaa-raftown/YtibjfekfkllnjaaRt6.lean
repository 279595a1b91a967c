/-
  raft's votes, and lead, of a node that is alone. Conditions: the log is one, of at most 2^42 - 128 entries.
-/
import Derived.Test.YtibjfekfkllnjaaRt5
namespace Go.Proofs.Ytibjfekfkllnjaa
open Go.RowKit Go.Maps
set_option linter.unusedVariables false
variable {sn : Value}

theorem vkeyed : Keyed Try.prog 3 := int_keyed Try.underlying3
/-- Block m holds n votes. -/
def VM (w : World) (m n : Nat) : Prop := ∃ k X, w.ownsMap Try.prog 3 (unitElem (H := Unit)) m k X ∧ k ≤ n ∧ Maps.size X = n ∧ (n = 0 → ∀ l, has X l = false)
theorem VM.block {w : World} {m n : Nat} (h : VM w m n) : ∃ es clock, w.heap[m]? = some (.map es clock) := by
  obtain ⟨k, X, ⟨es, clock, hb, _⟩, _⟩ := h; exact ⟨es, clock, hb⟩
theorem VM.keep {w w' : World} {m n : Nat} {S : Nat → Prop} (h : VM w m n) (t : Touch S w w') (hs : ¬ S m) : VM w' m n := by
  obtain ⟨k, X, ⟨es, clock, hb, r⟩, h2⟩ := h
  exact ⟨k, X, ⟨es, clock, t.keep hb hs, r⟩, h2⟩
theorem turned12 {w w' : World} {b : Nat} (h : w.mapTurned w' b) : Touch (· = b) w w' := by
  obtain ⟨es, clock, es', clock', hb, rfl⟩ := h
  exact ⟨rfl, rfl, rfl, by simp [ChangeMaps.setBlock], fun i _ hi => ChangeMaps.heap_setBlock_other hb _ hi⟩
theorem VM.made (w : World) : VM (w.alloc (.map #[] 0)) w.heap.size 0 := ⟨0, _, World.ownsMap_made w Try.prog 3 _, Nat.le_refl _, rfl, fun _ _ => rfl⟩
theorem VM.store {w : World} {m : Nat} (h : VM w m 0) : ∃ w', (Instr.mapUpdate 74 (.map (some m)) (.int .i64 0) (.agg #[])).run Try.prog w = .ok () w' ∧ VM w' m 1 ∧ Touch (· = m) w w' := by
  obtain ⟨k, X, h1, h2, h3, h4⟩ := h
  obtain ⟨w', hrun, o, t⟩ := h1.store vkeyed Try.underlying74 (by unfold maxLen; omega) (keyOf_int_mk Try.underlying3 (InR.wf (i := 0) (by unfold InR; omega))) unitElem_mk
  refine ⟨w', hrun, ⟨k + 1, _, o, by omega, ?_, by omega⟩, turned12 t⟩
  rw [size_put (h1.tidy vkeyed), h4 rfl]
  simp [h3]
theorem VM.len {w : World} {m n : Nat} (h : VM w m n) (ty : TypeId) : (Builtin.len_ #[74] ty #[.map (some m)]).run Try.prog w = .ok (.int .i64 (n : Int)) w := by
  obtain ⟨k, X, h1, h2, h3, h4⟩ := h
  rw [h1.len Try.underlying74 ty, h3]

set_option maxRecDepth 100000 in
set_option maxHeartbeats 2000000 in
theorem lead1 {w : World} {rb : Nat} {T vo ro le tk li nx mt co to : Int} {mo : Option Nat} {sv : Bool} {v : Value} {ps : List En} (h : R1 sn w rb T vo v ro le tk li mo nx mt co to sv) (L : EL 64 w v ps) (hn : ps.length ≤ 4398046510976) (hco : co ≤ ps.length) :
    Calls Try.prog 63 #[.pointer (some ⟨rb, 0, none⟩)] w fun e w' => LyPost w rb (fun v' => r1C sn T vo v' 3 0 tk li mo ((ps.length + 1 : Nat) : Int) ((ps.length + 1 : Nat) : Int) ((ps.length + 1 : Nat) : Int) to true) v ps (T, []) e w' := by
  obtain ⟨av, cv, rfl⟩ := L.row.shape
  have hnot := L.not h (by decide) (by decide)
  have x0 : w.cell? ⟨rb, 0, none⟩ = some (.int .i64 0) := cell_of h 0
  have x1 : w.cell? ⟨rb, 1, none⟩ = some (.int .i64 1) := cell_of h 1
  have x8 : w.cell? ⟨rb, 8, none⟩ = some (.int .i64 ro) := cell_of h 8
  have x9 : w.cell? ⟨rb, 9, none⟩ = some (.int .i64 le) := cell_of h 9
  have f8 : w.frozen? ⟨rb, 8, none⟩ = false := frozen_of h 8
  have f9 : w.frozen? ⟨rb, 9, none⟩ = false := frozen_of h 9
  have r2 : R1 sn ((w.setCell ⟨rb, 8, none⟩ (.int .i64 3)).setCell ⟨rb, 9, none⟩ (.int .i64 0)) rb T vo (.slice av ps.length cv) 3 0 tk li mo nx mt co to sv := heap_set (heap_set h 8 _) 9 _
  have t2 : Touch (· = rb) w ((w.setCell ⟨rb, 8, none⟩ (.int .i64 3)).setCell ⟨rb, 9, none⟩ (.int .i64 0)) := (touch_set w rb 8 _).trans (touch_set _ rb 9 _)
  have R2 := hide r2
  have T2 := hide t2
  have hwl : wrap64 (0 + (ps.length : Int)) = (ps.length : Int) := by rw [wrap64_i64, Int.zero_add]; exact wrap_low (by omega) (by omega)
  have hw1 : IntKind.i64.wrap ((ps.length : Int) + 1) = ((ps.length + 1 : Nat) : Int) := by rw [wrap_low (by omega) (by omega)]; omega
  have LA : Hid (∀ X nx mt, R1 sn X rb T vo (.slice av ps.length cv) 3 0 tk li mo nx mt co to sv → Calls Try.prog 25 #[.pointer (some ⟨rb, 0, none⟩)] X fun e w' => e = .returned (.int .i64 (ps.length : Int)) ∧ ∃ n, w' = X.drewN n) := fun X nx mt hX => by
    have := last12_any (w := X) (rb := rb) (k := ps.length) (cap := cv) (base := 0) (a := av) (cell_of hX 4) (cell_of hX 7)
    rw [hwl] at this
    exact this
  have H := hide h
  have HL := hide L
  have HN := hide hnot
  have HC := hide hco
  clear h L hnot hco r2 t2
  generalize hm : ps.length = m at *
  have HM := hide hm
  clear hm
  go_enter Try.func63, Try.ntmps63
  go_wp2_with fail
  go_loopw [17] (fun pl wr => ∃ j : Nat, ∃ nx' mt', j ≤ 1 ∧ pl = .int .i64 (j : Int) ∧ R1 sn wr rb T vo (.slice av m cv) 3 0 tk li mo nx' mt' co to sv ∧ Touch (· = rb) w wr ∧ (j = 1 → nx' = ((m + 1 : Nat) : Int))) (fun pl _ => 1 - (intOf pl).toNat)
  case atStart => exact ⟨0, nx, mt, Nat.zero_le _, rfl, unhide R2, unhide T2, by omega⟩
  case round =>
    obtain ⟨j, nx', mt', hj, rfl, hr, tr, hnx⟩ := hrel
    have HR := hide hr
    have TR := hide tr
    clear x0 x1 x8 x9 f8 f9
    have z0 : wr.cell? ⟨rb, 0, none⟩ = some (.int .i64 0) := cell_of hr 0
    have z1 : wr.cell? ⟨rb, 1, none⟩ = some (.int .i64 1) := cell_of hr 1
    rcases Nat.lt_or_ge j 1 with hj1 | hj1
    · obtain rfl : j = 0 := by omega
      have z13 : wr.cell? ⟨rb, 13, none⟩ = some (.int .i64 nx') := cell_of hr 13
      have z18 : wr.cell? ⟨rb, 18, none⟩ = some (.int .i64 mt') := cell_of hr 18
      have g13 : wr.frozen? ⟨rb, 13, none⟩ = false := frozen_of hr 13
      have g18 : wr.frozen? ⟨rb, 18, none⟩ = false := frozen_of hr 18
      have FX : Hid (∀ X, X.heap = wr.heap → Touch (· = rb) w X → R1 sn ((X.setCell ⟨rb, 13, none⟩ (.int .i64 ((m + 1 : Nat) : Int))).setCell ⟨rb, 18, none⟩ (.int .i64 0)) rb T vo (.slice av m cv) 3 0 tk li mo ((m + 1 : Nat) : Int) 0 co to sv ∧ Touch (· = rb) w ((X.setCell ⟨rb, 13, none⟩ (.int .i64 ((m + 1 : Nat) : Int))).setCell ⟨rb, 18, none⟩ (.int .i64 0))) := fun X hX tX => ⟨heap_set (heap_set (w := X) (by rw [hX]; exact hr) 13 _) 18 _, (tX.setCell (p := ⟨rb, 13, none⟩) rfl _).setCell (p := ⟨rb, 18, none⟩) rfl _⟩
      clear hr tr hnx
      go_wp2_with fail
      go_region_with (go_at_call 25; refine (unhide LA wr.drew _ _ (unhide HR)).mono ?_; rintro e w2 ⟨rfl, nq, rfl⟩)
      all_goals
        obtain ⟨r3, t3⟩ := unhide FX (wr.drewN (1 + nq)) rfl ((unhide TR).drewN _)
        go_wp2
        go_roundw
        case rel => exact ⟨1, _, _, by omega, by go_num, r3, t3, fun _ => rfl⟩
        case measure => simp [intOf]
    · obtain rfl : j = 1 := by omega
      obtain rfl := hnx rfl
      have hL1 : EL 64 wr (.slice av m cv) ps := (unhide HL).keep tr (fun k hk e => (unhide HN) k hk e)
      have LY : Hid (Calls Try.prog 26 #[.pointer (some ⟨rb, 0, none⟩), .slice none 0 0] wr fun e w' => LyPost wr rb (fun v' => r1C sn T vo v' 3 0 tk li mo ((m + 1 : Nat) : Int) ((m + 1 : Nat) : Int) ((m + 1 : Nat) : Int) to true) (.slice av m cv) ps (T, []) e w') := by
        have := lay1 (a := none) (c := 0) (l := []) hr hL1 (by rw [unhide HM]; omega) (by rw [unhide HM]; exact unhide HC) ⟨fun i hi => by simp at hi, fun _ => rfl, by simp⟩
        rw [unhide HM] at this
        exact this
      clear hr tr hnx hL1
      go_wp2_with fail
      refine (unhide LY).mono ?_
      rintro e w3 ⟨rfl, v', p', h3, l3, q3, t3, n3⟩
      have FO : Hid (Calls Try.prog 27 #[.pointer (some ⟨rb, 0, none⟩)] w3 fun e w' => e = .returned (.tuple #[]) ∧ w' = w3) := feedOthers1 (cell_of h3 0) (cell_of h3 1)
      have F : Hid (LyPost w rb (fun v' => r1C sn T vo v' 3 0 tk li mo ((m + 1 : Nat) : Int) ((m + 1 : Nat) : Int) ((m + 1 : Nat) : Int) to true) (.slice av m cv) ps (T, []) (.returned (.tuple #[])) w3) := ⟨rfl, v', p', h3, l3, q3, ((unhide TR).mono (fun k hk => .inl hk)).trans t3, fun k hk => (n3 k hk).imp id (fun e => Nat.le_trans (unhide TR).size e)⟩
      clear LY h3 l3 q3 t3 n3 HL HN HC LA R2 T2 H HR TR
      go_wp2_with fail
      refine (unhide FO).mono ?_
      rintro e w4 ⟨rfl, rfl⟩
      go_wp2
      go_returns
      exact unhide F
end Go.Proofs.Ytibjfekfkllnjaa
