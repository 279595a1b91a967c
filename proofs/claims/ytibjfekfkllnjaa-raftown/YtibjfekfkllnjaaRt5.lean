/-
  raft's lay, of a node that is alone. Conditions: the log is one, of at most 2^42 - 128 entries.
-/
import Derived.Test.YtibjfekfkllnjaaRt4
namespace Go.Proofs.Ytibjfekfkllnjaa
open Go.RowKit Go.Maps
set_option linter.unusedVariables false
variable {sn : Value}

/-- What a call leaves that has laid an entry. -/
def LyPost (w : World) (rb : Nat) (C : Value → Array Value) (v : Value) (ps : List En) (q : Int × List Nat) (e : Ending) (w' : World) : Prop :=
  e = .returned (.tuple #[]) ∧ ∃ v' p', w'.heap[rb]? = some (.cells (C v') 77) ∧ EL 64 w' v' (ps ++ [p']) ∧ p'.abs = q ∧ Touch (fun k => k = rb ∨ v.ownBlock = some k) w w' ∧ ∀ k, ELB v' (ps ++ [p']) k → ELB v ps k ∨ w.heap.size ≤ k
set_option maxRecDepth 100000 in
set_option maxHeartbeats 2000000 in
theorem lay1 {w : World} {rb : Nat} {T vo ro le tk li nx mt co to : Int} {mo : Option Nat} {sv : Bool} {v : Value} {ps : List En} {a : Option Addr} {c : Nat} {l : List Nat} (h : R1 sn w rb T vo v ro le tk li mo nx mt co to sv) (L : EL 64 w v ps) (hn : ps.length ≤ 4398046510976) (hco : co ≤ ps.length) (hp : EIn w ⟨T, a, c, l⟩) :
    Calls Try.prog 26 #[.pointer (some ⟨rb, 0, none⟩), .slice a l.length c] w fun e w' => LyPost w rb (fun v' => r1C sn T vo v' ro le tk li mo nx ((ps.length + 1 : Nat) : Int) ((ps.length + 1 : Nat) : Int) to true) v ps (T, l) e w' := by
  have P : Hid (Calls Try.prog 40 #[.pointer (some ⟨rb, 0, none⟩), .agg #[.int .i64 T, .slice a l.length c]] w fun e w' => PuPost w rb (r1C sn T vo v ro le tk li mo nx mt co to sv) v ps (T, l) e w') := put_any h rfl rfl L hn hp
  have x2 : w.cell? ⟨rb, 2, none⟩ = some (.int .i64 T) := cell_of h 2
  clear h hp
  generalize l.length = m at *
  go_enter Try.func26, Try.ntmps26
  go_wp2_with fail
  refine (unhide P).mono ?_
  rintro e w1 ⟨rfl, v', p', hh, L1, hq, t1, n1⟩
  have hh : R1 sn w1 rb T vo v' ro le tk li mo nx mt co to true := hh
  clear P x2
  obtain ⟨t', a', c', l'⟩ := p'
  obtain ⟨rfl, rfl⟩ : t' = T ∧ l' = l := by simpa using hq
  obtain ⟨g, cap, hv, hg, hcap, hmax, y0, y1⟩ := L1.at_ (k := ps.length) (by simp)
  rw [List.length_append, List.length_singleton] at hv hcap
  simp only [List.getElem_append_right, Nat.le_refl, Nat.sub_self, List.getElem_cons_zero, enS] at y0 y1
  generalize hK : ps.length + 1 = K at *
  have hK2 : ((ps.length + 1 : Nat) : Int) = (K : Int) := by rw [hK]
  subst hv
  have z0 : w1.cell? ⟨rb, 0, none⟩ = some (.int .i64 0) := cell_of hh 0
  have z18 : w1.cell? ⟨rb, 18, none⟩ = some (.int .i64 mt) := cell_of hh 18
  have zf : w1.frozen? ⟨rb, 18, none⟩ = false := frozen_of hh 18
  have hwl : wrap64 (0 + (K : Int)) = (K : Int) := by rw [wrap64_i64, Int.zero_add]; exact wrap_low (by omega) (by unfold maxLen at hmax; omega)
  have LA : Hid (∀ X, X.heap = w1.heap → Calls Try.prog 25 #[.pointer (some ⟨rb, 0, none⟩)] X fun e w' => e = .returned (.int .i64 (K : Int)) ∧ ∃ n, w' = X.drewN n) := fun X hX => by
    have := last12_any (w := X) (rb := rb) (k := K) (cap := cap) (base := 0) (a := some ⟨g, 0, none⟩) (by unfold World.cell?; rw [hX]; exact cell_of hh 4) (by unfold World.cell?; rw [hX]; exact cell_of hh 7)
    rw [hwl] at this
    exact this
  have hne : g ≠ rb := L1.not hh (by decide) (by decide) g (.inl rfl)
  have FX : Hid (∀ X, X.heap = w1.heap → Touch (· = rb) w1 X → R1 sn (X.setCell ⟨rb, 18, none⟩ (.int .i64 (K : Int))) rb t' vo (.slice (some ⟨g, 0, none⟩) K cap) ro le tk li mo nx (K : Int) co to true ∧ Touch (· = rb) w1 (X.setCell ⟨rb, 18, none⟩ (.int .i64 (K : Int)))) := fun X hX tX => ⟨heap_set (w := X) (by rw [hX]; exact hh) 18 _, tX.setCell (p := ⟨rb, 18, none⟩) rfl _⟩
  have L1H := hide L1
  have T1 := hide t1
  have N1 := hide n1
  have HH := hide hh
  have hcoK : co < (K : Int) := by omega
  clear L1 t1 n1 hh hq L
  go_wp2_with fail
  go_region_with (go_at_call 25; refine (unhide LA w1.drew rfl).mono ?_; rintro e w2 ⟨rfl, nq, rfl⟩)
  all_goals
    obtain ⟨r2, t2⟩ := unhide FX (w1.drewN (1 + nq)) rfl ((Touch.refl _ _).drewN _)
    have q0 := (World.cell?_of_block (a := ⟨g, ps.length * 2, none⟩) (t2.block g hg hne)).trans y0
    have q1 := (World.cell?_of_block (a := ⟨g, ps.length * 2 + 1, none⟩) (t2.block g hg hne)).trans y1
    have LK := hide (look1 hK.symm r2 hcap hmax q0 q1 hcoK)
    have T2 := hide t2
    clear r2 t2 q0 q1 FX LA z0 z18 zf y0 y1
    go_wp2_with fail
    generalize (w1.drewN (1 + nq)).setCell ⟨rb, 18, none⟩ (.int .i64 (K : Int)) = W2 at *
    refine (unhide LK).mono ?_
    rintro e w3 ⟨rfl, h3, t3⟩
    have F : Hid (LyPost w rb (fun v' => r1C sn t' vo v' ro le tk li mo nx ((ps.length + 1 : Nat) : Int) ((ps.length + 1 : Nat) : Int) to true) v ps (t', l') (.returned (.tuple #[])) w3) := by
      have t13 := (unhide T2).trans t3
      refine ⟨rfl, _, _, ?_, (unhide L1H).keep t13 (fun k hk e => ?_), rfl, (unhide T1).trans (t13.mono (fun k hk => .inl hk)), unhide N1⟩
      · show w3.heap[rb]? = some (.cells (r1C sn t' vo (.slice (some ⟨g, 0, none⟩) K cap) ro le tk li mo nx ((ps.length + 1 : Nat) : Int) ((ps.length + 1 : Nat) : Int) to true) 77)
        rw [hK2]; exact h3
      · exact (unhide L1H).not (unhide HH) (by decide) (by decide) k hk e
    clear LK T2 h3 t3 L1H T1 N1 HH
    go_wp2
    go_returns
    exact unhide F
end Go.Proofs.Ytibjfekfkllnjaa
