/-
  penstockref17.DocEncode of any message: what wire.Encode answers. Conditions: the message as it lies, its lists and pieces at most 2^20 long.
-/
import Derived.Test.YtblmondkdcpkaaaZ35
import Derived.Test.YtblmondkdcpkaaaZ30
import Derived.Test.YtblmondkdcpkaaaZ36
import Derived.Test.YtblmondkdcpkaaaZ37
import Derived.Test.YtblmondkdcpkaaaZ38
import Derived.Test.YtblmondkdcpkaaaZ39
import Derived.Test.YtblmondkdcpkaaaZ43

/-
  What the document lays of a message is what the program does, in plain words. No Go text is read here. Conditions: the message's batches fit.
-/
namespace Go.Proofs.Ytblmondkdcpkaaa
open Go.RowKit
set_option linter.unusedVariables false

def raftD (s : Dv) (m : Mg) : Dv := dB (m.en.foldl stepDE (dC (dX (dX s (encL [m.r1, m.r2, m.r3, m.r4, m.r5, m.r6, m.r7])) [m.rj.toNat]) m.en.length)) m.sn
def fetchD (s : Dv) (m : Mg) : Dv := dX s (encL [m.f1, m.f2, m.f3, m.f4, m.f5])
def fetchedD (s : Dv) (m : Mg) : Dv := m.gb.foldl stepD (dC (dX (dX s (encL [m.g1, m.g2, m.g3, m.g4, m.g5, m.g6, m.g7, m.g8])) [m.gd.toNat]) m.gb.length)
def cmdD (s : Dv) (m : Mg) : Dv := if isC m.c = true then dB s (encC m.c) else dB (dF 1 s) []
def othersD (s : Dv) (m : Mg) : Dv := m.ab.foldl stepDA (dC (m.bs.foldl stepD (dC (dBa (dX (dN (dX (dX (dX s (encL [m.o1, m.o2, m.o3, m.o4, m.o5, m.o6, m.o7, m.o8, m.o9])) (enc m.pid)) [m.cm.toNat]) m.ms.length) (enc m.ms.length ++ encL m.ms)) m.B) m.bs.length)) m.ab.length)
def restD (s : Dv) (m : Mg) : Dv := if m.kd = 1 then raftD s m else if m.kd = 2 then fetchD s m else if m.kd = 3 then fetchedD s m else if m.kd = 4 then cmdD s m else othersD s m
def docS (m : Mg) : Dv := restD (dX ⟨[], 0, 0⟩ (encL [m.kd, m.fr, m.tt, m.co, m.er])) m
/-- The first of two errors. -/
def orE (a b : Int) : Int := if a ≠ 0 then a else b
theorem orE_zero (a : Int) : orE a 0 = a := by
  unfold orE
  by_cases h : a ≠ 0
  · rw [if_pos h]
  · rw [if_neg h]; omega
theorem zero_orE (a : Int) : orE 0 a = a := by unfold orE; rw [if_neg (by omega)]
theorem orE_assoc (a b c : Int) : orE (orE a b) c = orE a (orE b c) := by
  unfold orE
  by_cases h : a ≠ 0
  · rw [if_pos h, if_pos h, if_pos h]
  · rw [if_neg h, if_neg h]
theorem fst0_cons (a : Int) (r : List Int) : fst0 (a :: r) = orE a (fst0 r) := rfl
theorem errs_cons (o : Ba) (r : List Ba) : errs (o :: r) = orE (batE o.b) (errs r) := rfl
/-- The document's writer and the program's, with the first error so far. -/
def Sim (E : Int) (s : Ws) (d : Dv) : Prop := d.e = E ∧ (E = 0 → (s.2 = false ∧ d.g = 0 ∧ s.1 = d.l) ∨ (s.2 = true ∧ d.g = 2))
theorem Sim.X {E : Int} {s : Ws} {d : Dv} (h : Sim E s d) (x : List Nat) : Sim E (wX s x) (dX d x) := by
  refine ⟨h.1, fun e => ?_⟩
  obtain ⟨l, f⟩ := s
  rcases h.2 e with ⟨h1, h2, h3⟩ | ⟨h1, h2⟩
  · simp only at h1 h3
    subst h1
    exact .inl ⟨rfl, h2, by rw [wX_ok, dX_l, h3]⟩
  · simp only at h1
    subst h1
    exact .inr ⟨rfl, h2⟩
theorem Sim.B {E : Int} {s : Ws} {d : Dv} (h : Sim E s d) (x : List Nat) : Sim E (wB s x) (dB d x) := by
  unfold wB dB dG
  by_cases hx : 4096 < x.length
  · rw [if_pos hx, if_pos hx]
    exact ⟨h.1, fun e => .inr ⟨rfl, rfl⟩⟩
  · rw [if_neg hx, if_neg hx]
    exact h.X _
theorem Sim.F {E : Int} {s s' : Ws} {d : Dv} (h : Sim E s d) {E' : Int} (hE : E' ≠ 0) : Sim (orE E E') s' (dF E' d) := by
  have h1 := h.1
  have h3 : (dF E' d).e = orE E E' := by
    unfold dF orE
    by_cases h0 : d.e = 0
    · rw [if_pos h0, if_neg (by omega)]
    · rw [if_neg h0, if_pos (by omega)]; exact h1
  refine ⟨h3, fun e => ?_⟩
  unfold orE at e
  split at e
  · omega
  · omega
theorem Sim.N {E : Int} {s : Ws} {d : Dv} (h : Sim E s d) (n : Nat) : Sim (orE E (cntE n)) s (dN d n) := by
  unfold cntE dN
  by_cases hn : 512 < n
  · rw [if_pos hn, if_pos hn]
    exact h.F (by decide)
  · rw [if_neg hn, if_neg hn, orE_zero]
    exact h
theorem Sim.C {E : Int} {s : Ws} {d : Dv} (h : Sim E s d) (n : Nat) : Sim (orE E (cntE n)) (wX s (enc n)) (dC d n) := (h.N n).X _
theorem Sim.bat {E : Int} {s : Ws} {d : Dv} (h : Sim E s d) (B : Bt) : Sim (orE E (batE B)) (batS s B) (dBa d B) := by
  unfold batE batS dBa
  by_cases hz : B.ctl = false ∧ B.vs.length = 0
  · rw [if_pos hz, if_pos hz, if_pos hz, orE_zero]
    exact h.B []
  · rw [if_neg hz, if_neg hz, if_neg hz]
    unfold dK outE
    by_cases hc : chk B = 0
    · rw [if_neg (by omega), if_pos hc, hc, show ((0 : Nat) : Int) = 0 from rfl, orE_zero]
      exact h.B _
    · rw [if_pos hc, if_neg hc]
      have h1 : Sim (orE E (chk B : Int)) s (dF (chk B : Int) d) := h.F (by omega)
      have h2 : orE E (chk B : Int) ≠ 0 := by
        unfold orE
        split
        · assumption
        · omega
      exact ⟨(h1.B []).1, fun e => absurd e h2⟩
theorem Sim.bats : ∀ (os : List Ba) {E : Int} {s : Ws} {d : Dv}, Sim E s d → Sim (orE E (errs os)) (os.foldl stepBa s) (os.foldl stepD d)
  | [], E, s, d, h => by
    have : orE E (errs []) = E := orE_zero E
    rw [this]
    exact h
  | o :: r, E, s, d, h => by
    rw [errs_cons, ← orE_assoc]
    exact Sim.bats r (h.bat o.b)
theorem Sim.ens : ∀ (os : List En) {E : Int} {s : Ws} {d : Dv}, Sim E s d → Sim E (os.foldl stepEn s) (os.foldl stepDE d)
  | [], E, s, d, h => h
  | o :: r, E, s, d, h => by
    refine Sim.ens r ?_
    have e : encL [o.t] = enc (zig o.t) := by simp [encL]
    have h1 := (h.X (enc (zig o.t))).B o.d
    rw [← e] at h1
    unfold stepEn layE stepDE
    rw [← e]
    exact h1
theorem Sim.abs : ∀ (os : List Ab) {E : Int} {s : Ws} {d : Dv}, Sim E s d → Sim E (os.foldl stepAb s) (os.foldl stepDA d)
  | [], E, s, d, h => h
  | o :: r, E, s, d, h => Sim.abs r ((h.X (enc o.p)).X (encL [o.f, o.l]))
theorem sim_rest (m : Mg) {s : Ws} {d : Dv} (h : Sim 0 s d) : Sim (restE m) (restS s m) (restD d m) := by
  unfold restE restS restD
  by_cases h1 : m.kd = 1
  · rw [if_pos h1, if_pos h1, if_pos h1, fst0_cons]
    have z := (((h.X (encL [m.r1, m.r2, m.r3, m.r4, m.r5, m.r6, m.r7])).X [m.rj.toNat]).C m.en.length)
    rw [zero_orE] at z
    have e : orE (cntE m.en.length) (fst0 []) = cntE m.en.length := orE_zero _
    rw [e]
    exact (Sim.ens m.en z).B m.sn
  rw [if_neg h1, if_neg h1, if_neg h1]
  by_cases h2 : m.kd = 2
  · rw [if_pos h2, if_pos h2, if_pos h2]
    exact h.X _
  rw [if_neg h2, if_neg h2, if_neg h2]
  by_cases h3 : m.kd = 3
  · rw [if_pos h3, if_pos h3, if_pos h3, fst0_cons, fst0_cons]
    have z := (((h.X (encL [m.g1, m.g2, m.g3, m.g4, m.g5, m.g6, m.g7, m.g8])).X [m.gd.toNat]).C m.gb.length)
    rw [zero_orE] at z
    have e : orE (errs m.gb) (fst0 []) = errs m.gb := orE_zero _
    rw [e]
    exact Sim.bats m.gb z
  rw [if_neg h3, if_neg h3, if_neg h3]
  by_cases h4 : m.kd = 4
  · rw [if_pos h4, if_pos h4, if_pos h4]
    unfold cmdE cmdD
    by_cases hc : isC m.c = true
    · rw [if_pos hc, if_pos hc]
      exact h.B _
    · rw [if_neg hc, if_neg hc]
      have z := h.F (s' := s) (E' := 1) (by decide)
      rw [zero_orE] at z
      exact ⟨(z.B []).1, fun e => absurd e (by decide)⟩
  rw [if_neg h4, if_neg h4, if_neg h4, fst0_cons, fst0_cons, fst0_cons, fst0_cons, fst0_cons]
  have e : orE (cntE m.ab.length) (fst0 []) = cntE m.ab.length := orE_zero _
  rw [e]
  have z1 := (((h.X (encL [m.o1, m.o2, m.o3, m.o4, m.o5, m.o6, m.o7, m.o8, m.o9])).X (enc m.pid)).X [m.cm.toNat]).N m.ms.length
  rw [zero_orE] at z1
  have z2 := (Sim.bats m.bs (((z1.X (enc m.ms.length ++ encL m.ms)).bat m.B).C m.bs.length)).C m.ab.length
  rw [orE_assoc, orE_assoc, orE_assoc] at z2
  exact Sim.abs m.ab z2
theorem sim_doc {m : Mg} (hk : kndE m.kd = 0) : outN (docS m) = finE m ∧ outD (docS m) = finL m := by
  have h0 : Sim 0 (encL [m.kd, m.fr, m.tt, m.co, m.er], false) (dX ⟨[], 0, 0⟩ (encL [m.kd, m.fr, m.tt, m.co, m.er])) := ⟨rfl, fun _ => .inl ⟨rfl, rfl, rfl⟩⟩
  have h1 := sim_rest m h0
  have hS : msgS ([], false) m = restS (encL [m.kd, m.fr, m.tt, m.co, m.er], false) m := rfl
  have hE : msgE m = restE m := by unfold msgE; rw [if_neg (by omega)]
  change Sim (restE m) (restS (encL [m.kd, m.fr, m.tt, m.co, m.er], false) m) (docS m) at h1
  rw [← hS, ← hE] at h1
  obtain ⟨a, c⟩ := h1
  have key : outN (docS m) = finE m ∧ (finE m = 0 → (docS m).l = (msgS ([], false) m).1) := by
    unfold outN finE
    by_cases e : msgE m = 0
    · rw [if_neg (by omega), if_neg (by omega)]
      rcases c e with ⟨c1, c2, c3⟩ | ⟨c1, c2⟩
      · rw [c1, c2]
        exact ⟨by simp, fun _ => c3.symm⟩
      · rw [c1, c2]
        exact ⟨by simp, fun h => by simp at h⟩
    · rw [if_pos (by omega), if_pos e, a]
      exact ⟨rfl, fun h => absurd h e⟩
  refine ⟨key.1, ?_⟩
  unfold outD finL
  rw [key.1]
  by_cases e : finE m = 0
  · rw [if_pos e, if_pos e]
    exact key.2 e
  · rw [if_neg e, if_neg e]
end Go.Proofs.Ytblmondkdcpkaaa


namespace Go.Proofs.Ytblmondkdcpkaaa
open Go.RowKit
set_option linter.unusedVariables false

set_option maxRecDepth 100000 in
set_option maxHeartbeats 4000000 in
theorem dk_bad {w : World} {m : Mg} (hk : kndE m.kd ≠ 0) : Calls Try.prog 9 #[.agg (mgL m).toArray] w fun e w' => EnM w 1 [] e w' := by
  have hb1 := (Below.refl w.heap.size w).alloc (Nat.le_refl _) (.cells (mgL m).toArray 41)
  have FF : Hid (EnM w 1 [] (.returned (.tuple #[.slice none 0 0, .int .i64 1])) (w.alloc (.cells (mgL m).toArray 41))) := hide ⟨_, rfl, Row.nil _, New.nil _, hb1⟩
  have y0 : (w.alloc (.cells (mgL m).toArray 41)).cell? ⟨w.heap.size, 0, none⟩ = some (.int .i64 m.kd) := cell_of (heap_new w (.cells (mgL m).toArray 41)) 0
  have h2 : m.kd < 1 ∨ (¬ m.kd < 1 ∧ 15 < m.kd) := by
    unfold kndE at hk
    split at hk
    · omega
    · exact absurd rfl hk
  clear hk hb1
  go_enter Try.func9, Try.ntmps9
  go_upto_region 1 with fail
  change Code.wp _ _ _ _ (w.alloc (.cells (mgL m).toArray 41))
  generalize w.alloc (.cells (mgL m).toArray 41) = W1 at *
  rcases h2 with h | ⟨h, h'⟩
  · go_wp2
    go_returns
    exact unhide FF
  · go_wp2
    go_returns
    exact unhide FF
theorem dep_en {w : World} {m : Mg} {S : Dv} (hk : kndE m.kd = 0) (hS : S = docS m) {e : Ending} {w' : World} (h : DEP w S e w') : EnM w (finE m) (finL m) e w' := by
  obtain ⟨vo, h1, h2⟩ := h
  subst hS
  obtain ⟨s1, s2⟩ := sim_doc hk
  rw [s1] at h1
  rw [s2] at h2
  exact ⟨vo, h1, h2⟩
theorem doc17_any {w : World} {m : Mg} (hm : MgIn w m) (hs : MgS m) : Calls Try.prog 9 #[.agg (mgL m).toArray] w fun e w' => EnM w (finE m) (finL m) e w' := by
  by_cases hk : kndE m.kd = 0
  · by_cases h1 : m.kd = 1
    · exact (dk_raft hm hs h1 rfl rfl rfl rfl rfl rfl).mono fun e w' h => dep_en hk (by unfold docS restD; rw [if_pos h1]; rfl) h
    by_cases h2 : m.kd = 2
    · exact (dk_fetch hm hs h2 rfl rfl).mono fun e w' h => dep_en hk (by unfold docS restD; rw [if_neg h1, if_pos h2]; rfl) h
    by_cases h3 : m.kd = 3
    · exact (dk_fetched hm hs h3 rfl rfl rfl rfl).mono fun e w' h => dep_en hk (by unfold docS restD; rw [if_neg h1, if_neg h2, if_pos h3]; rfl) h
    by_cases h4 : m.kd = 4
    · by_cases hc : isC m.c = true
      · exact (dk_cmd_ok hm hs ⟨h4, hc⟩ rfl rfl).mono fun e w' h => dep_en hk (by unfold docS restD; rw [if_neg h1, if_neg h2, if_neg h3, if_pos h4]; unfold cmdD; rw [if_pos hc]) h
      · exact (dk_cmd_no hm hs ⟨h4, by simpa using hc⟩ rfl rfl rfl).mono fun e w' h => dep_en hk (by unfold docS restD; rw [if_neg h1, if_neg h2, if_neg h3, if_pos h4]; unfold cmdD; rw [if_neg hc]) h
    have h5 : 4 < m.kd ∧ m.kd ≤ 15 := by
      unfold kndE at hk
      split at hk
      · cases hk
      · omega
    by_cases h6 : 512 < m.ms.length
    · exact (dk_others_many hm hs ⟨h5, h6⟩ rfl rfl rfl rfl rfl rfl rfl rfl rfl rfl).mono fun e w' h => dep_en hk (by unfold docS restD; rw [if_neg h1, if_neg h2, if_neg h3, if_neg h4]; unfold othersD dN; rw [if_pos h6]) h
    · exact (dk_others_few hm hs ⟨h5, h6⟩ rfl rfl rfl rfl rfl rfl rfl rfl rfl).mono fun e w' h => dep_en hk (by unfold docS restD; rw [if_neg h1, if_neg h2, if_neg h3, if_neg h4]; unfold othersD dN; rw [if_neg h6]) h
  · obtain ⟨f1, f2⟩ := fin_bad hk
    rw [f1, f2]
    exact dk_bad hk
end Go.Proofs.Ytblmondkdcpkaaa
