/-
  A region that draws its order, reads, and stores at its end: one walk in the order of the text serves. Conditions: the store waits for all the others; none of them defers.
-/
import Derived.Test.YtfpcocagifmpbaaRq
namespace Go.Proofs.Ytfpcocagifmpbaa
open Go Go.RowKit
set_option linter.unusedVariables false

/-- The last operation, told to do nothing. -/
def hush (o : Oper) : Oper := { o with op := .move (.const undef) }
def swL : List Oper → List Oper
  | [] => []
  | [z] => [hush z]
  | o :: p :: r => o :: swL (p :: r)
def zL : List Oper → Option Oper
  | [] => none
  | [z] => some z
  | _ :: p :: r => zL (p :: r)
def backB : Nat → List Oper → Bool
  | _, [] => true
  | k, o :: r => o.after.all (fun e => decide (e.on < k)) && backB (k + 1) r
def waitB (n : Nat) (z : Oper) : Bool := (List.range n).all (fun j => z.after.any (fun e => e.on == j && Region.binds .any e))
theorem sw_snoc (z : Oper) : ∀ l : List Oper, swL (l ++ [z]) = l ++ [hush z] ∧ zL (l ++ [z]) = some z := by
  intro l
  induction l with
  | nil => exact ⟨rfl, rfl⟩
  | cons o r ih =>
    cases r with
    | nil => exact ⟨rfl, rfl⟩
    | cons p s =>
      refine ⟨?_, ?_⟩
      · show o :: swL (p :: s ++ [z]) = _
        rw [ih.1]; rfl
      · show zL (p :: s ++ [z]) = _
        exact ih.2
theorem back_spec : ∀ (L : List Oper) (k : Nat), backB k L = true → ∀ i o, L[i]? = some o → ∀ e ∈ o.after, e.on < k + i := by
  intro L
  induction L with
  | nil => intro k _ i o h; simp at h
  | cons p r ih =>
    intro k hB i o h e he
    simp only [backB, Bool.and_eq_true] at hB
    cases i with
    | zero =>
      simp at h; subst h
      have := Array.all_eq_true_iff_forall_mem.1 hB.1 e he
      simpa using this
    | succ i =>
      have := ih (k + 1) hB.2 i o (by simpa using h) e he
      omega
section
variable {F : Fence} {n : Nat} {P : Program} {C : World → Prop} {l : List Oper} {z : Oper}
theorem at_l (y : Oper) {i : Nat} (h : i < l.length) : (l ++ [y]).toArray[i]? = l[i]? := by rw [List.getElem?_toArray, List.getElem?_append_left h]
theorem at_z (y : Oper) : (l ++ [y]).toArray[l.length]? = some y := by simp
theorem at_out (y : Oper) {i : Nat} (h : l.length < i) : (l ++ [y]).toArray[i]? = none := by simp; omega
theorem yield_same : yielded (l ++ [hush z]).toArray = yielded (l ++ [z]).toArray := by
  funext tmps j
  unfold yielded
  rcases Nat.lt_trichotomy j l.length with h | h | h
  · rw [at_l _ h, at_l _ h]
  · subst h; rw [at_z, at_z]; rfl
  · rw [at_out _ h, at_out _ h]
theorem ready_same {listed : Array Bool} {j : Nat} : j ∈ Region.ready .any (l ++ [hush z]).toArray listed ↔ j ∈ Region.ready .any (l ++ [z]).toArray listed := by
  rw [mem_ready, mem_ready]
  rcases Nat.lt_trichotomy j l.length with h | h | h
  · rw [at_l _ h, at_l _ h]
  · subst h; rw [at_z, at_z]
    constructor
    · rintro ⟨h1, o, h2, h3⟩; cases h2; exact ⟨h1, z, rfl, h3⟩
    · rintro ⟨h1, o, h2, h3⟩; cases h2; exact ⟨h1, _, rfl, h3⟩
  · rw [at_out _ h, at_out _ h]
theorem ready_some (hb : backB 0 (l ++ [z]) = true) {listed : Array Bool} (hz : listed.getD l.length true = false) : ∃ j, j ∈ Region.ready .any (l ++ [z]).toArray listed := by
  have hsz : l.length < listed.size := by
    by_cases h : l.length < listed.size
    · exact h
    · simp [Array.getD, h] at hz
  have hmin : ∃ j, (j ≤ l.length ∧ listed.getD j true = false) ∧ ∀ i, i < j → listed.getD i true = true := by
    have : ∀ m, m ≤ l.length → listed.getD m true = false → ∃ j, (j ≤ l.length ∧ listed.getD j true = false) ∧ ∀ i, i < j → listed.getD i true = true := by
      intro m
      induction m using Nat.strongRecOn with
      | _ m ih =>
        intro hm hf
        by_cases hx : ∃ i, i < m ∧ listed.getD i true = false
        · obtain ⟨i, hi, hif⟩ := hx
          exact ih i hi (by omega) hif
        · refine ⟨m, ⟨hm, hf⟩, fun i hi => ?_⟩
          cases hv : listed.getD i true with
          | true => rfl
          | false => exact absurd ⟨i, hi, hv⟩ hx
    exact this l.length (Nat.le_refl _) hz
  obtain ⟨j, ⟨hj, hjf⟩, hall⟩ := hmin
  refine ⟨j, mem_ready.2 ⟨hjf, ?_⟩⟩
  have hjo : j < (l ++ [z]).length := by simp; omega
  refine ⟨(l ++ [z])[j], by simp, fun e he hbd => ?_⟩
  have hlt := back_spec _ 0 hb j _ (by simp) e he
  have := hall e.on (by omega)
  have hes : e.on < listed.size := by omega
  simpa [Array.getD, hes] using this
theorem ready_done (hw : waitB l.length z = true) {listed : Array Bool} (hr : l.length ∈ Region.ready .any (l ++ [z]).toArray listed) : ∀ j, j ∉ Region.ready .any (l ++ [z]).toArray (listed.setIfInBounds l.length true) := by
  intro j hj
  obtain ⟨h1, o, h2, h3⟩ := mem_ready.1 hj
  obtain ⟨g1, p, g2, g3⟩ := mem_ready.1 hr
  rw [at_z] at g2
  cases g2
  rcases Nat.lt_trichotomy j l.length with h | h | h
  · have hx := List.all_eq_true.1 hw j (List.mem_range.2 h)
    obtain ⟨e, he, hb⟩ := Array.any_eq_true'.1 hx
    simp only [Bool.and_eq_true, beq_iff_eq] at hb
    have := g3 e he hb.2
    rw [hb.1] at this
    rw [getD_set_ne true (by omega)] at h1
    have hs : j < listed.size := by
      by_cases h : j < listed.size
      · exact h
      · simp [Array.getD, h] at this
    simp [Array.getD, hs] at this h1
    rw [h1] at this
    cases this
  · subst h
    have hs : l.length < listed.size := by
      by_cases h : l.length < listed.size
      · exact h
      · simp [Array.getD, h] at g1
    simp [Array.getD, hs] at h1
  · rw [at_out _ h] at h2; cases h2
theorem nil_of {α : Type} {r : List α} (h : ∀ j, j ∉ r) : r = [] := by
  cases r with
  | nil => rfl
  | cons x s => exact absurd (List.mem_cons_self ..) (h x)
theorem store_any {Q' : Exit → Act → World → Prop} (hp : l.all plainB = true) (hg : z.guard = none) (hd : z.dst = none) (hb : backB 0 (l ++ [z]) = true) (hw : waitB l.length z = true) :
    ∀ (fuel : Nat) (listed : Array Bool) (a : Act) (w : World), C w → listed.getD l.length true = false →
    wpAnyQIn F n P .any (l ++ [hush z]).toArray C (fun a => ∀ w, C w → z.wpIn F n P a w (fun a' w' => Q' .normal a' w') Q') fuel listed a → wpAnyIn F n P .any (l ++ [z]).toArray Q' fuel listed a w := by
  intro fuel
  induction fuel with
  | zero =>
    intro listed a w hC hz h
    obtain ⟨j, hj⟩ := ready_some hb hz
    have := ready_same.2 hj
    rw [h.1] at this
    cases this
  | succ fuel ih =>
    intro listed a w hC hz h
    refine ⟨fun h0 => ?_, fun i hi => ?_⟩
    · obtain ⟨j, hj⟩ := ready_some hb hz
      rw [h0] at hj
      cases hj
    · have hq := h.2 i (ready_same.2 hi)
      rcases Nat.lt_trichotomy i l.length with hl | hl | hl
      · unfold qOpIn at hq
        unfold wpOpIn
        rw [at_l _ hl] at hq ⊢
        have ho : l[i]? = some l[i] := by simp [hl]
        rw [ho] at hq ⊢
        obtain ⟨ha, hq⟩ := hq
        rw [yield_same] at hq
        have hpo : plainB l[i] = true := List.all_eq_true.1 hp _ (List.getElem_mem hl)
        have hz' : (listed.setIfInBounds i true).getD l.length true = false := by rw [getD_set_ne true (by omega)]; exact hz
        by_cases hwa : Region.wanted l[i] (yielded (l ++ [z]).toArray a.tmps) = true
        · simp only [hwa, if_true] at hq ⊢
          exact oper_quiet hpo hC (fun a' w' hC' hk => ih _ a' w' hC' hz' hk) ha hq
        · simp only [hwa] at hq ⊢
          exact ⟨ha w hC, ih _ _ w hC hz' hq⟩
      · subst hl
        have hdone := ready_done hw hi
        unfold qOpIn at hq
        unfold wpOpIn
        rw [at_z] at hq ⊢
        obtain ⟨ha, hq⟩ := hq
        have hwa : Region.wanted z (yielded (l ++ [z]).toArray a.tmps) = true := by simp [Region.wanted, hg]
        have hwb : Region.wanted (hush z) (yielded (l ++ [hush z]).toArray a.tmps) = true := by simp [Region.wanted, hush, hg]
        simp only [hwb, if_true] at hq
        simp only [hwa, if_true]
        obtain ⟨v, _, hk⟩ := hq
        have hput : a.put (hush z).dst v = a := by simp [hush, hd, Act.put]
        rw [hput] at hk
        have hempty' : Region.ready .any (l ++ [hush z]).toArray (listed.setIfInBounds l.length true) = [] := nil_of (fun j hj => hdone j (ready_same.1 hj))
        have hempty : Region.ready .any (l ++ [z]).toArray (listed.setIfInBounds l.length true) = [] := nil_of hdone
        have hQ : z.wpIn F n P a w (fun a' w' => Q' .normal a' w') Q' := by
          cases fuel with
          | zero => exact hk.2 w hC
          | succ f => exact hk.1 hempty' w hC
        refine Oper.wpIn_mono (fun a' w' hq => ?_) hQ
        cases fuel with
        | zero => exact ⟨hempty, hq⟩
        | succ f => exact ⟨fun _ => hq, fun j hj => by rw [hempty] at hj; cases hj⟩
      · obtain ⟨_, o, h2, _⟩ := mem_ready.1 hi
        rw [at_out _ hl] at h2; cases h2
end
theorem region_store {F : Fence} {n : Nat} {P : Program} {id : Nat} {Q' : Exit → Act → World → Prop} {a : Act} {w : World} {L : List Oper} {z : Oper} (hz : zL L = some z) (hp : L.dropLast.all plainB = true) (hg : z.guard = none) (hd : z.dst = none) (hm : P.follows .mixedOrders = true)
    (hb : backB 0 L = true) (hw : waitB L.dropLast.length z = true) (hB : Region.lexB .any (swL L).toArray = true)
    (h : wpQuietIn F n P (swL L).toArray (fun w' => ∃ n, w' = w.drewN n) (fun a' => ∀ w', (∃ n, w' = w.drewN n) → z.wpIn F n P a' w' (fun a w => Q' .normal a w) Q') (swL L) a) : (Code.region id L.toArray true).wpIn F n P Q' a w := by
  obtain ⟨l, y, rfl⟩ : ∃ l y, L = l ++ [y] := by
    rcases List.eq_nil_or_concat L with e | ⟨l, y, e⟩
    · subst e; cases hz
    · exact ⟨l, y, by simpa using e⟩
  rw [(sw_snoc y l).2] at hz
  cases hz
  rw [(sw_snoc z l).1] at hB h
  rw [List.dropLast_concat] at hp hw
  simp only [Region.lexB, Bool.and_eq_true] at hB
  refine wpIn_region_any hm (store_any (C := fun w' => ∃ n, w' = w.drewN n) hp hg hd hb hw _ _ _ _ ⟨1, rfl⟩ (by simp [Array.getD]) ?_)
  have := wpAnyQIn_lex (F := F) (n := n) (P := P) (C := fun w' => ∃ n, w' = w.drewN n) (md := .any) hB.1 (l ++ [hush z]) 0 (Array.replicate (l ++ [hush z]).length false) a (by simp) (by simpa using hB.2) h
  simpa using this
end Go.Proofs.Ytfpcocagifmpbaa
