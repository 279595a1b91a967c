/-
  Leaders behind any command, in plain words. Conditions: none.
-/
import Derived.Test.YthaedepnglincaaIgm
namespace Go.Proofs.Ythaedepnglincaa
set_option linter.unusedVariables false

def LIs (n : Nat) (g : Img) : Prop := ∀ (i : Nat) (q : Pt), g.ps[i]? = some q → LI n g.ns q
def GoL (a b : List Pt) : Prop := ∀ (i : Nat) (q q' : Pt), a[i]? = some q → b[i]? = some q' → Goes q q'
theorem GoL.refl (a : List Pt) : GoL a a := fun i q q' h h' => by rw [h] at h'; cases h'; exact Goes.refl _
theorem LI.same {n : Nat} {ns ns' : List Nd} {q : Pt} (h : LI n ns q) (e : ∀ y, 0 ≤ y → thr ns' y = thr ns y) : LI n ns' q :=
  ⟨h.nn, h.is0, h.rs0, h.sub, fun hl => by
    obtain ⟨h1, h2⟩ := h.led hl
    exact ⟨by rw [e _ (in_low h.nn h2)]; exact h1, h2⟩, fun hl y hy => by rw [e _ (in_low h.nn hy)]; exact h.non hl y hy⟩
theorem LIs.set {n : Nat} {g : Img} (hL : LIs n g) {i : Nat} {q0 q : Pt} (h0 : g.ps[i]? = some q0) (hq : LI n g.ns q ∧ Goes q0 q) (nx ct : Int) : LIs n ⟨g.ns, g.ps.set i q, nx, ct⟩ ∧ GoL g.ps (g.ps.set i q) := by
  have hi : i < g.ps.length := by
    rcases Nat.lt_or_ge i g.ps.length with h | h
    · exact h
    · rw [List.getElem?_eq_none h] at h0; cases h0
  have key : ∀ (j : Nat) (r : Pt), (g.ps.set i q)[j]? = some r → (j = i ∧ r = q) ∨ (j ≠ i ∧ g.ps[j]? = some r) := fun j r hr => by
    rw [List.getElem?_set] at hr
    by_cases e : i = j
    · subst e
      rw [if_pos rfl, if_pos hi] at hr
      exact .inl ⟨rfl, (Option.some.inj hr).symm⟩
    · rw [if_neg e] at hr
      exact .inr ⟨Ne.symm e, hr⟩
  refine ⟨fun j r hr => ?_, fun j a b ha hb => ?_⟩
  · rcases key j r hr with ⟨_, e⟩ | ⟨_, e⟩
    · rw [e]; exact hq.1
    · exact hL j r e
  · rcases key j b hb with ⟨e1, e⟩ | ⟨_, e⟩
    · rw [e1, h0] at ha
      cases ha
      rw [e]; exact hq.2
    · rw [ha] at e; cases e; exact Goes.refl _
theorem LIs.map {n : Nat} {g : Img} (hL : LIs n g) {f : Pt → Pt} {ns' : List Nd} (hf : ∀ q, LI n g.ns q → LI n ns' (f q) ∧ Goes q (f q)) (nx ct : Int) : LIs n ⟨ns', g.ps.map f, nx, ct⟩ ∧ GoL g.ps (g.ps.map f) := by
  have key : ∀ (j : Nat) (r : Pt), (g.ps.map f)[j]? = some r → ∃ q, g.ps[j]? = some q ∧ f q = r := fun j r hr => by
    rw [List.getElem?_map] at hr
    cases h : g.ps[j]? with
    | none => rw [h] at hr; cases hr
    | some q => rw [h] at hr; exact ⟨q, rfl, by simpa using hr⟩
  refine ⟨fun j r hr => ?_, fun j a b ha hb => ?_⟩
  · obtain ⟨q, h1, rfl⟩ := key j r hr
    exact (hf q (hL j q h1)).1
  · obtain ⟨q, h1, rfl⟩ := key j b hb
    rw [ha] at h1
    cases h1
    exact (hf a (hL j a ha)).2
theorem getD_some13 {ps : List Pt} {i : Nat} (h : i < ps.length) : ps[i]? = some (ps.getD i default) := by
  simp [List.getD, h]
theorem LIs.apply {n p : Nat} {b : Int} {g : Img} (hG : GF n p b g) (hL : LIs n g) (c : Cm) : LIs n (applyI g c).2 ∧ GoL g.ps (applyI g c).2.ps := by
  obtain ⟨rfl, rfl, h3⟩ := hG
  have same : LIs g.ns.length ⟨g.ns, g.ps, g.nx, g.ct + 1⟩ ∧ GoL g.ps g.ps := ⟨hL, GoL.refl _⟩
  unfold applyI
  simp only
  by_cases hf : fitsB g.ns.length g.ps.length c = false
  · rw [if_pos hf]; exact same
  · rw [if_neg hf]
    have hf' : fitsB g.ns.length g.ps.length c = true := by simpa using hf
    by_cases h4 : c.kd = 4
    · rw [if_pos h4]
      obtain ⟨hN, hl, h5⟩ := fits_part hf' (.inl h4)
      obtain ⟨i, hi, hil⟩ := isN_nat hN
      unfold moveI
      split
      · rename_i hz
        rw [hi, Int.toNat_natCast] at hz ⊢
        exact hL.set (getD_some13 hil) (move_li (hL _ _ (getD_some13 hil)) hz (isL_in hl)) _ _
      · exact same
    · rw [if_neg h4]
      by_cases k3 : c.kd = 3
      · rw [if_pos k3]
        obtain ⟨hN, hl, h5⟩ := fits_part hf' (.inr k3)
        obtain ⟨i, hi, hil⟩ := isN_nat hN
        unfold isrI
        split
        · rename_i ha
          split
          · rename_i hb
            rw [hi, Int.toNat_natCast] at ha hb ⊢
            refine hL.set (getD_some13 hil) (isr_li (hL _ _ (getD_some13 hil)) (h3 _ (getD_mem13 hil)).ts (isL_in hl) ?_ hb.2) _ _
            rw [ha.1]; exact hb.1
          · exact same
        · exact same
      · rw [if_neg k3]
        obtain ⟨x, hx, hxl⟩ := isN_nat (fits_in hf' h4)
        by_cases k1 : c.kd = 1
        · rw [if_pos k1]
          unfold joinI
          split
          · rw [hx, Int.toNat_natCast]
            exact hL.map (fun q hq => join_li hq hxl _ rfl) _ _
          · exact same
        · rw [if_neg k1]
          by_cases k2 : c.kd = 2
          · rw [if_pos k2]
            unfold fenceI
            split
            · rw [hx, Int.toNat_natCast]
              exact hL.map (fun q hq => gone_li hq hxl _ rfl) _ _
            · exact same
          · rw [if_neg k2]
            unfold blockI
            split
            · rw [hx, Int.toNat_natCast]
              refine ⟨fun j r hr => (hL j r hr).same (fun y hy => ?_), GoL.refl _⟩
              rw [thr_set hxl _ hy]
              split
              · rename_i e
                subst e
                unfold thr
                rw [Int.toNat_natCast]
              · rfl
            · exact same
/-- What holds between commands, whole. -/
structure GL (n p : Nat) (b : Int) (g : Img) : Prop where
  gf : GF n p b g
  li : LIs n g
theorem GL.apply {n p : Nat} {b : Int} {g : Img} (h : GL n p b g) (c : Cm) : GL n p (b + 3) (applyI g c).2 ∧ GoL g.ps (applyI g c).2.ps ∧ (applyI g c).2.ct = g.ct + 1 := by
  refine ⟨⟨h.gf.apply c, (h.li.apply h.gf c).1⟩, (h.li.apply h.gf c).2, ?_⟩
  unfold applyI
  simp only
  unfold moveI isrI joinI fenceI blockI
  repeat' split
  all_goals rfl
end Go.Proofs.Ythaedepnglincaa
