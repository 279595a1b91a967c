/-
  A message stays as it lies in later worlds; what is laid behind what was laid, in plain words. Conditions: none.
-/
import Derived.Test.YtcekleconjmfjaaRq8
namespace Go.Proofs.Ytcekleconjmfjaa
open Go.RowKit
set_option linter.unusedVariables false

theorem RowsAt.later {α : Type} {cells : α → List Value} {sz : Nat} {w w' : World} {a : Option Addr} {os : List α} (h : RowsAt cells sz w a os) (hb : Below w.heap.size w w') : RowsAt cells sz w' a os := by
  intro i hi
  obtain ⟨b, off, h1, h2, h3⟩ := h i hi
  exact ⟨b, off, h1, Nat.lt_of_lt_of_le h2 hb.size, fun j hj => (hb.cell (p := ⟨b, off + i * sz + j, none⟩) h2).trans (h3 j hj)⟩
theorem MgIn.later {w w' : World} {m : Mg} (h : MgIn w m) (hb : Below w.heap.size w w') : MgIn w' m :=
  ⟨h.hd, h.rf, h.en.later hb, fun o ho => ⟨(h.ein o ho).1.later hb, (h.ein o ho).2⟩, h.em, h.sn.later hb, h.sc, h.fe, h.ge, h.gb.later hb, fun o ho => ⟨(h.gin o ho).1.later hb, (h.gin o ho).2⟩, h.gm, h.c.later hb, h.cf, h.b.later hb, h.bf, h.ot, h.pid, h.ms.later hb, h.msf, h.mm, h.bs.later hb, fun o ho => ⟨(h.bin o ho).1.later hb, (h.bin o ho).2⟩, h.bm, h.ab.later hb, h.ain, h.am⟩
theorem MgIn.kind {w : World} {m : Mg} {k : Int} (h : MgIn w m) (hk : I64 k) : MgIn w { m with kd := k } :=
  ⟨fun x hx => by
    simp only [List.mem_cons, List.not_mem_nil, or_false] at hx
    rcases hx with e | e
    · subst e
      exact hk
    · exact h.hd x (by simp only [List.mem_cons, List.not_mem_nil, or_false]; exact .inr e), h.rf, h.en, h.ein, h.em, h.sn, h.sc, h.fe, h.ge, h.gb, h.gin, h.gm, h.c, h.cf, h.b, h.bf, h.ot, h.pid, h.ms, h.msf, h.mm, h.bs, h.bin, h.bm, h.ab, h.ain, h.am⟩
/-- What was laid goes on. -/
def Ext (s s' : Ws) : Prop := s'.2 = false → s.2 = false ∧ ∃ r, s'.1 = s.1 ++ r
theorem Ext.refl (s : Ws) : Ext s s := fun h => ⟨h, [], by simp⟩
theorem Ext.trans {a b c : Ws} (h : Ext a b) (g : Ext b c) : Ext a c := fun hc => by
  obtain ⟨hb, r, er⟩ := g hc
  obtain ⟨ha, q, eq⟩ := h hb
  exact ⟨ha, q ++ r, by rw [er, eq, List.append_assoc]⟩
theorem ext_X (s : Ws) (x : List Nat) : Ext s (wX s x) := fun h => by
  have h' : s.2 = false := h
  exact ⟨h', x, by simp [wX, lays, h']⟩
theorem ext_B (s : Ws) (d : List Nat) : Ext s (wB s d) := by
  unfold wB
  split
  · intro h
    cases h
  · exact ext_X _ _
theorem ext_fold {α : Type} (f : Ws → α → Ws) (hf : ∀ s o, Ext s (f s o)) : ∀ (l : List α) (s : Ws), Ext s (l.foldl f s)
  | [], s => Ext.refl s
  | o :: r, s => (hf s o).trans (ext_fold f hf r (f s o))
theorem ext_batS (s : Ws) (B : Bt) : Ext s (batS s B) := by
  unfold batS
  split
  · exact ext_B _ _
  · exact ext_B _ _
theorem ext_rest (s : Ws) (m : Mg) : Ext s (restS s m) := by
  unfold restS
  split
  · exact ((((ext_X _ _).trans (ext_X _ _)).trans (ext_X _ _)).trans (ext_fold _ (fun s o => (ext_X _ _).trans (ext_B _ _)) _ _)).trans (ext_B _ _)
  · split
    · exact ext_X _ _
    · split
      · exact (((ext_X _ _).trans (ext_X _ _)).trans (ext_X _ _)).trans (ext_fold _ (fun s o => ext_batS _ _) _ _)
      · split
        · exact ext_B _ _
        · exact ((((((((ext_X _ _).trans (ext_X _ _)).trans (ext_X _ _)).trans (ext_X _ _)).trans (ext_batS _ _)).trans (ext_X _ _)).trans (ext_fold _ (fun s o => ext_batS _ _) _ _)).trans (ext_X _ _)).trans (ext_fold _ (fun s o => (ext_X _ _).trans (ext_X _ _)) _ _)
/-- The first byte of a message's bytes tells its kind. -/
theorem fin_first {m : Mg} (hE : finE m = 0) (hk : 1 ≤ m.kd ∧ m.kd ≤ 15) : ∃ r, finL m = (2 * m.kd).toNat :: r := by
  have h2 : (msgS ([], false) m).2 = false := by
    unfold finE at hE
    split at hE
    · rename_i h
      exact absurd hE h
    · split at hE
      · cases hE
      · rename_i _ h
        simpa using h
  obtain ⟨_, r, er⟩ := ext_rest (headS ([], false) m) m h2
  have hz : zig m.kd = (2 * m.kd).toNat := by
    have := zig_pos (i := m.kd) (by omega)
    omega
  refine ⟨encL [m.fr, m.tt, m.co, m.er] ++ r, ?_⟩
  unfold finL
  rw [if_pos hE]
  show (restS (headS ([], false) m) m).1 = _
  rw [er]
  show ([] ++ encL [m.kd, m.fr, m.tt, m.co, m.er]) ++ r = _
  have e : encL [m.kd, m.fr, m.tt, m.co, m.er] = enc (zig m.kd) ++ encL [m.fr, m.tt, m.co, m.er] := by simp [encL]
  rw [e, hz, enc_lt (by omega)]
  simp
theorem fin_bad {m : Mg} (hk : kndE m.kd ≠ 0) : finE m = 1 ∧ finL m = [] := by
  have h : finE m = 1 := by
    unfold finE msgE
    rw [if_pos hk, if_pos (by decide)]
  refine ⟨h, ?_⟩
  unfold finL
  rw [h]
  rfl
theorem fin_none {m : Mg} (h : finE m ≠ 0) : finL m = [] := by
  unfold finL
  rw [if_neg h]
/-- How a kind that there isn't is read. -/
theorem kind_read {k : Int} (hk : I64 k) : rI (enc (zig k) ++ [0, 0, 0, 0]) ⟨0, 0⟩ = (k, ⟨(enc (zig k)).length, 0⟩) ∧ ∀ j, j < 4 → rI (enc (zig k) ++ [0, 0, 0, 0]) ⟨(enc (zig k)).length + j, 0⟩ = (0, ⟨(enc (zig k)).length + j + 1, 0⟩) := by
  refine ⟨?_, fun j hj => ?_⟩
  · have := rI_enc (t := enc (zig k) ++ [0, 0, 0, 0]) (u := [0, 0, 0, 0]) (s := ⟨0, 0⟩) rfl rfl hk.1 hk.2
    rw [this]
    simp
  · have e0 : enc (zig 0) = [0] := by rw [zig_small.1, enc_lt (by decide)]
    have := rI_enc (t := enc (zig k) ++ [0, 0, 0, 0]) (u := List.replicate (3 - j) 0) (s := ⟨(enc (zig k)).length + j, 0⟩) (i := 0) rfl (by
      show List.drop ((enc (zig k)).length + j) (enc (zig k) ++ [0, 0, 0, 0]) = _
      rw [List.drop_append, e0, List.drop_eq_nil_of_le (by omega), Nat.add_sub_cancel_left]
      have : j = 0 ∨ j = 1 ∨ j = 2 ∨ j = 3 := by omega
      rcases this with e | e | e | e <;> subst e <;> rfl) (by decide) (by decide)
    rw [this, e0]
    rfl
end Go.Proofs.Ytcekleconjmfjaa
