/-
  Packets that a law was given, sent one behind the other; packets that it was told, in boxes of its own. Plain lemmas.
-/
import Derived.Test.YtgpfkedihgoohaaNetNoneWalk
import Derived.Test.YtgpfkedihgoohaaPay11
namespace Go.Proofs.Ytgpfkedihgoohaa
open Go.RowKit
set_option linter.unusedVariables false

/-- A packet that the law was told, in a box of its own; all of it lies from block B on. -/
structure Kept (B : Nat) (W : World) (b : Nat) (p : Pk) : Prop where
  box : BoxP W b p
  row : PRow W p
  le : B ≤ b
  from_ : ∀ k, (pkS p).ownBlock = some k → B ≤ k
theorem Kept.later {B : Nat} {W W' : World} {b : Nat} {p : Pk} (h : Kept B W b p) (hb : Below W.heap.size W W') : Kept B W' b p := ⟨h.box.later hb, h.row.later hb, h.le, h.from_⟩
theorem Kept.keep {B : Nat} {W W' : World} {b : Nat} {p : Pk} {S : Nat → Prop} (h : Kept B W b p) (t : Touch S W W') (hs : ∀ k, S k → k < B) : Kept B W' b p :=
  ⟨h.box.keep t (fun e => by have := hs _ e; have := h.le; omega), h.row.keep t (fun k hk e => by have := hs _ e; have := h.from_ k hk; omega), h.le, h.from_⟩
theorem Kept.new {B : Nat} {w W : World} {p : Pk} (hB : B ≤ w.heap.size) (hr : PRow W p) (hn : New w (pkS p)) (hb : Below w.heap.size w W) : Kept B (W.alloc (.cells #[.int .i64 p.fr, .int .i64 p.to, .slice p.a p.l.length p.c] 33)) W.heap.size p :=
  ⟨BoxP.new W p, hr.later ((Below.refl _ _).alloc (Nat.le_refl _) _), Nat.le_trans hB hb.size, fun k hk => Nat.le_trans hB (hn k hk)⟩
/-- Packet k of a list that was handed in. -/
theorem RowsAt.pk {w W : World} {a : Option Addr} {ps : List Pk} (h : RowsAt pkC 3 w a ps) (hb : Below w.heap.size w W) {k : Nat} (hk : k < ps.length) : ∃ b off, a = some ⟨b, off, none⟩ ∧ W.cell? ⟨b, off + k * 3, none⟩ = some (.int .i64 ps[k].fr) ∧ W.cell? ⟨b, off + k * 3 + 1, none⟩ = some (.int .i64 ps[k].to) ∧ W.cell? ⟨b, off + k * 3 + 2, none⟩ = some (.slice ps[k].a ps[k].l.length ps[k].c) := by
  obtain ⟨b, off, e1, e2, e3⟩ := h k hk
  refine ⟨b, off, e1, ?_, ?_, ?_⟩
  · exact (hb.cell (p := ⟨b, off + k * 3 + 0, none⟩) e2).trans (e3 0 (by omega))
  · exact (hb.cell (p := ⟨b, off + k * 3 + 1, none⟩) e2).trans (e3 1 (by omega))
  · exact (hb.cell (p := ⟨b, off + k * 3 + 2, none⟩) e2).trans (e3 2 (by omega))
/-- The first k of them. -/
def Fst (ps : List Pk) (k : Nat) : List Pa := (ps.take k).map Pk.abs
theorem Fst_len {ps : List Pk} {k : Nat} (h : k ≤ ps.length) : (Fst ps k).length = k := by simp [Fst]; omega
theorem Fst_send {ps : List Pk} {k : Nat} (h : k < ps.length) (h2 : ps.length ≤ 256) : sendE (Fst ps k) ps[k].abs = Fst ps (k + 1) := by
  unfold sendE
  rw [Fst_len (by omega), if_pos (by omega)]
  unfold Fst
  have e : ps.take (k + 1) = ps.take k ++ [ps[k]] := by rw [List.take_add_one, List.getElem?_eq_getElem h]; rfl
  rw [e, List.map_append]
  rfl
theorem Fst_all (ps : List Pk) : Fst ps ps.length = ps.map Pk.abs := by simp [Fst]
theorem rnd_plus (i : Int) {n : Nat} (h : 0 < n) (j : Int) : rnd (i + j * n) n = rnd i n := by
  unfold rnd
  rw [Int.add_mul_emod_self_right]
end Go.Proofs.Ytgpfkedihgoohaa
