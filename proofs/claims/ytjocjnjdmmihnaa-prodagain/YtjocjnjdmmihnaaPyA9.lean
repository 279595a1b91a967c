/-
  Batches as they are read: a nil list of values has no room. No conditions beyond the reading.
-/
import Derived.Test.YtjocjnjdmmihnaaPyl9
namespace Go.Proofs.Ytjocjnjdmmihnaa
open Go.RowKit Go.Deep Go.ChangeShapes
set_option linter.unusedVariables false

section
variable {H : Type} {enc_ : TypeId × Value → H} {w : World} {base : Nat} {held : Bool}
set_option maxRecDepth 100000 in
theorem batch_open2 {fuel : Nat} {cs : List Value} {x : DataW H × List MemPlace} (h : DataW.trod enc_ Try.prog w base (fun _ => true) held fuel 30 cs = some x) (hs : ∀ n ∈ x.1.weights Try.prog 30, n ≤ reachBytes) :
    ∃ e : En, cs = enC e ∧ BIn w e.b e.a e.c ∧ (e.a = none → e.c = 0) := by
  obtain ⟨e, rfl, hb⟩ := batch_open h hs
  refine ⟨e, rfl, hb, ?_⟩
  obtain ⟨xs, n, _, rfl, hlen, hxl, hf⟩ := DataW.trod_struct Try.underlying30 h
  match xs, hxl with
  | [y0, y1, y2, y3, y4, y5, y6, y7, y8], _ =>
    have g8 := hf 8 _ rfl
    simp [enC, cells7_sls] at g8
    have hs8 : ∀ n ∈ y8.1.weights Try.prog 28, n ≤ reachBytes := fun k hk => hs k (by
      simp only [DataW.weights, Try.underlying30]
      exact DataW.weights_mem_each (j := 8) rfl rfl k hk)
    obtain ⟨ls, a, cap, e8, r8, n8, _⟩ := pays7_read g8 hs8
    injection e8 with e1 e2 e3
    rw [e1, e3]
    exact n8
theorem batches_read2 {fuel : Nat} {c : Value} {x : DataW H × List MemPlace} (h : DataW.trod enc_ Try.prog w base (fun _ => true) held fuel 22 [c] = some x) (hs : ∀ n ∈ x.1.weights Try.prog 22, n ≤ reachBytes) :
    ∃ (es : List En) (a : Option Addr) (cap : Nat), c = .slice a es.length cap ∧ es.length * 72 ≤ reachBytes ∧ RowsAt enC 9 w a es ∧ ∀ e ∈ es, BIn w e.b e.a e.c ∧ (e.a = none → e.c = 0) :=
  rows_read enC 9 72 (fun e => BIn w e.b e.a e.c ∧ (e.a = none → e.c = 0)) 30 22 Try.underlying22 cells7_batch bytes9_batch (by omega) (fun _ => rfl) (fun h hs => batch_open2 h hs) h hs
end
end Go.Proofs.Ytjocjnjdmmihnaa
