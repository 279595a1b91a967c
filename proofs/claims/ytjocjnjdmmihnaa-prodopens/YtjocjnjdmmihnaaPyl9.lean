/-
  A list of batches as it is read. No conditions beyond the reading and the sizes that the reach allows.
-/
import Derived.Test.YtjocjnjdmmihnaaQi9
namespace Go.Proofs.Ytjocjnjdmmihnaa
open Go.RowKit Go.Deep Go.ChangeShapes
set_option linter.unusedVariables false

set_option maxRecDepth 100000 in
theorem bytes9_batch : Try.prog.bytesOf 30 = 72 := by kernel_rfl
section
variable {H : Type} {enc_ : TypeId × Value → H} {w : World} {base : Nat} {held : Bool}
theorem batch_open {fuel : Nat} {cs : List Value} {x : DataW H × List MemPlace} (h : DataW.trod enc_ Try.prog w base (fun _ => true) held fuel 30 cs = some x) (hs : ∀ n ∈ x.1.weights Try.prog 30, n ≤ reachBytes) :
    ∃ e : En, cs = enC e ∧ BIn w e.b e.a e.c := by
  obtain ⟨b, a, cap, e1, e2⟩ := batch_read (v := .agg cs.toArray) (by show DataW.trod enc_ Try.prog w base (fun _ => true) held fuel 30 cs.toArray.toList = some x; exact h) hs
  refine ⟨⟨b, a, cap⟩, ?_, e2⟩
  unfold bv at e1
  injection e1 with e1
  have := congrArg Array.toList e1
  exact this
theorem batches_read {fuel : Nat} {c : Value} {x : DataW H × List MemPlace} (h : DataW.trod enc_ Try.prog w base (fun _ => true) held fuel 22 [c] = some x) (hs : ∀ n ∈ x.1.weights Try.prog 22, n ≤ reachBytes) :
    ∃ (es : List En) (a : Option Addr) (cap : Nat), c = .slice a es.length cap ∧ es.length * 72 ≤ reachBytes ∧ RowsAt enC 9 w a es ∧ ∀ e ∈ es, BIn w e.b e.a e.c :=
  rows_read enC 9 72 (fun e => BIn w e.b e.a e.c) 30 22 Try.underlying22 cells7_batch bytes9_batch (by omega) (fun _ => rfl) (fun h hs => batch_open h hs) h hs
end
end Go.Proofs.Ytjocjnjdmmihnaa
