/-
  A [][]byte as it is read. No conditions beyond the reading and the sizes that the reach allows.
-/
import Derived.Test.YtibjfekfkllnjaaPk12
import Derived.Test.YtibjfekfkllnjaaRo0
namespace Go.Proofs.Ytibjfekfkllnjaa
open Go.RowKit Go.Deep Go.ChangeShapes
set_option linter.unusedVariables false

section
variable {H : Type} {enc_ : TypeId × Value → H} {w : World} {base : Nat} {held : Bool}
theorem blist_read {fuel : Nat} {c : Value} {x : DataW H × List MemPlace} (h : DataW.trod enc_ Try.prog w base (fun _ => true) held fuel 60 [c] = some x) (hs : ∀ n ∈ x.1.weights Try.prog 60, n ≤ reachBytes) :
    ∃ (ls : List En) (a : Option Addr) (cap : Nat), c = .slice a ls.length cap ∧ BRow w a ls ∧ ls.length ≤ 9223372036854775807 := by
  obtain ⟨ls, a, cap, e, h1, h2, h3⟩ := rows_read (fun p : En => [enS p]) 1 24 (EIn w) 33 60 Try.underlying60 cells12_sl bytes12_sl (by omega) (fun _ => rfl) (fun {fuel cs x} h hs => by
    have hlen : cs.length = 1 := by
      rcases open_ints Try.underlying33 Try.underlying5 cells12_u8 h with ⟨hcs, hx⟩ | ⟨a, l, cap, zs, hcs, _⟩
      · rw [hcs]; rfl
      · rw [hcs]; rfl
    match cs, hlen with
    | [c0], _ =>
      obtain ⟨l, a, cap, e2, r2, n2, l2, w2⟩ := bytes12_read h hs
      subst e2
      exact ⟨⟨0, a, cap, l⟩, rfl, r2, n2, by show l.length ≤ _; unfold reachBytes at w2; omega⟩) h hs
  refine ⟨ls, a, cap, e, ⟨fun i hi => ?_, h3⟩, ?_⟩
  · obtain ⟨b, off, e1, e2, e3⟩ := h2 i hi
    have := e3 0 (by omega)
    rw [Nat.mul_one, Nat.add_zero] at this
    exact ⟨b, off, e1, e2, this⟩
  · unfold reachBytes at h1
    omega
end
end Go.Proofs.Ytibjfekfkllnjaa
