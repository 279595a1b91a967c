/-
  prod's producer.add: what stands between its two regions. Plain lemmas.
-/
import Derived.Test.YtjocjnjdmmihnaaPd2
namespace Go.Proofs.Ytjocjnjdmmihnaa
open Go.RowKit
set_option linter.unusedVariables false

/-- Behind the append. -/
structure Mid (w V : World) (gp : Nat) (pe px : Int) (av : Option Addr) (n pc g3 c3 : Nat) (po : Bool) (pf : Int) (bs : Array Value) (xs : List Value) : Prop where
  box : V.heap[gp]? = some (.cells #[.int .i64 pe, .int .i64 px, .slice (some ⟨g3, 0, none⟩) (n + 1) c3, .bool po, .int .i64 pf] 44)
  bat : V.heap[w.heap.size]? = some (.cells bs 30)
  row : Wide V 62 3 (.slice (some ⟨g3, 0, none⟩) (n + 1) c3) (n + 1) xs
  tch : Touch (fun k => k = gp ∨ (Value.slice av n pc).ownBlock = some k) w V
  mov : Moved w (.slice av n pc) (.slice (some ⟨g3, 0, none⟩) (n + 1) c3)
theorem mid_of {w W X w3 : World} {gp : Nat} {pe px : Int} {av a3 : Option Addr} {n pc c3 : Nat} {po : Bool} {pf : Int} {bs : Array Value} {xs : List Value} (hgw : gp < w.heap.size) (HA : Below w.heap.size w W) (hX : Below W.heap.size W X)
    (hp : W.heap[gp]? = some (.cells #[.int .i64 pe, .int .i64 px, .slice av n pc, .bool po, .int .i64 pf] 44)) (hb : W.heap[w.heap.size]? = some (.cells bs 30))
    (hne : (Value.slice av n pc).ownBlock ≠ some gp) (hnb : (Value.slice av n pc).ownBlock ≠ some w.heap.size)
    (o3 : Wide w3 62 3 (.slice a3 (n + 1) c3) (n + 1) xs) (t3 : Touch (fun k => (Value.slice av n pc).ownBlock = some k) X w3) (m3 : Moved X (.slice av n pc) (.slice a3 (n + 1) c3)) :
    ∃ g3, a3 = some ⟨g3, 0, none⟩ ∧ Mid w (w3.setCell ⟨gp, 2, none⟩ (.slice a3 (n + 1) c3)) gp pe px av n pc g3 c3 po pf bs xs := by
  obtain ⟨g3, ha3⟩ : ∃ g, a3 = some ⟨g, 0, none⟩ := by
    obtain ⟨a', c', e1, _, _, _, _, hp⟩ := o3.parts
    injection e1 with e1 e2 e3
    obtain ⟨g, hg, _⟩ := hp (by omega)
    exact ⟨g, by rw [e1, hg]⟩
  subst ha3
  have hWX : Below w.heap.size w X := HA.trans (hX.mono HA.size)
  have ts := touch_set w3 gp 2 (.slice (some ⟨g3, 0, none⟩) (n + 1) c3)
  have h3 : w3.heap[gp]? = some (.cells #[.int .i64 pe, .int .i64 px, .slice av n pc, .bool po, .int .i64 pf] 44) := t3.keep (below_keep hX hp) hne
  have b3 : w3.heap[w.heap.size]? = some (.cells bs 30) := t3.keep (below_keep hX hb) hnb
  refine ⟨g3, rfl, heap_set h3 2 _, ts.keep b3 (show ¬ w.heap.size = gp by omega), Wide.keep o3 ts (fun k hk e => ?_), ?_, fun k hk => ?_⟩
  · rcases m3 k hk with e2 | e2
    · exact hne (by rw [← e]; exact e2)
    · have h2 := hWX.size
      omega
  · exact ((Touch.of_below (S := fun k => k = gp ∨ (Value.slice av n pc).ownBlock = some k) hWX).trans (t3.mono (fun k hk => .inr hk))).trans (ts.mono (fun k hk => .inl hk))
  · rcases m3 k hk with e | e
    · exact .inl e
    · have h2 := hWX.size
      exact .inr (by omega)
end Go.Proofs.Ytjocjnjdmmihnaa
