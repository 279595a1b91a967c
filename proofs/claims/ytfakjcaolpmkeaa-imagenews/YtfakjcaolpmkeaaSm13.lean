/-
  What 'same' leans on: a node that there isn't, two partitions held against each other, the document's image as it lies. Conditions: as each says.
-/
import Derived.Test.YtfakjcaolpmkeaaRo13
import Derived.Test.YtfakjcaolpmkeaaSi13
import Derived.Test.YtfakjcaolpmkeaaIg7
import Derived.Test.YtfakjcaolpmkeaaIg9
namespace Go.Proofs.Ytfakjcaolpmkeaa
open Go.RowKit Go.Maps
set_option linter.unusedVariables false

theorem tdrew (w : World) (n : Nat) : Touch (fun _ => False) w (w.drewN n) := ⟨rfl, rfl, rfl, Nat.le_refl _, fun _ _ _ => rfl⟩
section
variable {w w' : World} {mb : Nat} {m : Im}
theorem node_none (h : ImAt w mb m) {x : Int} (hx : isN m.ns.length x = false) : Calls Try.prog 14 #[.pointer (some ⟨mb, 0, none⟩), .int .i64 x] w fun e w' => e = .returned (.tuple #[.bool false, .int .i64 0, .int .u64 0]) ∧ Below w.heap.size w w' := by
  have K := hide (isNode_eq h x)
  rw [hx] at K
  clear h hx
  go_enter Try.func14, Try.ntmps14
  go_wp2_with (go_at_call 27; refine (unhide K).mono ?_; rintro e w1 ⟨rfl, rfl⟩)
  go_returns
  exact ⟨rfl, Below.refl _ _⟩
end
set_option maxHeartbeats 2000000 in
theorem spart_any {W : World} (q : Pt) {a1 a2 a3 b1 b2 b3 : Option Addr} {c1 c2 c3 d1 d2 d3 : Nat} (h1 : IAt W a1 q.is) (h2 : IAt W a2 q.rs) (h3 : IAt W a3 q.ts) (g1 : IAt W b1 q.is) (g2 : IAt W b2 q.rs) (g3 : IAt W b3 q.ts) (l1 : q.is.length ≤ maxLen) (l2 : q.rs.length ≤ maxLen) (l3 : q.ts.length ≤ maxLen) :
    Calls Try.prog 15 #[.agg #[.int .i64 q.ld, .int .i64 q.ep, .int .i64 q.ve, .slice a1 q.is.length c1, .slice a2 q.rs.length c2, .slice a3 q.ts.length c3], .agg #[.int .i64 q.ld, .int .i64 q.ep, .int .i64 q.ve, .slice b1 q.is.length d1, .slice b2 q.rs.length d2, .slice b3 q.ts.length d3]] W fun e w' => e = .returned (.bool true) ∧ Below W.heap.size W w' := by
  have b0 := ((Below.refl W.heap.size W).alloc (Nat.le_refl _) (.cells #[.int .i64 q.ld, .int .i64 q.ep, .int .i64 q.ve, .slice a1 q.is.length c1, .slice a2 q.rs.length c2, .slice a3 q.ts.length c3] 42))
  have b1' := b0.alloc b0.size (.cells #[.int .i64 q.ld, .int .i64 q.ep, .int .i64 q.ve, .slice b1 q.is.length d1, .slice b2 q.rs.length d2, .slice b3 q.ts.length d3] 42)
  have KS : Hid (∀ (V : World) (x y : Option Addr) (s t : Nat) (l : List Int), Touch (fun _ => False) ((W.alloc (.cells #[.int .i64 q.ld, .int .i64 q.ep, .int .i64 q.ve, .slice a1 q.is.length c1, .slice a2 q.rs.length c2, .slice a3 q.ts.length c3] 42)).alloc (.cells #[.int .i64 q.ld, .int .i64 q.ep, .int .i64 q.ve, .slice b1 q.is.length d1, .slice b2 q.rs.length d2, .slice b3 q.ts.length d3] 42)) V → IAt W x l → IAt W y l → l.length ≤ maxLen → Calls Try.prog 28 #[.slice x l.length s, .slice y l.length t] V fun e w' => e = .returned (.bool true) ∧ ∃ n, w' = V.drewN n) := hide (fun V x y s t l tt hx hy hl => by
    have := samei_any V x y s t l l ((hx.later b1').keep tt (fun _ _ _ h => h)) ((hy.later b1').keep tt (fun _ _ _ h => h)) hl hl
    simpa using this)
  have K1 := hide (fun V tt => unhide KS V a1 b1 c1 d1 q.is tt h1 g1 l1)
  have K2 := hide (fun V tt => unhide KS V a2 b2 c2 d2 q.rs tt h2 g2 l2)
  have K3 := hide (fun V tt => unhide KS V a3 b3 c3 d3 q.ts tt h3 g3 l3)
  have BB := hide b1'
  clear h1 h2 h3 g1 g2 g3 l1 l2 l3 KS b0 b1'
  generalize q.is.length = n1 at *
  generalize q.rs.length = n2 at *
  generalize q.ts.length = n3 at *
  generalize q.ld = x1 at *
  generalize q.ep = x2 at *
  generalize q.ve = x3 at *
  go_enter Try.func15, Try.ntmps15
  go_wp2_with fail
  refine (unhide K1 _ (Touch.refl _ _)).mono ?_
  rintro e v1 ⟨rfl, m1, rfl⟩
  go_wp2_with fail
  refine (unhide K2 _ (tdrew _ _)).mono ?_
  rintro e v2 ⟨rfl, m2, rfl⟩
  go_wp2_with fail
  refine (unhide K3 _ (by first | exact tdrew _ _ | (rw [World.drewN_drewN]; exact tdrew _ _))).mono ?_
  rintro e v3 ⟨rfl, m3, rfl⟩
  go_wp2
  go_returns
  exact ⟨rfl, by first | exact below_drewN' (unhide BB) _ | (simp only [World.drewN_drewN]; exact below_drewN' (unhide BB) _)⟩
/-- The document's image, as it lies: it tells g. -/
structure RDat (W : World) (rb : Nat) (g : Img) : Prop where
  ex : ∃ (va vb vc vp : Option Addr) (na nb nc np : Nat), W.heap[rb]? = some (.cells #[.slice va g.ns.length na, .slice vb g.ns.length nb, .slice vc g.ns.length nc, .slice vp g.ps.length np, .int .u64 g.nx, .int .i64 g.ct] 46) ∧
    (∀ (i : Nat) (d : Nd), g.ns[i]? = some d → (∃ b o, va = some ⟨b, o, none⟩ ∧ b < W.heap.size ∧ W.cell? ⟨b, o + i, none⟩ = some (.bool d.th)) ∧ (∃ b o, vb = some ⟨b, o, none⟩ ∧ b < W.heap.size ∧ W.cell? ⟨b, o + i, none⟩ = some (.int .i64 d.tm)) ∧ (∃ b o, vc = some ⟨b, o, none⟩ ∧ b < W.heap.size ∧ W.cell? ⟨b, o + i, none⟩ = some (.int .u64 d.bk))) ∧
    (∀ (k : Nat) (q : Pt), g.ps[k]? = some q → ∃ b o, vp = some ⟨b, o, none⟩ ∧ b < W.heap.size ∧ ∃ (a1 a2 a3 : Option Addr) (c1 c2 c3 : Nat), (∀ j, j < 6 → W.cell? ⟨b, o + k * 6 + j, none⟩ = [Value.int .i64 q.ld, .int .i64 q.ep, .int .i64 q.ve, .slice a1 q.is.length c1, .slice a2 q.rs.length c2, .slice a3 q.ts.length c3][j]?) ∧ IAt W a1 q.is ∧ IAt W a2 q.rs ∧ IAt W a3 q.ts)
theorem RDat.later {W W' : World} {rb : Nat} {g : Img} (h : RDat W rb g) (b : Below W.heap.size W W') : RDat W' rb g := by
  obtain ⟨va, vb, vc, vp, na, nb, nc, np, h1, h2, h3⟩ := h.ex
  refine ⟨va, vb, vc, vp, na, nb, nc, np, below_keep b h1, fun i d hd => ?_, fun k q hq => ?_⟩
  · obtain ⟨⟨b1, o1, e1, f1, g1⟩, ⟨b2, o2, e2, f2, g2⟩, ⟨b3, o3, e3, f3, g3⟩⟩ := h2 i d hd
    exact ⟨⟨b1, o1, e1, Nat.lt_of_lt_of_le f1 b.size, (b.cell (p := ⟨b1, o1 + i, none⟩) f1).trans g1⟩, ⟨b2, o2, e2, Nat.lt_of_lt_of_le f2 b.size, (b.cell (p := ⟨b2, o2 + i, none⟩) f2).trans g2⟩, ⟨b3, o3, e3, Nat.lt_of_lt_of_le f3 b.size, (b.cell (p := ⟨b3, o3 + i, none⟩) f3).trans g3⟩⟩
  · obtain ⟨b1, o1, e1, f1, a1, a2, a3, c1, c2, c3, g1, i1, i2, i3⟩ := h3 k q hq
    exact ⟨b1, o1, e1, Nat.lt_of_lt_of_le f1 b.size, a1, a2, a3, c1, c2, c3, fun j hj => (b.cell (p := ⟨b1, o1 + k * 6 + j, none⟩) f1).trans (g1 j hj), i1.later b, i2.later b, i3.later b⟩
end Go.Proofs.Ytfakjcaolpmkeaa
