/-
  txn's small helpers: none, begin, isName, isPart, decided, named. Conditions: names are ints.
-/
import Derived.Test.YtbgccnnomgeniaaTx0
namespace Go.Proofs.Ytbgccnnomgeniaa
open Go.RowKit Go.Maps
set_option linter.unusedVariables false

/-- A record in plain words; what is decided: a record, whether there is one, an error. -/
structure Re where
  kd : Int
  tx : Int
  inc : Int
  pid : Int
  ep : Int
  ps : List Int
  co : Bool
def re0 : Re := ⟨0, 0, 0, 0, 0, [], false⟩
structure Dn where
  r : Re
  ok : Bool
  er : Int
def noneD (e : Int) : Dn := ⟨re0, false, e⟩
def beginD (n inc pid : Int) : Dn := if pid = 0 then noneD 16 else ⟨⟨1, n, inc, pid, 0, [], false⟩, true, 0⟩
abbrev reC (r : Re) (sa : Option Addr) (c : Nat) : Array Value := #[.int .i64 r.kd, .int .i64 r.tx, .int .i64 r.inc, .int .u64 r.pid, .int .i64 r.ep, .slice sa r.ps.length c, .bool r.co]
def DnP (w : World) (d : Dn) (e : Ending) (w' : World) : Prop := ∃ (sa : Option Addr) (c : Nat), e = .returned (.tuple #[.agg (reC d.r sa c), .bool d.ok, .int .i64 d.er]) ∧ IL w' (.slice sa d.r.ps.length c) d.r.ps ∧ New w (.slice sa d.r.ps.length c) ∧ Below w.heap.size w w'
theorem set1 {u : World} {g : Nat} {cs cs' : Array Value} {t : TypeId} (h : u.heap[g]? = some (.cells cs t)) (i : Nat) (v : Value) (e : cs.setIfInBounds i v = cs') : (u.setCell ⟨g, i, none⟩ v).heap[g]? = some (.cells cs' t) := by
  rw [← e]; exact heap_set h i v
/-- Seven cells are laid one behind the other. -/
theorem set7 {u : World} {g : Nat} {cs : Array Value} {t : TypeId} (h : u.heap[g]? = some (.cells cs t)) (hs : cs.size = 7) (v0 v1 v2 v3 v4 v5 v6 : Value) :
    (((((((u.setCell ⟨g, 0, none⟩ v0).setCell ⟨g, 1, none⟩ v1).setCell ⟨g, 2, none⟩ v2).setCell ⟨g, 3, none⟩ v3).setCell ⟨g, 4, none⟩ v4).setCell ⟨g, 5, none⟩ v5).setCell ⟨g, 6, none⟩ v6).heap[g]? = some (.cells #[v0, v1, v2, v3, v4, v5, v6] t) ∧ Touch (· = g) u (((((((u.setCell ⟨g, 0, none⟩ v0).setCell ⟨g, 1, none⟩ v1).setCell ⟨g, 2, none⟩ v2).setCell ⟨g, 3, none⟩ v3).setCell ⟨g, 4, none⟩ v4).setCell ⟨g, 5, none⟩ v5).setCell ⟨g, 6, none⟩ v6) := by
  match cs, hs with
  | ⟨[c0, c1, c2, c3, c4, c5, c6]⟩, _ =>
    have e0 := set1 h 0 v0 (cs' := #[v0, c1, c2, c3, c4, c5, c6]) rfl
    have e1 := set1 e0 1 v1 (cs' := #[v0, v1, c2, c3, c4, c5, c6]) rfl
    have e2 := set1 e1 2 v2 (cs' := #[v0, v1, v2, c3, c4, c5, c6]) rfl
    have e3 := set1 e2 3 v3 (cs' := #[v0, v1, v2, v3, c4, c5, c6]) rfl
    have e4 := set1 e3 4 v4 (cs' := #[v0, v1, v2, v3, v4, c5, c6]) rfl
    have e5 := set1 e4 5 v5 (cs' := #[v0, v1, v2, v3, v4, v5, c6]) rfl
    have e6 := set1 e5 6 v6 (cs' := #[v0, v1, v2, v3, v4, v5, v6]) rfl
    refine ⟨e6, ?_⟩
    have t0 := touch_set u g 0 v0
    have t1 := t0.trans (touch_set _ g 1 v1)
    have t2 := t1.trans (touch_set _ g 2 v2)
    have t3 := t2.trans (touch_set _ g 3 v3)
    have t4 := t3.trans (touch_set _ g 4 v4)
    have t5 := t4.trans (touch_set _ g 5 v5)
    exact t5.trans (touch_set _ g 6 v6)
theorem isName_any (n : Int) (w : World) : Calls Try.prog 50 #[.int .i64 n] w fun e w' => e = .returned (.bool (decide (0 ≤ n ∧ n < 8))) ∧ w' = w := by
  go_enter Try.func50, Try.ntmps50
  by_cases h0 : 0 ≤ n
  · by_cases h1 : n < 8
    · go_wp2
      go_ret
      simp [h0, h1]
    · go_wp2
      go_ret
      simp [h1]
  · go_wp2
    go_ret
    simp
    omega
theorem isPart_any (n : Int) (w : World) : Calls Try.prog 48 #[.int .i64 n] w fun e w' => e = .returned (.bool (decide (0 ≤ n ∧ n < 6))) ∧ w' = w := by
  go_enter Try.func48, Try.ntmps48
  by_cases h0 : 0 ≤ n
  · by_cases h1 : n < 6
    · go_wp2
      go_ret
      simp [h0, h1]
    · go_wp2
      go_ret
      simp [h1]
  · go_wp2
    go_ret
    simp
    omega
def NoneP (w : World) (er : Int) (e : Ending) (w' : World) : Prop := e = .returned (.tuple #[.agg #[.int .i64 0, .int .i64 0, .int .i64 0, .int .u64 0, .int .i64 0, .slice none 0 0, .bool false], .bool false, .int .i64 er]) ∧ Below w.heap.size w w'
set_option maxRecDepth 100000 in
theorem tnone_any (er : Int) (w : World) : Calls Try.prog 44 #[.int .i64 er] w fun e w' => NoneP w er e w' := by
  go_enter Try.func44, Try.ntmps44
  have F : Hid (NoneP w er (.returned (.tuple #[.agg #[.int .i64 0, .int .i64 0, .int .i64 0, .int .u64 0, .int .i64 0, .slice none 0 0, .bool false], .bool false, .int .i64 er])) (w.alloc (.cells #[.int .i64 0, .int .i64 0, .int .i64 0, .int .u64 0, .int .i64 0, .slice none 0 0, .bool false] 25))) := ⟨rfl, (Below.refl _ _).alloc (Nat.le_refl _) _⟩
  go_wp2
  have hb := heap_new w (.cells #[.int .i64 0, .int .i64 0, .int .i64 0, .int .u64 0, .int .i64 0, .slice none 0 0, .bool false] 25)
  generalize w.alloc (.cells #[.int .i64 0, .int .i64 0, .int .i64 0, .int .u64 0, .int .i64 0, .slice none 0 0, .bool false] 25) = W at *
  have y0 : W.cell? ⟨w.heap.size, 0, none⟩ = some (.int .i64 0) := cell_of hb 0
  have y1 : W.cell? ⟨w.heap.size, 1, none⟩ = some (.int .i64 0) := cell_of hb 1
  have y2 : W.cell? ⟨w.heap.size, 2, none⟩ = some (.int .i64 0) := cell_of hb 2
  have y3 : W.cell? ⟨w.heap.size, 3, none⟩ = some (.int .u64 0) := cell_of hb 3
  have y4 : W.cell? ⟨w.heap.size, 4, none⟩ = some (.int .i64 0) := cell_of hb 4
  have y5 : W.cell? ⟨w.heap.size, 5, none⟩ = some (.slice none 0 0) := cell_of hb 5
  have y6 : W.cell? ⟨w.heap.size, 6, none⟩ = some (.bool false) := cell_of hb 6
  refine bodyPost_ret (by simp [results, Try.results44, go_sem, y0, y1, y2, y3, y4, y5, y6]; try rfl) rfl ?_
  exact unhide F
theorem NoneP.dn {w w' : World} {er : Int} {e : Ending} (h : NoneP w er e w') : DnP w (noneD er) e w' := ⟨none, 0, h.1, IL.nil _, New.nil _, h.2⟩
end Go.Proofs.Ytbgccnnomgeniaa
