/-
  What txn's State knows, as it lies; at. Conditions: names are ints.
-/
import Derived.Test.YtbgccnnomgeniaaIl1
import Derived.Test.YtbgccnnomgeniaaMk0
namespace Go.Proofs.Ytbgccnnomgeniaa
open Go.RowKit Go.Maps
set_option linter.unusedVariables false

/-- What is known of a name, as it lies. -/
structure Td where
  st : Int
  inc : Int
  pid : Int
  ep : Int
  g : Option Nat
  n : Nat
  c : Nat
  la : Int
  lp : Int
  co : Bool
abbrev tdS (p : Td) : Value := .slice (p.g.map (fun g => ⟨g, 0, none⟩)) p.n p.c
abbrev tdC (p : Td) : Array Value := #[.int .i64 p.st, .int .i64 p.inc, .int .u64 p.pid, .int .i64 p.ep, tdS p, .int .i64 p.la, .int .u64 p.lp, .bool p.co]
abbrev tdV (p : Td) : Value := .agg (tdC p)
def td0 : Td := ⟨0, 0, 0, 0, none, 0, 0, 0, 0, false⟩
def tdD (p : Td) : DataW Unit := .agg [.lit (.int .i64 p.st), .lit (.int .i64 p.inc), .lit (.int .u64 p.pid), .lit (.int .i64 p.ep), (match p.g with | none => .nil | some g => .lit (.int .u64 (g : Nat))), .lit (.int .u64 (p.n : Nat)), .lit (.int .u64 (p.c : Nat)), .lit (.int .i64 p.la), .lit (.int .u64 p.lp), .lit (.bool p.co)]
theorem tdD_inj (p q : Td) (h : tdD p = tdD q) : p = q := by
  obtain ⟨a1, a2, a3, a4, a5, a6, a7, a8, a9, a10⟩ := p
  obtain ⟨b1, b2, b3, b4, b5, b6, b7, b8, b9, b10⟩ := q
  simp only [tdD, DataW.agg.injEq, List.cons.injEq, DataW.lit.injEq, Lit.int.injEq, Lit.bool.injEq, true_and, and_true] at h
  obtain ⟨h1, h2, h3, h4, h5, h6, h7, h8, h9, h10⟩ := h
  have e5 : a5 = b5 := by
    cases a5 <;> cases b5 <;> simp at h5 <;> first | rfl | (congr 1; omega)
  have e6 : a6 = b6 := by omega
  have e7 : a7 = b7 := by omega
  rw [h1, h2, h3, h4, e5, e6, e7, h8, h9, h10]
def tdE (v : Value) : Option (DataW Unit × List MemPlace) := match v with
  | .agg cs => match cs.toList with
    | [.int .i64 a1, .int .i64 a2, .int .u64 a3, .int .i64 a4, .slice none l c, .int .i64 a5, .int .u64 a6, .bool o] => some (tdD ⟨a1, a2, a3, a4, none, l, c, a5, a6, o⟩, [])
    | [.int .i64 a1, .int .i64 a2, .int .u64 a3, .int .i64 a4, .slice (some ⟨g, 0, none⟩) l c, .int .i64 a5, .int .u64 a6, .bool o] => some (tdD ⟨a1, a2, a3, a4, some g, l, c, a5, a6, o⟩, [])
    | _ => none
  | _ => none
theorem tdE_mk (p : Td) : tdE (tdV p) = some (tdD p, []) := by
  obtain ⟨a1, a2, a3, a4, a5, a6, a7, a8, a9, a10⟩ := p
  cases a5 <;> rfl
theorem tdE_inv (v : Value) (z : DataW Unit × List MemPlace) (h : tdE v = some z) : ∃ p, v = tdV p ∧ z = (tdD p, []) := by
  unfold tdE at h
  split at h
  · rename_i cs
    split at h
    · rename_i a1 a2 a3 a4 l c a5 a6 o hl
      cases h
      refine ⟨⟨a1, a2, a3, a4, none, l, c, a5, a6, o⟩, ?_, rfl⟩
      have : cs = #[.int .i64 a1, .int .i64 a2, .int .u64 a3, .int .i64 a4, .slice none l c, .int .i64 a5, .int .u64 a6, .bool o] := Array.ext' hl
      rw [this]; rfl
    · rename_i a1 a2 a3 a4 g l c a5 a6 o hl
      cases h
      refine ⟨⟨a1, a2, a3, a4, some g, l, c, a5, a6, o⟩, ?_, rfl⟩
      have : cs = #[.int .i64 a1, .int .i64 a2, .int .u64 a3, .int .i64 a4, .slice (some ⟨g, 0, none⟩) l c, .int .i64 a5, .int .u64 a6, .bool o] := Array.ext' hl
      rw [this]; rfl
    · cases h
  · cases h
theorem zero_td (w : World) : (zeroValue 76).run Try.prog w = .ok (tdV td0) w := by kernel_rfl
def tK : MK Td := ⟨3, 72, 76, .i64, tdV, tdD, tdE, td0, tdE_mk, tdE_inv, tdD_inj, Try.underlying3, Try.underlying72, zero_td⟩
/-- An int. -/
def I64 (x : Int) : Prop := -9223372036854775808 ≤ x ∧ x ≤ 9223372036854775807
theorem i64_wf {k : Int} (h : I64 k) : (Lit.int .i64 k).wf = true := by
  simp [Lit.wf, IntKind.min, IntKind.max, IntKind.signed, IntKind.bits]; exact ⟨h.1, by have := h.2; omega⟩
/-- What is known of a name. -/
structure Tx where
  st : Int
  inc : Int
  pid : Int
  ep : Int
  ps : List Int
  la : Int
  lp : Int
  co : Bool
def tx0 : Tx := ⟨0, 0, 0, 0, [], -1, 0, false⟩
structure TFit (w : World) (q : Td) (x : Tx) : Prop where
  st : q.st = x.st
  inc : q.inc = x.inc
  pid : q.pid = x.pid
  ep : q.ep = x.ep
  la : q.la = x.la
  lp : q.lp = x.lp
  co : q.co = x.co
  row : IL w (tdS q) x.ps
theorem TFit.keep {w w' : World} {q : Td} {x : Tx} {S : Nat → Prop} (h : TFit w q x) (t : Touch S w w') (hs : ∀ k, (tdS q).ownBlock = some k → ¬ S k) : TFit w' q x :=
  ⟨h.st, h.inc, h.pid, h.ep, h.la, h.lp, h.co, h.row.keep t hs⟩
theorem TFit.later {w w' : World} {q : Td} {x : Tx} (h : TFit w q x) (hb : Below w.heap.size w w') : TFit w' q x := h.keep (Touch.of_below (S := fun _ => False) hb) (fun _ _ h => h)
/-- The state at sb: R holds its blocks, K what it knows. -/
structure TS (w : World) (sb : Nat) (mv : Value) (m : List (Int × Td)) (K : Int → Option Tx) (R : Nat → Prop) : Prop where
  obj : w.heap[sb]? = some (.cells #[mv] 74)
  map : (mv = .map none ∧ m = []) ∨ ∃ mb, mv = .map (some mb) ∧ MM tK w mb m ∧ R mb
  non : ∀ s, matx m s = none → K s = none
  hav : ∀ s q, (s, q) ∈ m → I64 s ∧ ∃ x, K s = some x ∧ TFit w q x
  own : ∀ s q, (s, q) ∈ m → ∀ k, (tdS q).ownBlock = some k → R k
  sbr : R sb
  inR : ∀ k, R k → k < w.heap.size
section
variable {w w' : World} {sb : Nat} {mv : Value} {m : List (Int × Td)} {K : Int → Option Tx} {R S : Nat → Prop}
theorem TS.keep (h : TS w sb mv m K R) (t : Touch S w w') (hs : ∀ k, R k → ¬ S k) : TS w' sb mv m K R := by
  refine ⟨t.keep h.obj (hs _ h.sbr), ?_, h.non, ?_, h.own, h.sbr, fun k hk => Nat.lt_of_lt_of_le (h.inR k hk) t.size⟩
  · rcases h.map with e | ⟨mb, e1, e2, e3⟩
    · exact .inl e
    · exact .inr ⟨mb, e1, e2.keep t (hs _ e3), e3⟩
  · intro s q hq
    obtain ⟨i, x, e1, e2⟩ := h.hav s q hq
    exact ⟨i, x, e1, e2.keep t (fun k hk => hs _ (h.own s q hq k hk))⟩
theorem TS.later (h : TS w sb mv m K R) (hb : Below w.heap.size w w') : TS w' sb mv m K R := h.keep (Touch.of_below (S := fun _ => False) hb) (fun _ _ h => h)
theorem TS.isMap (h : TS w sb mv m K R) : ∃ mo, mv = .map mo := by
  rcases h.map with ⟨e, _⟩ | ⟨mb, e, _⟩
  · exact ⟨_, e⟩
  · exact ⟨_, e⟩
def getT (K : Int → Option Tx) (n : Int) : Tx := (K n).getD tx0
def tdn : Td := ⟨0, 0, 0, 0, none, 0, 0, -1, 0, false⟩
theorem tdn_fit (w : World) : TFit w tdn tx0 := ⟨rfl, rfl, rfl, rfl, rfl, rfl, rfl, IL.nil _⟩
/-- The look-up. -/
theorem TS.look (h : TS w sb mv m K R) {n : Int} (hn : I64 n) : ∃ q kn, (Instr.lookup 72 mv (.int .i64 n) true).run Try.prog w = .ok (.tuple #[tdV q, .bool kn]) w ∧ (kn = true → TFit w q (getT K n) ∧ ∀ k, (tdS q).ownBlock = some k → R k) ∧ (kn = false → getT K n = tx0) := by
  rcases h.map with ⟨rfl, rfl⟩ | ⟨mb, rfl, h2, _⟩
  · refine ⟨td0, false, mlook_nil tK (i64_wf hn) w, (fun e => by cases e), fun _ => ?_⟩
    unfold getT; rw [h.non n rfl]; rfl
  · refine ⟨mgot tK (matx m n), (matx m n).isSome, h2.look (i64_wf hn), fun e => ?_, fun e => ?_⟩
    · cases hm : matx m n with
      | none => rw [hm] at e; cases e
      | some g =>
        have hin := mat_some hm
        obtain ⟨_, x, e1, e2⟩ := h.hav n g hin
        unfold getT; rw [e1]
        exact ⟨e2, h.own n g hin⟩
    · cases hm : matx m n with
      | none => unfold getT; rw [h.non n hm]; rfl
      | some g => rw [hm] at e; cases e
end
def AtPost (w : World) (K : Int → Option Tx) (n : Int) (R : Nat → Prop) (e : Ending) (w' : World) : Prop := ∃ q, e = .returned (tdV q) ∧ TFit w' q (getT K n) ∧ (∀ k, (tdS q).ownBlock = some k → R k) ∧ Below w.heap.size w w'
set_option maxRecDepth 100000 in
set_option maxHeartbeats 1000000 in
theorem at_any {w : World} {sb : Nat} {mv : Value} {m : List (Int × Td)} {K : Int → Option Tx} {R : Nat → Prop} {n : Int} (h : TS w sb mv m K R) (hn : I64 n) :
    Calls Try.prog 46 #[.pointer (some ⟨sb, 0, none⟩), .int .i64 n] w fun e w' => AtPost w K n R e w' := by
  have c0 : w.cell? ⟨sb, 0, none⟩ = some mv := cell_of h.obj 0
  have hsb : sb < w.heap.size := lt_of_heap h.obj
  have b0 : Below w.heap.size w (w.alloc (.cells #[.int .i64 0, .int .i64 0, .int .u64 0, .int .i64 0, .slice none 0 0, .int .i64 0, .int .u64 0, .bool false] 76)) := (Below.refl _ _).alloc (Nat.le_refl _) _
  obtain ⟨q, kn, hl, h1, h2⟩ := (h.later b0).look hn
  obtain ⟨mo, rfl⟩ := h.isMap
  have HK1 := hide h1
  have HK2 := hide h2
  clear h h1 h2 b0
  cases kn with
  | true =>
    obtain ⟨f1, f2⟩ := unhide HK1 rfl
    have f3 : TFit ((w.alloc (.cells (tdC q) 76)).alloc (.cells (tdC q) 76)) q (getT K n) := by
      have t : Touch (· = w.heap.size) (w.alloc (.cells #[.int .i64 0, .int .i64 0, .int .u64 0, .int .i64 0, .slice none 0 0, .int .i64 0, .int .u64 0, .bool false] 76)) ((w.alloc (.cells (tdC q) 76)).alloc (.cells (tdC q) 76)) := ⟨rfl, rfl, rfl, by simp, fun k hk hs => by
        have hk' : k < w.heap.size := by simp at hk; omega
        rw [Below.heap_alloc _ _ _ (by simp; omega), Below.heap_alloc _ _ _ hk', Below.heap_alloc _ _ _ hk']⟩
      refine f1.keep t (fun k hk e => ?_)
      obtain ⟨cs, hc⟩ := f1.row.heap hk
      rw [e, heap_new] at hc
      exact absurd (Obj.cells.inj (Option.some.inj hc)).2.1 (by decide)
    have F : Hid (AtPost w K n R (.returned (tdV q)) ((w.alloc (.cells (tdC q) 76)).alloc (.cells (tdC q) 76))) := ⟨q, rfl, f3, f2, ((Below.refl _ _).alloc (Nat.le_refl _) _).alloc (by simp) _⟩
    clear f1 f2 f3 HK1 HK2
    obtain ⟨st, inc, pid, ep, g, n', c, la, lp, co⟩ := q
    simp only [tdV, tdC, tdS] at hl F
    generalize hsa : g.map (fun g => (⟨g, 0, none⟩ : Addr)) = sa at *
    clear hsa
    go_enter Try.func46, Try.ntmps46
    go_wp2
    have hb : ((w.alloc (.cells #[.int .i64 st, .int .i64 inc, .int .u64 pid, .int .i64 ep, .slice sa n' c, .int .i64 la, .int .u64 lp, .bool co] 76)).alloc (.cells #[.int .i64 st, .int .i64 inc, .int .u64 pid, .int .i64 ep, .slice sa n' c, .int .i64 la, .int .u64 lp, .bool co] 76)).heap[w.heap.size]? = some (.cells #[.int .i64 st, .int .i64 inc, .int .u64 pid, .int .i64 ep, .slice sa n' c, .int .i64 la, .int .u64 lp, .bool co] 76) := heap_old _ (heap_new _ _)
    generalize (w.alloc (.cells #[.int .i64 st, .int .i64 inc, .int .u64 pid, .int .i64 ep, .slice sa n' c, .int .i64 la, .int .u64 lp, .bool co] 76)).alloc (.cells #[.int .i64 st, .int .i64 inc, .int .u64 pid, .int .i64 ep, .slice sa n' c, .int .i64 la, .int .u64 lp, .bool co] 76) = W at *
    have y0 : W.cell? ⟨w.heap.size, 0, none⟩ = some (.int .i64 st) := cell_of hb 0
    have y1 : W.cell? ⟨w.heap.size, 1, none⟩ = some (.int .i64 inc) := cell_of hb 1
    have y2 : W.cell? ⟨w.heap.size, 2, none⟩ = some (.int .u64 pid) := cell_of hb 2
    have y3 : W.cell? ⟨w.heap.size, 3, none⟩ = some (.int .i64 ep) := cell_of hb 3
    have y4 : W.cell? ⟨w.heap.size, 4, none⟩ = some (.slice sa n' c) := cell_of hb 4
    have y5 : W.cell? ⟨w.heap.size, 5, none⟩ = some (.int .i64 la) := cell_of hb 5
    have y6 : W.cell? ⟨w.heap.size, 6, none⟩ = some (.int .u64 lp) := cell_of hb 6
    have y7 : W.cell? ⟨w.heap.size, 7, none⟩ = some (.bool co) := cell_of hb 7
    refine bodyPost_ret (by simp [results, Try.results46, go_sem, y0, y1, y2, y3, y4, y5, y6, y7]; try rfl) rfl ?_
    exact unhide F
  | false =>
    have f0 := unhide HK2 rfl
    obtain ⟨st, inc, pid, ep, g, n', c, la, lp, co⟩ := q
    simp only [tdV, tdC, tdS] at hl
    generalize hsa : g.map (fun g => (⟨g, 0, none⟩ : Addr)) = sa at *
    clear hsa HK1 HK2
    have F : Hid (AtPost w K n R (.returned (.agg #[.int .i64 0, .int .i64 0, .int .u64 0, .int .i64 0, .slice none 0 0, .int .i64 (-1), .int .u64 0, .bool false])) ((w.alloc (.cells #[.int .i64 0, .int .i64 0, .int .u64 0, .int .i64 0, .slice none 0 0, .int .i64 (-1), .int .u64 0, .bool false] 76)).alloc (.cells #[.int .i64 st, .int .i64 inc, .int .u64 pid, .int .i64 ep, .slice sa n' c, .int .i64 la, .int .u64 lp, .bool co] 76))) := ⟨tdn, rfl, by rw [f0]; exact tdn_fit _, (fun k hk => by cases hk), ((Below.refl _ _).alloc (Nat.le_refl _) _).alloc (by simp) _⟩
    clear f0
    go_enter Try.func46, Try.ntmps46
    go_wp2
    have hb : ((w.alloc (.cells #[.int .i64 0, .int .i64 0, .int .u64 0, .int .i64 0, .slice none 0 0, .int .i64 (-1), .int .u64 0, .bool false] 76)).alloc (.cells #[.int .i64 st, .int .i64 inc, .int .u64 pid, .int .i64 ep, .slice sa n' c, .int .i64 la, .int .u64 lp, .bool co] 76)).heap[w.heap.size]? = some (.cells #[.int .i64 0, .int .i64 0, .int .u64 0, .int .i64 0, .slice none 0 0, .int .i64 (-1), .int .u64 0, .bool false] 76) := heap_old _ (heap_new _ _)
    generalize (w.alloc (.cells #[.int .i64 0, .int .i64 0, .int .u64 0, .int .i64 0, .slice none 0 0, .int .i64 (-1), .int .u64 0, .bool false] 76)).alloc (.cells #[.int .i64 st, .int .i64 inc, .int .u64 pid, .int .i64 ep, .slice sa n' c, .int .i64 la, .int .u64 lp, .bool co] 76) = W at *
    have y0 : W.cell? ⟨w.heap.size, 0, none⟩ = some (.int .i64 0) := cell_of hb 0
    have y1 : W.cell? ⟨w.heap.size, 1, none⟩ = some (.int .i64 0) := cell_of hb 1
    have y2 : W.cell? ⟨w.heap.size, 2, none⟩ = some (.int .u64 0) := cell_of hb 2
    have y3 : W.cell? ⟨w.heap.size, 3, none⟩ = some (.int .i64 0) := cell_of hb 3
    have y4 : W.cell? ⟨w.heap.size, 4, none⟩ = some (.slice none 0 0) := cell_of hb 4
    have y5 : W.cell? ⟨w.heap.size, 5, none⟩ = some (.int .i64 (-1)) := cell_of hb 5
    have y6 : W.cell? ⟨w.heap.size, 6, none⟩ = some (.int .u64 0) := cell_of hb 6
    have y7 : W.cell? ⟨w.heap.size, 7, none⟩ = some (.bool false) := cell_of hb 7
    refine bodyPost_ret (by simp [results, Try.results46, go_sem, y0, y1, y2, y3, y4, y5, y6, y7]; try rfl) rfl ?_
    exact unhide F
end Go.Proofs.Ytbgccnnomgeniaa
