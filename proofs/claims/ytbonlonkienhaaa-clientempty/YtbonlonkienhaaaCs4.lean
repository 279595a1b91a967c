/-
  A client as it lies, and client.New of any number and settings. Conditions: lengths as memory allows them.
-/
import Derived.Test.YtbonlonkienhaaaCs3
namespace Go.Proofs.Ytbonlonkienhaaa
open Go.RowKit
set_option linter.unusedVariables false

/-- A client that asks nothing. -/
structure Cl where
  n : Int
  nd : Int
  pt : Int
  g : Int
  oa : Option Addr
  oc : Nat
  os : List Po
  pl : Int
  ic : Int
  ta : Option Addr
  tc : Nat
  tr : List Sn
  en : Bool
def mind0 : List Value := [.int .i64 0, .int .i64 0, .int .i64 0, .int .i64 0, .int .i64 0, .int .i64 0, .int .i64 0, .int .i64 0, .int .i64 0, .int .i64 0, .int .i64 0, .int .i64 0, .int .i64 0, .bool false, .slice none 0 0, .slice none 0 0, .int .i64 0, .int .i64 0, .int .i64 0, .int .i64 0, .int .i64 0, .int .i64 0, .int .i64 0, .int .i64 0, .int .i64 0, .bool false, .int .i64 0, .int .i64 0, .int .i64 0, .int .i64 0, .slice none 0 0, .int .i64 0, .int .i64 0, .int .i64 0, .int .i64 0, .int .i64 0, .slice none 0 0, .int .i64 0, .int .i64 0, .int .u64 0, .int .i64 0, .int .i64 0, .bool false, .bool false, .bool false, .slice none 0 0, .int .i64 0, .int .i64 0, .int .i64 0, .int .i64 0] ++ [.int .u64 0, .int .i64 0, .bool false, .int .i64 0, .int .i64 0, .int .i64 0, .slice none 0 0, .slice none 0 0, .slice none 0 0, .int .i64 0, .nilFunc, .int .i64 0, .int .i64 0, .int .i64 0, .int .i64 0, .int .i64 0, .int .i64 0, .int .i64 0, .bool false, .int .u64 0, .int .i64 0, .bool false, .bool false, .bool false, .bool false, .bool false, .bool false, .int .i64 0, .int .i64 0, .int .i64 0, .int .i64 0, .bool false, .int .i64 0, .slice none 0 0, .bool false, .int .i64 0, .int .i64 0, .bool false, .int .i64 0, .int .i64 0, .bool false, .int .i64 0, .int .i64 0, .bool false, .int .i64 0, .int .i64 0, .slice none 0 0, .bool false, .bool false, .bool false]
def clL (c : Cl) : List Value := [.int .i64 c.n, .int .i64 c.nd, .int .i64 c.pt, .int .i64 c.g, .slice c.oa c.os.length c.oc, .int .i64 c.pl, .int .i64 c.ic, .bool false, .int .u64 0, .int .i64 0, .int .i64 0, .slice c.ta c.tr.length c.tc, .bool c.en] ++ mind0
theorem clL_len (c : Cl) : (clL c).length = 113 := by kernel_rfl
theorem clL_one (c : Cl) : (clL c).toArray.all (·.oneCell') = true := by simp [clL, mind0, Value.oneCell']
theorem info_cl : (Try.prog.info? 91).map (·.size) = some 113 := by kernel_rfl
/-- It lies at b. -/
structure ClAt (w : World) (b : Nat) (c : Cl) : Prop where
  cl : w.heap[b]? = some (.cells (clL c).toArray 91)
  ops : Wide w 36 5 (.slice c.oa c.os.length c.oc) c.os.length (c.os.flatMap cellsPo)
  tr : Wide w 43 7 (.slice c.ta c.tr.length c.tc) c.tr.length (c.tr.flatMap cellsSn)
theorem ClAt.keep {w w' : World} {b : Nat} {c : Cl} (h : ClAt w b c) (t : Touch (fun _ => False) w w') : ClAt w' b c := ⟨t.keep h.cl (fun h => h), h.ops.keep t (fun _ _ h => h), h.tr.keep t (fun _ _ h => h)⟩
def newC (c : Cf) (n : Nat) (p : Pg) (a : Option Addr) (k : Nat) : Cl := ⟨n, c.nd, c.pt, p.g, a, k, p.os, 0, 0, none, 0, [], false⟩
theorem new_cells {c : Cf} {n : Nat} {p : Pg} {a : Option Addr} {k : Nat} : (((((Try.zeroCells91.setIfInBounds 0 (Value.int IntKind.i64 (n : Int))).setIfInBounds 1 (Value.int IntKind.i64 c.nd)).setIfInBounds 2 (Value.int IntKind.i64 c.pt)).setIfInBounds 3 (Value.int IntKind.i64 p.g)).setIfInBounds 4 (Value.slice a p.os.length k)) = (clL (newC c n p a k)).toArray := by kernel_rfl
/-- What New leaves where all may be. -/
def NwP (w : World) (c : Cf) (n : Nat) (p : Pg) (e : Ending) (w' : World) : Prop := ∃ b a k, e = .returned (.tuple #[.pointer (some ⟨b, 0, none⟩), .int .i64 0]) ∧ w.heap.size ≤ b ∧ ClAt w' b (newC c n p a k) ∧ (∀ x, a = some x → w.heap.size ≤ x.block ∧ x.block ≠ b) ∧ Touch (fun _ => False) w w'
set_option maxRecDepth 100000 in
set_option maxHeartbeats 8000000 in
theorem new_ok {w : World} {c : Cf} {n : Nat} {p : Pg} (h : CfIn w c) (hs : stB c = true) (hn : n < c.ps.length) (hp : c.ps[n] = p) (hl : p.os.length ≤ 64) (hz : p.a = none → p.c = 0) :
    Calls Try.prog 7 #[.int .i64 (n : Int), .agg (cellsCf c).toArray] w fun e w' => NwP w c n p e w' := by
  have bt := (Touch.refl (fun _ => False) w).alloc (.cells (cellsCf c).toArray 24)
  have hy := heap_new w (.cells (cellsCf c).toArray 24)
  have HY := hide hy
  have HT := hide bt
  have HC := hide (h.keep bt)
  have K := hide (scheck_any (h.keep bt))
  rw [if_pos hs] at K
  have HN := hide hn
  have HP := hide hp
  have HPI := hide (h.p p (by rw [← hp]; exact List.getElem_mem hn))
  have hnz : ¬ (n : Int) < 0 := by omega
  have hnl : ¬ (c.ps.length : Int) ≤ (n : Int) := by omega
  clear bt hy h hs hp
  unfold cellsCf at *
  go_enter Try.func7, Try.ntmps7
  go_upto_region 1 with fail
  change Code.wp _ _ _ _ (w.alloc (.cells [Value.int .i64 c.nd, .int .i64 c.pt, .int .i64 c.cp, .slice c.a c.ps.length c.c].toArray 24))
  generalize w.alloc (.cells [Value.int .i64 c.nd, .int .i64 c.pt, .int .i64 c.cp, .slice c.a c.ps.length c.c].toArray 24) = W1 at *
  have y0 : W1.cell? ⟨w.heap.size, 0, none⟩ = some (.int .i64 c.nd) := cell_of (unhide HY) 0
  have y1 : W1.cell? ⟨w.heap.size, 1, none⟩ = some (.int .i64 c.pt) := cell_of (unhide HY) 1
  have y2 : W1.cell? ⟨w.heap.size, 2, none⟩ = some (.int .i64 c.cp) := cell_of (unhide HY) 2
  have y3 : W1.cell? ⟨w.heap.size, 3, none⟩ = some (.slice c.a c.ps.length c.c) := cell_of (unhide HY) 3
  go_wp2_with fail
  refine (unhide K).mono ?_
  rintro e w2 ⟨rfl, t2⟩
  have HY2 := hide (t2.keep (unhide HY) (fun h => h))
  have HT2 := hide ((unhide HT).trans t2)
  have HC2 := hide ((unhide HC).keep t2)
  clear t2 HY HT HC K y0 y1 y2 y3
  have y0 : w2.cell? ⟨w.heap.size, 0, none⟩ = some (.int .i64 c.nd) := cell_of (unhide HY2) 0
  have y1 : w2.cell? ⟨w.heap.size, 1, none⟩ = some (.int .i64 c.pt) := cell_of (unhide HY2) 1
  have y3 : w2.cell? ⟨w.heap.size, 3, none⟩ = some (.slice c.a c.ps.length c.c) := cell_of (unhide HY2) 3
  obtain ⟨gb, off, ea, hgb, hcell⟩ := (unhide HC2).r.at_ (unhide HN) (unhide HP)
  have z0 := hcell 0 (by omega)
  have z1 := hcell 1 (by omega)
  rw [Nat.add_zero] at z0
  simp only [cellsPg, List.getElem?_cons_zero, List.getElem?_cons_succ] at z0 z1
  rw [ea] at y3
  clear hcell hgb ea
  have hbz : c.ps.length ≤ 9223372036854775807 := by have := (unhide HC2).l; unfold maxLen at this; omega
  have hlt : (n : Int) < (c.ps.length : Int) := by omega
  go_upto_region 7 with fail
  have HB7 := hide (heap_new w2 (.cells #[.int .i64 p.g, .slice p.a p.os.length p.c] 69))
  have HY7 := hide (heap_old (.cells #[.int .i64 p.g, .slice p.a p.os.length p.c] 69) (unhide HY2))
  have HT7 := hide ((unhide HT2).alloc (.cells #[.int .i64 p.g, .slice p.a p.os.length p.c] 69))
  clear y0 y1 y3 z0 z1 HC2 hbz hlt HY2 HT2 hnz hnl
  change Code.wp _ _ _ _ (w2.alloc (.cells #[.int .i64 p.g, .slice p.a p.os.length p.c] 69))
  generalize w2.alloc (.cells #[.int .i64 p.g, .slice p.a p.os.length p.c] 69) = w3 at *
  generalize w2.heap.size = b7 at *
  have SK : Hid (∀ W, Below w3.heap.size w3 W → W.cell? ⟨w.heap.size, 0, none⟩ = some (.int .i64 c.nd) ∧ W.cell? ⟨w.heap.size, 1, none⟩ = some (.int .i64 c.pt) ∧ W.cell? ⟨b7, 0, none⟩ = some (.int .i64 p.g) ∧ W.cell? ⟨b7, 1, none⟩ = some (.slice p.a p.os.length p.c)) := hide (fun W h => ⟨cell_of (below_keep h (unhide HY7)) 0, cell_of (below_keep h (unhide HY7)) 1, cell_of (below_keep h (unhide HB7)) 0, cell_of (below_keep h (unhide HB7)) 1⟩)
  have KO : Hid (∀ W, Below w3.heap.size w3 W → Calls Try.prog 17 #[.slice p.a p.os.length p.c] W fun e w' => ClR cellsPo 5 36 W p.os e w') := hide (fun W h => ops_clone ((unhide HPI).1.keep ((unhide HT7).trans (Touch.of_below h))) hz (by omega))
  have HS3 : w.heap.size ≤ w3.heap.size := (unhide HT7).size
  clear HB7 HY7 hl hz
  go_region_held3 (fun w' => w'.cell? ⟨w.heap.size, 0, none⟩ = some (.int .i64 c.nd) ∧ w'.cell? ⟨w.heap.size, 1, none⟩ = some (.int .i64 c.pt) ∧ w'.cell? ⟨b7, 0, none⟩ = some (.int .i64 p.g) ∧ w'.cell? ⟨b7, 1, none⟩ = some (.slice p.a p.os.length p.c)) (first | exact unhide SK _ (unhide B5) | exact unhide SK _ ((unhide B5).alloc (unhide B5).size _) | exact unhide SK _ (by go_grown)) (first | (go_at_call 17; refine (unhide KO _ (by go_grown)).mono ?_; rintro e w5 ⟨a5, c5, rfl, r5, n5, bl5⟩; have B5 : Hid (Below w3.heap.size w3 w5) := hide (by first | exact bl5 | exact (Below.drew (Below.refl _ _)).trans (bl5.mono (Nat.le_refl _)) | go_grown); have R5 := hide r5; have N5 := hide n5; have BL5 := hide bl5; clear r5 n5 bl5))
  all_goals
    have FF : Hid (NwP w c n p (.returned (.tuple #[.pointer (some ⟨w5.heap.size, 0, none⟩), .int .i64 0])) (w5.alloc (.cells (clL (newC c n p a5 c5)).toArray 91))) := hide ⟨w5.heap.size, a5, c5, rfl, Nat.le_trans HS3 (unhide B5).size, ⟨heap_new _ _, (unhide R5).later ((Below.refl _ _).alloc (Nat.le_refl _) _), Wide.nil _ _ _⟩, fun x hx => by
      have e : (Value.slice a5 p.os.length c5).ownBlock = some x.block := by rw [hx]; rfl
      have h1 := (unhide N5) _ e
      have h2 := (unhide R5).lt _ e
      have h3 : w3.heap.size ≤ x.block := h1
      exact ⟨Nat.le_trans HS3 h3, by omega⟩, ((unhide HT7).trans (Touch.of_below (unhide B5))).alloc _⟩
    clear B5 R5 N5 BL5 SK KO HT7 HPI HP HN
    rw [new_cells]
    go_wp2
    go_returns
    exact unhide FF
end Go.Proofs.Ytbonlonkienhaaa
