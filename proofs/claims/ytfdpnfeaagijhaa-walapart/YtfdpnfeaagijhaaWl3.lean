/-
  wal's Append that isn't refused. Conditions: the name is at most maxLen bytes; the payload isn't within the wal's own block.
-/
import Derived.Test.YtfdpnfeaagijhaaWl2

namespace Go.Proofs.Ytfdpnfeaagijhaa
open Go.RowKit
set_option linter.unusedVariables false

section
variable {w : World} {wb db : Nat} {S : Nat → Prop} {d : Dk} {s : ByteArray} {n c : Int} {a : Option Addr} {cap : Nat} {p : List Nat}

def ApPost (w : World) (wb db : Nat) (S : Nat → Prop) (d : Dk) (s : ByteArray) (n c : Int) (p : List Nat) (e : Ending) (w' : World) : Prop :=
  e = .returned (.int .i64 0) ∧ ∃ S', Wto w w' wb db S S' (apD d s (fenc p)) s (n + ((8 + p.length : Nat) : Int)) (c + 1)
set_option maxRecDepth 100000 in
set_option maxHeartbeats 2000000 in
theorem wappend_ok (h : Wl w wb db S d s n c) (hs : s.size ≤ maxLen) (hE : findE d.dead d.fs s = 0) (hn : ((rdF d s).text.length : Int) = n) (hp : LAt w a p) (hnone : a = none → cap = 0) (hap : 0 < p.length → ∀ x, a = some x → x.block ≠ wb) (h4 : p.length ≤ 4096) (hc0 : 0 ≤ c) (hc1 : c ≤ 1099511627776) (hA : apE d s (fenc p).length = 0) :
    Calls Try.prog 8 #[.pointer (some ⟨wb, 0, none⟩), .slice a p.length cap] w fun e w' => ApPost w wb db S d s n c p e w' := by
  have hwb := h.ready.lt
  have htl := h.disk.text_le s
  have hn1 : 0 ≤ n := by omega
  have hn2 : n ≤ 4194304 := by omega
  clear htl
  have EN := hide (fencode_any (cap := cap) h.ready hp hnone hap h4)
  have HW := hide h
  have HE := hide hE
  have HN := hide hn
  obtain ⟨L, hL⟩ : ∃ L, L = (fenc p).length := ⟨_, rfl⟩
  have hL8 : L = 8 + p.length := by rw [hL, fenc_len]
  have HL8 := hide hL8
  have hLle : L ≤ 4104 := by omega
  have hw1 : IntKind.i64.wrap (n + (L : Int)) = n + (L : Int) := by simp [IntKind.wrap, IntKind.bits, IntKind.signed]; omega
  have hw2 : IntKind.i64.wrap (c + 1) = c + 1 := by simp [IntKind.wrap, IntKind.bits, IntKind.signed]; omega
  have HL := hide hL
  clear h hE hn hp hnone hap hL hL8
  go_enter Try.func8, Try.ntmps8
  go_wp2_with fail
  refine (unhide EN).mono ?_
  rintro e w1 ⟨v1, rfl, r1, n1, f1⟩
  have W1 : Hid (Wl w1 wb db S d s n c) := ⟨f1.ready, (unhide HW).disk.keep f1.touch (fun k hk e => (unhide HW).ne (e ▸ hk)), (unhide HW).ne⟩
  have T1 := hide f1.touch
  have hs1 : w.heap.size ≤ w1.heap.size := f1.touch.size
  obtain ⟨a1, c1, rfl, l1, hc1', _, hn1', ho1, _⟩ := r1.parts
  have DA : Hid (∀ wx, Touch (fun _ => False) w1 wx → Calls Try.prog 18 #[.pointer (some ⟨db, 0, none⟩), .string s, .slice a1 L c1] wx fun e w' => e = .returned (.int .i64 0) ∧ Went wx w' db S (apD d s (fenc p))) := fun wx t => by
    have := dappend_any (s := s) ((unhide W1).disk.keep t (fun _ _ h => h)) hs (l1.keep t (fun _ _ _ h => h)) hn1' hc1' (fun _ x hx hk => by have := n1 _ (ho1 x hx); have := (unhide HW).disk.lt _ hk; omega)
    rw [hA, ← unhide HL] at this
    exact this
  have MD := hide (mend_even (unhide W1) hs (unhide HE) (unhide HN))
  rw [← unhide HL]
  clear r1 n1 f1 l1 hc1' hn1' ho1 EN hA
  go_wp2_with fail
  refine (unhide MD).mono ?_
  rintro e w2 ⟨rfl, m, rfl⟩
  have W2 : Hid (Wl (w1.drewN m) wb db S d s n c) := ⟨(unhide W1).ready.keep (touch_no m) (fun h => h), (unhide W1).disk.keep (touch_no m) (fun _ _ h => h), (unhide W1).ne⟩
  have T2 : Hid (Touch (fun _ => False) w1 (w1.drewN m)) := touch_no m
  clear MD
  generalize w1.drewN m = w2 at *
  obtain ⟨x0, x1, x2, x3⟩ := (unhide W2).ready.outer
  simp only at x0 x1 x2 x3
  have hs2 : w1.heap.size ≤ w2.heap.size := (unhide T2).size
  go_wp2_with fail
  go_region_with (go_at_call 18; refine (unhide DA _ (unhide T2).drew).mono ?_; rintro e w3 ⟨rfl, g3⟩)
  all_goals
    obtain ⟨S3, d3, t3, m3⟩ := g3
    have T3 : Hid (Touch S w2 w3) := touch_more ((Touch.refl S w2).drew) t3 (fun k hk => .inl hk)
    have R3 := hide ((unhide W2).ready.keep (unhide T3) (unhide HW).ne)
    obtain ⟨_, _, q2, q3⟩ := (unhide R3).outer
    simp only at q2 q3
    have z2 := (unhide R3).frozen 261
    have z3 := (unhide R3).frozen 262
    have F : Hid (ApPost w wb db S d s n c p (.returned (.int .i64 0)) ((w3.setCell ⟨wb, 261, none⟩ (.int .i64 (n + (L : Int)))).setCell ⟨wb, 262, none⟩ (.int .i64 (c + 1)))) := by
      have ts := (touch_set w3 wb 261 (.int .i64 (n + (L : Int)))).trans (touch_set _ wb 262 (.int .i64 (c + 1)))
      have hne3 : ¬ S3 wb := fun hk => by
        rcases m3 _ hk with e | e
        · exact (unhide HW).ne e
        · have : w2.heap.size ≤ wb := e
          omega
      refine ⟨rfl, S3, ⟨?_, d3.keep ts (fun k hk e => hne3 (e ▸ hk)), hne3⟩, fun k hk => (m3 k hk).imp id (fun e => Nat.le_trans (show w.heap.size ≤ w2.heap.size by omega) e), ?_⟩
      · rw [← unhide HL8]
        exact ((unhide R3).setSize _).setCount _
      · exact (touch_more (touch_more (touch_more ((unhide T1).mono (fun k hk => .inr hk)) (unhide T2) (fun _ h => h.elim)) (unhide T3) (fun k hk => .inl (.inl hk))) ts (fun k hk => .inl (.inr hk)))
    clear d3 t3 m3 T3 R3 W2 W1 DA
    go_wp2
    go_returns
    exact unhide F
end
end Go.Proofs.Ytfdpnfeaagijhaa
