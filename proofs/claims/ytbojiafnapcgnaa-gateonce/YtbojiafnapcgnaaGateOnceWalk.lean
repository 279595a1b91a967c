/-
  GateOnce returns true, whatever its list, and writes nothing that was there: by the Once's contracts. Conditions: none beyond the list's kind.
-/
import Derived.Test.YtbojiafnapcgnaaOnceDo
import Derived.Test.YtbojiafnapcgnaaCtr
import Derived.OpenShut
namespace Go.Proofs.Ytbojiafnapcgnaa
open Go.RowKit

/-- A Once that was told nothing, or a value first. -/
def onceOf (o : Option Int) : Obj := match o with | none => onceObj 0 0 0 0 | some x => onceObj 1 0 x 1

theorem do_any (b : Nat) (o : Option Int) (v : Int) (w : World) (h : w.heap[b]? = some (onceOf o)) :
    Calls Try.prog 19 #[.pointer (some ⟨b, 0, none⟩), .int .u64 v] w fun e w' => e = .returned (.int .u64 (o.getD v)) ∧ w'.heap[b]? = some (onceOf (some (o.getD v))) ∧ Touch (· = b) w w' := by
  cases o with
  | none => exact do_first b 0 0 v w h
  | some x => exact do_again b x 1 v w h

set_option maxRecDepth 100000 in
set_option maxHeartbeats 1600000 in
theorem gateOnce_walk (a : Option Addr) (len cap : Nat) (g : Nat → Int) (w : World) (hg : RowOf .u64 w a len g) (hlen : len ≤ 9223372036854775807) :
    Calls Try.prog 6 #[.slice a len cap] w fun e w' => e = .returned (.bool true) ∧ Below w.heap.size w w' := by
  have G := hide hg
  clear hg
  have q0 : (w.alloc (onceObj 0 0 0 0)).heap[w.heap.size]? = some (onceObj 0 0 0 0) := heap_new _ _
  have b0 : Below w.heap.size w (w.alloc (onceObj 0 0 0 0)) := (Below.refl _ _).alloc (Nat.le_refl _) _
  unfold onceObj at q0 b0
  have Q0 := hide q0
  have B0 := hide b0
  clear q0 b0
  go_enter Try.func6, Try.ntmps6
  go_wp2_with fail
  refine (value_no w.heap.size 0 0 0 _ (unhide Q0)).mono ?_
  rintro e w1 ⟨rfl, rfl⟩
  go_wp2_with fail
  refine (awake_any _).mono ?_
  rintro e w2 ⟨rfl, b2⟩
  have Q2 := hide (below_keep b2 (unhide Q0))
  have B2 := hide ((unhide B0).trans (b2.mono (unhide B0).size))
  clear b2 Q0 B0
  go_wp2_with fail
  go_loopw [26] (fun i wr => ∃ (k : Nat), k ≤ len ∧ i = .int .i64 k ∧ wr.heap[w.heap.size]? = some (onceOf (if k = 0 then none else some (g 0))) ∧ Below w.heap.size w wr) (fun i _ => len - (intOf i).toNat)
  case atStart => exact ⟨0, Nat.zero_le _, rfl, unhide Q2, unhide B2⟩
  case round =>
    obtain ⟨k, hk, rfl, hc, hb⟩ := hrel
    have HC := hide hc
    have HB := hide hb
    clear hc hb Q2 B2
    by_cases hlt : k < len
    · obtain ⟨b, off, ea, hbz, hc0, _⟩ := (unhide G).later hlt (unhide HB)
      obtain ⟨b', off', ea', _, hd0, _⟩ := (unhide G).later (i := 0) (by omega) (unhide HB)
      subst ea
      simp at ea'
      obtain ⟨rfl, rfl⟩ := ea'
      have hlen0 : 0 < len := by omega
      have hbs : b < wr.heap.size := by have := (unhide HB).size; omega
      have eo : (if k = 0 then none else some (g 0)).getD (g k) = g 0 := by
        split
        · rename_i h; subst h; rfl
        · rfl
      have EO := hide eo
      clear eo
      generalize (if k = 0 then none else some (g 0)) = o at *
      generalize hgk : g k = gk at *
      generalize g 0 = g0 at *
      have HGK := hide hgk
      clear hgk
      have hd0' : wr.cell? ⟨b, off, none⟩ = some (.int .u64 g0) := by simpa using hd0
      clear hd0
      have hdo : Calls Try.prog 19 #[.pointer (some ⟨w.heap.size, 0, none⟩), .int .u64 gk] wr.drew fun e w' => e = .returned (.int .u64 g0) ∧ w'.cell? ⟨b, off, none⟩ = some (.int .u64 g0) ∧ w'.heap[w.heap.size]? = some (onceOf (some g0)) ∧ Touch (· = w.heap.size) wr.drew w' := by
        refine (do_any w.heap.size o gk wr.drew (unhide HC)).mono ?_
        rw [unhide EO]
        rintro e w' ⟨h1, h2, h3⟩
        refine ⟨h1, ?_, h2, h3⟩
        rw [World.cell?_of_block (w := wr) (a := ⟨b, off, none⟩) (h3.block b hbs (by omega))]
        exact hd0'
      have HDO := hide hdo
      clear hdo HC
      go_wp2_with fail
      go_region_with (go_at_call 19; refine (unhide HDO).mono ?_; rintro e w5 ⟨rfl, c5, h5⟩; have H5 := hide h5; clear h5)
      all_goals
        clear HDO
        have B5 := hide (below_touch (unhide HB).drew (unhide H5).2 (unhide HB).size (fun k hk => by omega))
        go_wp2_with fail
        refine (value_yes w.heap.size 1 0 g0 _ (unhide H5).1).mono ?_
        rintro e w6 ⟨rfl, rfl⟩
        go_wp2
        go_roundw
        case rel => exact ⟨k + 1, by omega, by go_num, by simpa using (unhide H5).1, unhide B5⟩
        case measure => simp [intOf]; omega
    · go_wp2
      go_ret
      exact ⟨rfl, unhide HB⟩
end Go.Proofs.Ytbojiafnapcgnaa
