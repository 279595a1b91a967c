/-
  CrcPieces returns true, whatever its arguments, and writes nothing that was there: by the table's and the helpers' contracts. Conditions: the bytes are at most 2^47 - 4096 (the row's own reach).
-/
import Derived.Test.YtbojiafnapcgnabCrcStep
import Derived.Deep.RegionHeld3
namespace Go.Proofs.Ytbojiafnapcgnab
open Go.RowKit

set_option maxRecDepth 100000 in
set_option maxHeartbeats 4000000 in
theorem crcPieces_walk (a : Option Addr) (len cap : Nat) (n s : Nat) (g : Nat → Nat) (w : World) (hs : s < 4294967296) (hn : n < 65536) (hg : BytesAt w a len g) (hlen : len ≤ 140737488351232) (hcap : len ≤ cap) :
    Calls Try.prog 5 #[.slice a len cap, .int .u16 n, .int .u32 s] w fun e w' => e = .returned (.bool true) ∧ Below w.heap.size w w' := by
  obtain ⟨k, hk, hkl⟩ : ∃ k : Nat, (n : Int) % ((len : Int) + 1) = (k : Int) ∧ k ≤ len := ⟨n % (len + 1), by simp, by have := Nat.mod_lt n (show 0 < len + 1 by omega); omega⟩
  have s1 := slice_h a len cap k (by omega)
  have s2 := slice_l a len cap k hkl
  have GC := hide (cut_bytes (k := k) hg hcap)
  have GH := hide (head_bytes hg hkl)
  have G := hide hg
  have E1 : Hid (mor (fun i => g (k + i)) (mor g 0 k) (len - k) = mor g 0 len) := by
    have := mor_append g g 0 k (len - k) g (fun i => g (k + i)) (fun _ _ => rfl) (fun _ _ => rfl) (fun _ _ => rfl)
    rw [show k + (len - k) = len by omega] at this; exact this
  have E2 : Hid (mor (fun i => g (k + i)) (mor g s k) (len - k) = mor g s len) := by
    have := mor_append g g s k (len - k) g (fun i => g (k + i)) (fun _ _ => rfl) (fun _ _ => rfl) (fun _ _ => rfl)
    rw [show k + (len - k) = len by omega] at this; exact this
  clear hg
  generalize cut a k cap = ac at *
  have hz1 : len - k ≤ 140737488351232 := by omega
  generalize len - k = lk at *
  generalize cap - k = ck at *
  generalize (fun i => g (k + i)) = gc at *
  go_enter Try.func5, Try.ntmps5
  go_wp2_with fail
  refine (tnew_any w).mono ?_
  rintro e w1 ⟨rfl, h1, b1⟩
  have C1 := hide (Cx.drew ⟨h1, b1⟩)
  clear h1 b1
  go_wp2_with fail
  go_region_held3 (fun w' => True) (trivial) (first
    | (go_at_call 25; refine (more_arg w _ s a len cap g (unhide CI) hs (unhide G) (by omega)).mono ?_; rintro e x10 ⟨rfl, c, _⟩; have CJ := hide c; clear c)
    | (go_at_call 25; refine (more_arg w _ (mor g s k) ac lk ck gc (unhide CH) (mor_lt _ _ _) (unhide GC) (by omega)).mono ?_; rw [unhide E2]; rintro e x9 ⟨rfl, c, _⟩; have CI := hide c; clear c)
    | (go_at_call 25; refine (more_arg w _ s a k cap g (unhide CG) hs (unhide GH) (by omega)).mono ?_; rintro e x8 ⟨rfl, c, _⟩; have CH := hide c; clear c)
    | (go_at_call 24; refine (sum_step w _ x5.heap.size len (len + 9) g (unhide CF) (unhide OF) (unhide LF) (by omega)).mono ?_; rintro e x7 ⟨rfl, c, _⟩; have CG := hide c; clear c)
    | (go_at_call 22; refine (own_step w _ a len cap g (unhide CE) (unhide G) hlen).mono ?_; rintro e x6 ⟨rfl, c, o, _⟩; have CF := hide c; have OF := hide o; have LF := hide ((unhide CE).lt); clear c o)
    | (go_at_call 25; refine (more_step w _ (mor g 0 k) x3.heap.size lk (lk + 9) gc (unhide CD) (mor_lt _ _ _) (unhide OD) (unhide LD) (by omega)).mono ?_; rw [unhide E1]; rintro e x5 ⟨rfl, c, _⟩; have CE := hide c; clear c)
    | (go_at_call 22; refine (own_step w _ ac lk ck gc (unhide CC) (unhide GC) hz1).mono ?_; rintro e x4 ⟨rfl, c, o, _⟩; have CD := hide c; have OD := hide o; have LD := hide ((unhide CC).lt); clear c o)
    | (go_at_call 24; refine (sum_step w _ x1.heap.size k (k + 9) g (unhide CB) (unhide OB) (unhide LB) (by omega)).mono ?_; rintro e x3 ⟨rfl, c, _⟩; have CC := hide c; clear c)
    | (go_at_call 22; refine (own_step w _ a k cap g (unhide CA) (unhide GH) (by omega)).mono ?_; rintro e x2 ⟨rfl, c, o, _⟩; have CB := hide c; have OB := hide o; have LB := hide ((unhide CA).lt); clear c o)
    | (go_at_call 21; refine (awake_step w _ (unhide C1)).mono ?_; rintro e x1 ⟨rfl, c, _⟩; have CA := hide c; clear c))
  all_goals
    go_wp2
    go_ret
    exact ⟨by simp, (unhide CJ).below⟩
end Go.Proofs.Ytbojiafnapcgnab
