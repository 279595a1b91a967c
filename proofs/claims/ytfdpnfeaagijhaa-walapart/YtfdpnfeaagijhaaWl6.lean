/-
  wal's hasRoom, of a disk that works and has a file. Conditions: the bytes asked for are at most 2^40.
-/
import Derived.Test.YtfdpnfeaagijhaaWl5
import Derived.Test.YtfdpnfeaagijhaaNm5

namespace Go.Proofs.Ytfdpnfeaagijhaa
open Go.RowKit
set_option linter.unusedVariables false

theorem ftOf_self {l : List Ft} (h : l.Pairwise (fun a b => a.nm ≠ b.nm)) {f : Ft} (hf : f ∈ l) : ftOf l f.nm = some f := by
  unfold ftOf
  induction l with
  | nil => cases hf
  | cons g l ih =>
    rw [List.pairwise_cons] at h
    rcases List.mem_cons.1 hf with rfl | hf
    · simp
    · have : ¬ g.nm = f.nm := h.1 f hf
      rw [List.find?_cons_of_neg (by simpa using this)]
      exact ih h.2 hf
theorem Disky.named {w : World} {db : Nat} {S : Nat → Prop} {d : Dk} (h : Disky w db S d) : d.fs.Pairwise (fun a b => a.nm ≠ b.nm) ∧ (∀ f ∈ d.fs, okName f.nm = true) ∧ usedF d.fs ≤ 4194304 ∧ d.fs.length ≤ 4096 := by
  obtain ⟨mv, fl, h1, h2, _⟩ := h.ex
  refine ⟨by rw [← h2]; exact apart_names h1.apart, fun f hf => ?_, by rw [← h2]; exact h1.used, by rw [← h2, List.length_map]; exact h1.few⟩
  rw [← h2] at hf
  obtain ⟨g, hg, rfl⟩ := List.mem_map.1 hf
  have := (h1.each g hg).name
  unfold okName
  simpa using this
theorem sum_sizes {w : World} {db : Nat} {S : Nat → Prop} {d : Dk} (h : Disky w db S d) (hd : d.dead = false) {nl : List ByteArray} (hp : nl.Perm (d.fs.map Ft.nm)) : (nl.map (fun s => (rdF d s).text.length)).sum = usedF d.fs := by
  obtain ⟨h1, h2, _⟩ := h.named
  rw [(hp.map (fun s => (rdF d s).text.length)).sum_nat, List.map_map]
  unfold usedF
  congr 1
  refine List.map_congr_left (fun f hf => ?_)
  have e := ftOf_self h1 hf
  show (rdF d f.nm).text.length = f.text.length
  rw [rdF_ok (find_ok.2 ⟨hd, h2 f hf, by rw [e]; rfl⟩) e]
theorem sum_take_le (l : List Nat) (k : Nat) : (l.take k).sum ≤ l.sum := by
  conv => rhs; rw [← List.take_append_drop k l, List.sum_append]
  omega
theorem sum_take_succ (l : List Nat) {k : Nat} (hk : k < l.length) : (l.take (k + 1)).sum = (l.take k).sum + l[k] := by
  rw [List.take_add_one, List.sum_append]
  simp [hk]

theorem below_of_touch6 {w w' : World} (t : Touch (fun _ => False) w w') : Below w.heap.size w w' := ⟨t.os, t.tape, t.output, t.size, fun k hk => t.block k hk (fun h => h)⟩
def roomFor (d : Dk) (n : Nat) : Bool := decide (n + usedF d.fs ≤ 4194304 ∧ d.fs.length < 4096)

set_option maxRecDepth 100000 in
set_option maxHeartbeats 2000000 in
theorem hasroom_any {w : World} {db : Nat} {S : Nat → Prop} {d : Dk} (h : Disky w db S d) (h0 : d.fs ≠ []) (hd : d.dead = false) (n : Nat) (hn : n ≤ 1099511627776) :
    Calls Try.prog 37 #[.pointer (some ⟨db, 0, none⟩), .int .i64 (n : Nat)] w fun e w' => e = .returned (.bool (roomFor d n)) ∧ Below w.heap.size w w' := by
  have HD := hide h
  have NM := hide (dnames_any h h0)
  have hus := h.named.2.2.1
  have hfe := h.named.2.2.2
  clear h
  go_enter Try.func37, Try.ntmps37
  go_wp2_with fail
  refine (unhide NM).mono ?_
  rintro e w1 ⟨v, nl, rfl, nt⟩
  have B1 := hide nt.below
  have PM := hide nt.perm
  have SUM := hide (sum_sizes (unhide HD) hd nt.perm)
  have hlen : nl.length = d.fs.length := by have := nt.perm.length_eq; rwa [List.length_map] at this
  have hsl : (strs nl).length = nl.length := by simp [strs]
  obtain ⟨a, cap, e1, e2, _, _, _, e6⟩ := nt.own.parts
  rw [hsl] at e1 e2 e6
  subst e1
  have E6 := hide e6
  obtain ⟨zs, hzs⟩ : ∃ zs, zs = nl.map (fun s => (rdF d s).text.length) := ⟨_, rfl⟩
  have HZS := hide hzs
  have hzl : zs.length = nl.length := by rw [hzs]; simp
  rw [← hzs] at SUM
  have hD1 := hide ((unhide HD).keep (Touch.of_below (S := fun _ => False) nt.below) (fun _ _ h => h))
  clear e6 nt NM hzs
  go_wp2_with fail
  go_loopw [1, 15] (fun sv pl wr => ∃ (k m : Nat), k ≤ nl.length ∧ pl = .int .i64 k ∧ sv = .int .i64 (n + (zs.take k).sum : Nat) ∧ wr = w1.drewN m) (fun _ pl _ => nl.length - (intOf pl).toNat)
  case atStart => exact ⟨0, 0, Nat.zero_le _, rfl, by simp, rfl⟩
  case round =>
    obtain ⟨k, m, hk, rfl, rfl, rfl⟩ := hrel
    have htk := sum_take_le zs k
    rw [unhide SUM] at htk
    by_cases hkc : k < nl.length
    · have hkc' : (k : Int) < (nl.length : Int) := by omega
      obtain ⟨g, rfl, _, hc, _⟩ := unhide E6 k hkc
      have hc2 : (w1.drewN m).cell? ⟨g, k, none⟩ = some (.string nl[k]) := by
        have : (strs nl)[k]? = some (.string nl[k]) := by simp [strs, hkc]
        rw [this] at hc
        exact hc
      have hzk := sum_take_succ zs (k := k) (by omega)
      have hz : zs[k]'(by omega) = (rdF d nl[k]).text.length := by
        have := unhide HZS
        subst this
        simp
      rw [hz] at hzk
      have htk2 := sum_take_le zs (k + 1)
      rw [unhide SUM] at htk2
      have hmem : nl[k] ∈ d.fs.map Ft.nm := (unhide PM).mem_iff.1 (List.getElem_mem hkc)
      have hnm : nl[k].size ≤ maxLen := by
        obtain ⟨f, hf, e⟩ := List.mem_map.1 hmem
        have := (unhide HD).named.2.1 f hf
        rw [← e]
        unfold okName at this
        have h2 : 0 < f.nm.size ∧ f.nm.size ≤ 24 := by simpa using this
        unfold maxLen
        omega
      have SZ := hide (dsize_any (s := nl[k]) ((unhide hD1).keep (touch_no m) (fun _ _ h => h)) hnm)
      clear hc hmem hz
      generalize nl[k] = s at *
      generalize (rdF d s).text.length = L at *
      generalize (rdF d s).last = la at *
      generalize findE d.dead d.fs s = E at *
      have NX : Hid ((n : Int) + ((zs.take k).sum : Int) + (L : Int) = ((n + (zs.take (k + 1)).sum : Nat) : Int)) := by show (n : Int) + ((zs.take k).sum : Int) + (L : Int) = ((n + (zs.take (k + 1)).sum : Nat) : Int); omega
      have hAL : (zs.take k).sum + L ≤ 4194304 := by omega
      clear hzk htk2
      generalize (zs.take k).sum = A at *
      go_wp2_with fail
      refine (unhide SZ).mono ?_
      rintro e w3 ⟨rfl, j, rfl⟩
      go_wp2
      go_roundw
      case rel => exact ⟨k + 1, m + j, by omega, by go_num, by have hnx := unhide NX; rw [← hnx], by simp⟩
      case measure => simp [intOf]; omega
    · have hkc' : ¬ (k : Int) < (nl.length : Int) := by omega
      obtain rfl : k = nl.length := by omega
      have e1 : (zs.take nl.length).sum = usedF d.fs := by rw [← hzl, List.take_length]; exact unhide SUM
      rw [e1]
      have BB : Hid (Below w.heap.size w (w1.drewN m)) := (unhide B1).trans ((below_of_touch6 (touch_no m)).mono (unhide B1).size)
      rw [hlen]
      clear e1 htk
      by_cases c1 : n + usedF d.fs ≤ 4194304
      · have c1' : (n : Int) + (usedF d.fs : Int) ≤ 4194304 := by omega
        by_cases c2 : d.fs.length < 4096
        · have c2' : (d.fs.length : Int) < 4096 := by omega
          go_wp2
          go_returns
          exact ⟨by unfold roomFor; simp [c1, c2], unhide BB⟩
        · have c2' : ¬ (d.fs.length : Int) < 4096 := by omega
          go_wp2
          go_returns
          exact ⟨by unfold roomFor; simp [c2], unhide BB⟩
      · have c1' : ¬ (n : Int) + (usedF d.fs : Int) ≤ 4194304 := by omega
        go_wp2
        go_returns
        exact ⟨by unfold roomFor; simp [c1], unhide BB⟩
end Go.Proofs.Ytfdpnfeaagijhaa
