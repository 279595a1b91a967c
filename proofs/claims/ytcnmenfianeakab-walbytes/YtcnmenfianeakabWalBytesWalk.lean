/-
  WalBytes. Conditions: the payloads are at most 2^63 - 1.
-/
import Derived.Test.YtcnmenfianeakabWt0
namespace Go.Proofs.Ytcnmenfianeakab
open Go.RowKit
set_option linter.unusedVariables false

def isLong (ls : List (List Nat)) : Bool := ls.any (fun p => decide (4096 < p.length))
theorem isLong_no {ls : List (List Nat)} (h : isLong ls = false) : ∀ p ∈ ls, p.length ≤ 4096 := fun p hp => by
  unfold isLong at h
  rw [List.any_eq_false] at h
  have := h p hp
  simp at this
  exact this
theorem isLong_no' {ls : List (List Nat)} (h : ∀ p ∈ ls, p.length ≤ 4096) : isLong ls = false := by
  unfold isLong
  rw [List.any_eq_false]
  intro p hp
  have := h p hp
  simp; omega
theorem isLong_yes {ls : List (List Nat)} {k : Nat} (hk : k < ls.length) (h : 4096 < (ls.getD k []).length) : isLong ls = true := by
  unfold isLong
  rw [List.any_eq_true]
  exact ⟨_, getD_mem_l hk, by simpa using h⟩

set_option maxRecDepth 100000 in
theorem long_any (w : World) (a : Option Addr) (cap : Nat) (ls : List (List Nat)) (hp : RAt w a ls) (hl : ls.length ≤ 9223372036854775807) :
    Calls Try.prog 30 #[.slice a ls.length cap] w fun e w' => e = .returned (.bool (isLong ls)) ∧ w' = w := by
  have HP := hide hp
  clear hp
  go_enter Try.func30, Try.ntmps30
  go_wp2_with fail
  go_loopw [7] (fun pl wr => ∃ k : Nat, k ≤ ls.length ∧ pl = .int .i64 k ∧ (∀ i, i < k → (ls.getD i []).length ≤ 4096) ∧ wr = w) (fun pl _ => ls.length - (intOf pl).toNat)
  case atStart => exact ⟨0, Nat.zero_le _, rfl, (fun i hi => by omega), rfl⟩
  case round =>
    obtain ⟨k, hk, rfl, hall, rfl⟩ := hrel
    have HALL := hide hall
    clear hall
    by_cases hkc : k < ls.length
    · have hkc' : (k : Int) < (ls.length : Int) := by omega
      obtain ⟨b, off, x, c, rfl, _, hcell, lx, hnx⟩ := (unhide HP).cell hkc
      by_cases h4 : 4096 < (ls.getD k []).length
      · have h4' : (4096 : Int) < ((ls.getD k []).length : Int) := by omega
        have YES := hide (isLong_yes hkc h4)
        clear lx hnx
        generalize (ls.getD k []).length = L at *
        go_wp2
        go_returns
        rw [unhide YES]
        exact ⟨rfl, rfl⟩
      · have h4' : ¬ (4096 : Int) < ((ls.getD k []).length : Int) := by omega
        have HA2 : Hid (∀ i, i < k + 1 → (ls.getD i []).length ≤ 4096) := fun i hi => by
          by_cases e : i = k
          · rw [e]; omega
          · exact unhide HALL i (by omega)
        clear lx hnx
        generalize (ls.getD k []).length = L at *
        go_wp2
        go_roundw
        case rel => exact ⟨k + 1, by omega, by go_num, unhide HA2, trivial⟩
        case measure => simp [intOf]; omega
    · have hkc' : ¬ (k : Int) < (ls.length : Int) := by omega
      obtain rfl : k = ls.length := by omega
      have NO : Hid (isLong ls = false) := isLong_no' (fun p hp => by
        obtain ⟨i, hi, rfl⟩ := List.getElem_of_mem hp
        have := unhide HALL i hi
        simpa [List.getD, hi] using this)
      go_wp2
      go_returns
      rw [unhide NO]
      exact ⟨rfl, rfl⟩

theorem below_drew7 (w : World) (n : Nat) : Below w.heap.size w (w.drewN n) := ⟨rfl, rfl, rfl, Nat.le_refl _, fun _ _ => rfl⟩

/-- What the loop has behind k payloads. -/
structure Laid (w wr : World) (wb db : Nat) (S : Nat → Prop) (v : Value) (T : List Nat) (k : Nat) : Prop where
  z : Wz w wr wb db S (one nmW T 0) nmW (T.length : Nat) (k : Nat)
  row : Row wr v T
  new : New w v
  off : ∀ j, v.ownBlock = some j → ¬ S j ∧ j ≠ wb
theorem Wz.apart {w0 w w' : World} {wb db : Nat} {S T : Nat → Prop} {d : Dk} {s : ByteArray} {n c : Int} (h : Wz w0 w wb db S d s n c) (t : Touch T w w') (h1 : ¬ T wb) (h2 : ∀ k, S k → ¬ T k) (h3 : ∀ k, T k → w0.heap.size ≤ k) : Wz w0 w' wb db S d s n c :=
  ⟨⟨h.wl.ready.keep t h1, h.wl.disk.keep t h2, h.wl.ne⟩, h.base, h.wbase, below_touch h.below t h.below.size h3⟩

set_option maxRecDepth 100000 in
set_option maxHeartbeats 4000000 in
theorem walBytes_walk (a : Option Addr) (cap : Nat) (ls : List (List Nat)) (w : World) (hp : RAt w a ls) (hl : ls.length ≤ 9223372036854775807) :
    Calls Try.prog 8 #[.slice a ls.length cap] w fun e w' => e = .returned (.bool true) ∧ Below w.heap.size w w' := by
  have HP := hide hp
  clear hp
  go_enter Try.func8, Try.ntmps8
  go_wp2_with fail
  refine (dnew_any w).mono ?_
  rintro e w1 ⟨rfl, g1⟩
  obtain ⟨S1, ds1⟩ := Ds.new g1
  obtain ⟨p1, p2, p3, p4⟩ := none_open ok_W
  have A1 := hide (zopen (d := noneD) ds1 size_W p1 p2 p3 p4)
  clear p1 p2 p3 p4 g1 ds1
  rw [scan_nil] at A1
  go_wp2_with fail
  refine (unhide A1).mono ?_
  rintro e w2 ⟨wb, a2, cap2, S2, rfl, z2, _⟩
  simp only [List.length_nil] at z2 ⊢
  have Z2 := hide z2
  clear z2 A1
  go_wp2_with fail
  refine (awake6_any w2).mono ?_
  rintro e w3 ⟨rfl, b3⟩
  have Z3 := hide ((unhide Z2).later b3)
  have LG := hide (long_any w3 a cap ls ((unhide HP).later (unhide Z3).below) hl)
  clear b3 Z2
  go_wp2_with fail
  refine (unhide LG).mono ?_
  rintro e w4 ⟨rfl, rfl⟩
  clear LG
  cases hlg : isLong ls with
  | true =>
    go_wp2_with fail
    refine (awake6_any w4).mono ?_
    rintro e w5 ⟨rfl, b5⟩
    have B5 := hide ((unhide Z3).later b5).below
    clear b5
    go_wp2
    go_returns
    exact ⟨rfl, unhide B5⟩
  | false =>
    have H4 := hide (isLong_no hlg)
    clear hlg
    go_wp2_with fail
    go_loopw [7, 41] (fun pv pl wr => ∃ (v1 : Value) (k : Nat) (S : Nat → Prop), v1 = pv ∧ k ≤ ls.length ∧ pl = .int .i64 k ∧ Laid w wr wb w.heap.size S v1 (frames (ls.take k)) k) (fun _ pl _ => ls.length - (intOf pl).toNat)
    case atStart => exact ⟨_, 0, S2, rfl, Nat.zero_le _, rfl, unhide Z3, Row.nil _, New.nil _, fun j hj => by simp [Value.ownBlock] at hj⟩
    case round =>
      obtain ⟨v1, k, S, rfl, hk, rfl, hla⟩ := hrel
      have LA := hide hla
      clear hla Z3
      have h8 : 8 * k ≤ (frames (ls.take k)).length := by have := frames_len_ge (ls.take k); rw [List.length_take] at this; omega
      by_cases hkc : k < ls.length
      · have hkc' : (k : Int) < (ls.length : Int) := by omega
        obtain ⟨b, off, x, c, rfl, hbw, hcell, lx, hnx⟩ := (unhide HP).cell hkc
        have bel := (unhide LA).z.below
        have hcell' : wr.cell? ⟨b, off + k, none⟩ = some (.slice x (ls.getD k []).length c) := by rw [bel.cell (p := ⟨b, off + k, none⟩) hbw]; exact hcell
        have hp4 : (ls.getD k []).length ≤ 4096 := unhide H4 _ (getD_mem_l hkc)
        have ET := hide (frames_take_succ hkc)
        have LX := hide lx
        have BEL := hide bel
        have hfl := fenc_len (ls.getD k [])
        have HFL := hide hfl
        have EN := hide (docenc_any (cap := c) (lx.later bel) hnx hp4)
        clear lx bel hcell
        generalize hpp : ls.getD k [] = p at *
        clear hpp
        generalize hT : frames (ls.take k) = T at *
        clear hT
        by_cases h19 : 524288 < T.length
        · have h19' : (524288 : Int) < (T.length : Int) := by omega
          obtain ⟨a3, m3', c3, rfl⟩ : ∃ a n c, v1 = Value.slice a n c := (unhide LA).row.shape
          obtain ⟨_, _, ev, _⟩ := (unhide LA).row.parts
          cases ev
          go_wp2
          go_returns
          exact ⟨rfl, unhide BEL⟩
        have h19' : ¬ (524288 : Int) < (T.length : Int) := by omega
        have hF4 : (fenc p).length ≤ 4104 := by omega
        obtain ⟨q1, q2⟩ := one_ap (s := nmW) (t := T) (la := 0) (b := fenc p) ok_W (by omega)
        have Q1 := hide q1
        have Q2 := hide q2
        clear hfl q1 q2
        obtain ⟨F, hF⟩ : ∃ F, F = fenc p := ⟨_, rfl⟩
        have HF := hide hF
        rw [← hF] at hF4
        rw [← hF] at EN
        clear hF
        obtain ⟨av, cv, rfl, _⟩ := (unhide LA).row.parts
        go_wp2_with fail
        refine (unhide EN).mono ?_
        rintro e w5 ⟨v5, rfl, f5⟩
        have B5 := hide f5.2.2
        have Z5 := hide ((unhide LA).z.later f5.2.2)
        have R5 := hide ((unhide LA).row.later f5.2.2)
        obtain ⟨a5, c5, rfl, l5, _, _, n5, _⟩ := f5.1.parts
        have L5 := hide l5
        clear f5 l5 EN
        go_wp2_with (at_builtin; refine wpList_row _ rfl (.tmp 53) (.tmp 54) rfl _ T rfl (unhide R5) a5 c5 F rfl (unhide L5) n5 (by omega) ?_)
        intro v6 w6 r6 t6 m6
        have Z6 : Hid (Wz w w6 wb w.heap.size S (one nmW T 0) nmW (T.length : Nat) (k : Nat)) := (unhide Z5).apart t6 (fun h => ((unhide LA).off _ h).2 rfl) (fun j hj h => ((unhide LA).off _ h).1 hj) (fun j hj => (unhide LA).new j hj)
        have R6 := hide r6
        have O6 : Hid (New w v6 ∧ ∀ j, v6.ownBlock = some j → ¬ S j ∧ j ≠ wb) := by
          have hsz : w.heap.size ≤ w5.heap.size := (unhide Z5).below.size
          refine ⟨(unhide LA).new.moved m6 hsz, fun j hj => ?_⟩
          rcases m6 j hj with e | e
          · exact (unhide LA).off j e
          · exact ⟨fun hs => by have := (unhide Z5).wl.disk.lt j hs; omega, fun e2 => by have := (unhide Z5).wl.ready.lt; omega⟩
        have LX6 := hide ((unhide LX).later (unhide Z6).below)
        have AP := hide (wappend_ok (cap := c) (unhide Z6).wl size_W (one_find ok_W) (by rw [one_rd ok_W]) (unhide LX6) hnx (fun h0 y hy e => by have := (unhide Z6).wbase; have := lat_lt (unhide LX) h0 hy; omega) hp4 (by omega) (by omega) (unhide Q1))
        obtain ⟨a6, m6', c6, rfl⟩ := r6.shape
        clear r6 t6 m6 Z5 R5 L5 B5
        go_wp2_with fail
        refine (unhide AP).mono ?_
        rintro e w7 ⟨rfl, S7, g7⟩
        have NX : Hid (Laid w w7 wb w.heap.size S7 (.slice a6 m6' c6) (T ++ F) (k + 1)) := by
          have z7 := (unhide Z6).to g7
          have hr := unhide R6
          rw [unhide Q2, ← unhide HF] at z7
          have e1 : ((T.length : Int) + ((8 + p.length : Nat) : Int)) = (((T ++ F).length : Nat) : Int) := by rw [List.length_append, unhide HF, unhide HFL]; omega
          have e2 : ((k : Int) + 1) = ((k + 1 : Nat) : Int) := by omega
          rw [e1, e2] at z7
          refine ⟨z7, hr.keep g7.touch (fun j hj h => ?_), (unhide O6).1, fun j hj => ⟨fun h => ?_, ((unhide O6).2 j hj).2⟩⟩
          · rcases h with e | e
            · exact ((unhide O6).2 j hj).1 e
            · exact ((unhide O6).2 j hj).2 e
          · rcases g7.grow j h with e | e
            · exact ((unhide O6).2 j hj).1 e
            · have := hr.lt j hj; omega
        rw [unhide HF, ← unhide ET] at NX
        clear g7 AP Z6 R6 O6 LX6 LA Q1 Q2
        go_wp2
        go_roundw
        case rel => exact ⟨_, k + 1, S7, rfl, by omega, by go_num, unhide NX⟩
        case measure => simp [intOf]; omega
      · have hkc' : ¬ (k : Int) < (ls.length : Int) := by omega
        obtain rfl : k = ls.length := by omega
        rw [List.take_length] at LA h8
        have SW := hide (scan_whole (unhide H4))
        have hmx := (unhide LA).z.wl.disk.text_le nmW
        rw [one_rd ok_W] at hmx
        simp only at hmx
        generalize hT : frames ls = T at *
        clear hT
        have RD := dread_any (s := nmW) (unhide LA).z.wl.disk size_W
        rw [one_find ok_W, one_rd ok_W] at RD
        have RDH := hide RD
        obtain ⟨av, cv, rfl, lv, _⟩ := (unhide LA).row.parts
        clear RD lv
        go_wp2_with fail
        refine (unhide RDH).mono ?_
        rintro e w5 ⟨v5, rfl, r5, n5, b5⟩
        have Z5 := hide ((unhide LA).z.later b5)
        have R5 := hide r5
        have N5 := hide n5
        have RV5 := hide ((unhide LA).row.later b5)
        obtain ⟨p1, p2, p3, p4⟩ := one_open (s := nmW) (t := T) (la := 0) ok_W hmx
        have A6 := zopen (unhide Z5).ds size_W p1 p2 p3 p4
        rw [unhide SW] at A6
        have A6H := hide A6
        obtain ⟨a5, c5, rfl, _⟩ := r5.parts
        clear A6 p1 p2 p3 p4 r5 n5 b5 RDH
        simp only
        go_wp2_with fail
        refine (unhide A6H).mono ?_
        rintro e w6 ⟨wb6, a6, cap6, S6, rfl, z6, hwb6, hd6, _, t6, m6⟩
        have R6 := (unhide R5).keep t6 (fun j hj h => by have := unhide N5 j hj; have := (unhide LA).z.wl.disk.lt j h; omega)
        have RV6 := (unhide RV5).keep t6 (fun j hj h => ((unhide LA).off j hj).1 h)
        obtain ⟨_, _, e1, l1, _⟩ := R6.parts
        cases e1
        obtain ⟨_, _, e1, l2, _⟩ := RV6.parts
        cases e1
        obtain ⟨_, _, e1, r7, _⟩ := hd6.parts
        cases e1
        have B6 := hide z6.below
        have CN : Hid (∀ m, Calls Try.prog 31 #[.pointer (some ⟨wb, 0, none⟩)] (w6.drewN m) fun e w' => e = .returned (.int .i64 (ls.length : Nat)) ∧ w' = w6.drewN m) := fun m => by
          have wl : Wl (w6.drewN m) wb w.heap.size S6 (one nmW (T.take (T.length)) (min 0 T.length)) nmW (T.length : Nat) (ls.length : Nat) := by
            refine ⟨((unhide Z5).wl.ready.keep t6 (unhide LA).z.wl.ne).keep (touch_no m) (fun h => h), z6.wl.disk.keep (touch_no m) (fun _ _ h => h), fun h => ?_⟩
            rcases m6 _ h with e | e
            · exact (unhide LA).z.wl.ne e
            · have := (unhide Z5).wl.ready.lt; omega
          exact wcount_any wl
        have SA := hide (same5_any w6 a5 av c5 cv T l1 l2 (by omega))
        have SL : Hid (∀ m, Calls Try.prog 33 #[.slice a6 ls.length cap6, .slice a ls.length cap] (w6.drewN m) fun e w' => e = .returned (.bool true) ∧ ∃ n, w' = (w6.drewN m).drewN n) := fun m =>
          samelist_any (w6.drewN m) a6 a cap6 cap ls (r7.drewN m) (((unhide HP).later (unhide B6)).drewN m) (by omega) (fun l hl => by have := unhide H4 l hl; omega)
        clear R6 RV6 l1 l2 r7 hd6 z6 t6 m6 A6H LA R5 RV5 N5 Z5 SW
        go_wp2_with fail
        refine (unhide SA).mono ?_
        rintro e w7 ⟨rfl, n7, rfl⟩
        go_wp2_with fail
        refine (unhide SL n7).mono ?_
        rintro e w8 ⟨rfl, n8, rfl⟩
        have CN8 : Hid (Calls Try.prog 31 #[.pointer (some ⟨wb, 0, none⟩)] ((w6.drewN n7).drewN n8) fun e w' => e = .returned (.int .i64 (ls.length : Nat)) ∧ w' = (w6.drewN n7).drewN n8) := by
          have := unhide CN (n7 + n8)
          have e : w6.drewN (n7 + n8) = (w6.drewN n7).drewN n8 := by simp
          rw [e] at this
          exact this
        have B8 : Hid (Below w.heap.size w ((w6.drewN n7).drewN n8)) := (unhide B6).trans ((below_drew7 w6 n7).trans (below_drew7 (w6.drewN n7) n8) |>.mono (unhide B6).size)
        clear CN SL SA B6
        generalize (w6.drewN n7).drewN n8 = w9 at *
        go_wp2_with fail
        refine (unhide CN8).mono ?_
        rintro e w10 ⟨rfl, rfl⟩
        go_wp2
        go_returns
        exact ⟨by simp, unhide B8⟩
end Go.Proofs.Ytcnmenfianeakab
