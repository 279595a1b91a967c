/-
  CodecTakes walked: it answers true. Conditions: the bytes are at most 2^47.
-/
import Derived.Test.YtnhociggoagpoaaTake3
import Derived.Test.YtnhociggoagpoaaWc
namespace Go.Proofs.Ytnhociggoagpoaa
open Go.RowKit
set_option linter.unusedVariables false

theorem RowOf.ints {w : World} {a : Option Addr} {len : Nat} {f : Nat → Int} (h : RowOf .i64 w a len f) : ∃ ls : List Int, ls.length = len ∧ IAt w a ls ∧ ∀ x ∈ ls, -9223372036854775808 ≤ x ∧ x < 9223372036854775808 := by
  refine ⟨(List.range len).map f, by simp, fun i hi => ?_, fun x hx => ?_⟩
  · have hi' : i < len := by simpa using hi
    obtain ⟨b, off, h1, h2, h3, _⟩ := h i hi'
    refine ⟨b, off, h1, h2, ?_⟩
    have e : ((List.range len).map f).getD i 0 = f i := by simp [List.getD, hi']
    rw [e]; exact h3
  · obtain ⟨i, hi, rfl⟩ := List.mem_map.1 hx
    obtain ⟨b, off, _, _, _, h4⟩ := h i (List.mem_range.1 hi)
    have := bounds_i64 h4
    omega

/-- append([]byte{}, b...): a new row, alike. -/
theorem fresh_copy {w w' : World} {v : Value} {l : List Nat} (r : Row w' v l) (t : Touch (fun k => (Value.slice (some ⟨w.heap.size, 0, none⟩) 0 0).ownBlock = some k) (w.alloc (.cells #[] 5)) w') (m : Moved (w.alloc (.cells #[] 5)) (.slice (some ⟨w.heap.size, 0, none⟩) 0 0) v) : Row w' v l ∧ New w v ∧ Below w.heap.size w w' := by
  refine ⟨r, fun k hk => ?_, ?_⟩
  · rcases m k hk with e | e
    · simp [Value.ownBlock] at e; omega
    · simp at e; omega
  · exact below_touch ((Below.refl _ w).alloc (Nat.le_refl _) _) t (by simp) (fun k hk => by simp [Value.ownBlock] at hk; omega)

theorem mem_lt {w : World} {a : Option Addr} {t : List Nat} (h : LAt w a t) (h0 : 0 < t.length) {x : Addr} (hx : a = some x) : x.block < w.heap.size := by
  obtain ⟨b, off, e1, e2, _⟩ := h.cell h0
  rw [hx] at e1; cases e1; exact e2

set_option maxRecDepth 100000 in
set_option maxHeartbeats 4000000 in
theorem codecTakes_walk (a0 : Option Addr) (cap0 : Nat) (t : List Nat) (a1 : Option Addr) (cap1 : Nat) (ks : List Int) (w : World) (h0 : LAt w a0 t) (hn0 : a0 = none → cap0 = 0) (hc0 : t.length ≤ cap0) (hl0 : t.length ≤ 140737488355328) (h1 : IAt w a1 ks) (hl1 : ks.length ≤ 9223372036854775807) :
    Calls Try.prog 4 #[.slice a0 t.length cap0, .slice a1 ks.length cap1] w fun e w' => e = .returned (.bool true) ∧ Below w.heap.size w w' := by
  have H0 := hide h0
  have H1 := hide h1
  clear h0 h1
  go_enter Try.func4, Try.ntmps4
  go_wp2_with fail
  refine (awake3_any w).mono ?_
  rintro e w1 ⟨rfl, b1⟩
  have B1 := hide b1
  have L1 := hide ((unhide H0).later b1)
  clear b1
  have R0 := hide (Row.lit w1 [] (fun x hx => by cases hx) #[] rfl (by simp [maxLen]))
  go_wp2_with (at_builtin; refine wpList_row _ rfl (.tmp 15) (.tmp 16) rfl _ [] rfl (unhide R0) a0 cap0 t rfl ((unhide L1).keep ((Touch.refl (fun _ => False) w1).alloc _) (fun _ _ _ h => h)) hn0 (by simpa using hl0) ?_)
  intro vc w2 r2 t2 m2
  have F := fresh_copy r2 t2 m2
  clear r2 t2 m2 R0 L1
  obtain ⟨rc, nc, bc⟩ := F
  have NC := hide (nc.mono (unhide B1).size)
  have B2 := hide ((unhide B1).trans (bc.mono (unhide B1).size))
  have RC := hide rc
  obtain ⟨ac, cc, rfl, lc, _, _, hnc, hoc, _⟩ := rc.parts
  have NR := hide (reader_c (unhide B2) ac cc t lc hnc hl0)
  have hltc := rc.lt
  clear rc nc bc B1
  go_wp2_with fail
  refine (unhide NR).mono ?_
  rintro e w3 ⟨b3, a3, c3, rfl, q3, bl3, hb3, ha3⟩
  have hb3' := q3.rd.lt
  have hbb := q3.hb
  have B3 := hide q3.below
  have RC3 := hide ((unhide RC).later bl3)
  have hB4 : Below w3.heap.size w3 (w3.alloc (.cells #[.slice a0 t.length cap0, .int .i64 0, .int .i64 0] 41)) := (Below.refl _ _).alloc (Nat.le_refl _) _
  have RC4 := hide ((unhide RC3).later hB4)
  have B4 := hide ((unhide B3).trans (hB4.mono (unhide B3).size))
  have hsz3 := (unhide B3).size
  have BO : Hid (Both (w3.alloc (.cells #[.slice a0 t.length cap0, .int .i64 0, .int .i64 0] 41)) b3 a3 c3 w3.heap.size a0 cap0 t ⟨0, 0⟩) := by
    refine ⟨q3.rd.later hB4, ⟨heap_new _ _, (unhide H0).later (unhide B4), fun h0 x hx => ?_, hc0, hn0, Nat.zero_le _, by simp, hl0⟩, by omega, fun h0 x hx => ?_, fun h0 x hx => ?_⟩
    · have := mem_lt (unhide H0) h0 hx; omega
    · have := mem_lt q3.rd.text h0 hx; omega
    · have := mem_lt (unhide H0) h0 hx; have := q3.hb; omega
  have OC : Hid (∀ k, (Value.slice ac t.length cc).ownBlock = some k → ¬ One2 b3 w3.heap.size k) := by
    intro k hk
    have := hltc k hk
    rintro (e | e) <;> omega
  clear q3 bl3 hb3 ha3 hB4 hltc lc NR RC RC3 B3 hoc
  go_wp2_with fail
  go_loopw [25] (fun i wr => ∃ k : Nat, k ≤ ks.length ∧ i = .int .i64 k ∧ Both wr b3 a3 c3 w3.heap.size a0 cap0 t (takenUp t (fun j => ks.getD j 0) k) ∧ Row wr (.slice ac t.length cc) t ∧ Below w.heap.size w wr) (fun i _ => ks.length - (intOf i).toNat)
  case atStart => exact ⟨0, Nat.zero_le _, rfl, unhide BO, unhide RC4, unhide B4⟩
  case round =>
    obtain ⟨k, hk, rfl, hbo, hro, hbe⟩ := hrel
    have HBO := hide hbo
    have HRO := hide hro
    have HBE := hide hbe
    clear hbo hro hbe BO RC4 B4
    by_cases hc : k < ks.length
    · obtain ⟨cb, off, rfl, hcb, hcell⟩ := (unhide H1).later (unhide HBE) k hc
      have ET : Hid (takenUp t (fun j => ks.getD j 0) (k + 1) = rK t (ks.getD k 0) (takenUp t (fun j => ks.getD j 0) k)) := rfl
      generalize hq : takenUp t (fun j => ks.getD j 0) k = q at *
      generalize ks.getD k 0 = x at *
      have TK := hide (take3_any _ x (unhide HBO))
      have hc' : (k : Int) < (ks.length : Int) := by omega
      go_wp2_with fail
      refine (unhide TK).mono ?_
      rintro e w5 ⟨rfl, h5, t5⟩
      have RO5 := hide ((unhide HRO).keep t5 (unhide OC))
      have BE5 := hide (below_touch (unhide HBE) t5 (unhide HBE).size (fun k hk => by rcases hk with e | e <;> omega))
      generalize rK t x q = s at *
      have ST := hide (state_any w5 h5.l)
      have H5 := hide h5
      have hpl := h5.l.pl
      have hsub : (t.length : Int) - (s.pl : Int) = ((t.length - s.pl : Nat) : Int) := by omega
      clear h5 t5 TK
      go_wp2_with fail
      refine (unhide ST).mono ?_
      rintro e w6 ⟨rfl, n6, rfl⟩
      have H6 := hide ((unhide H5).drewN n6)
      have RO6 : Hid (Row (w5.drewN n6) (.slice ac t.length cc) t) := ⟨(unhide RO5).own, (unhide RO5).bytes⟩
      have BE6 := hide (below_drewN' (unhide BE5) n6)
      clear H5 RO5 BE5 ST
      generalize w5.drewN n6 = w6 at *
      have d1 := (unhide H6).r.c1
      have d2 := (unhide H6).r.c2
      have EN := hide (end_any _ (unhide H6).l)
      go_wp2_with fail
      refine (unhide EN).mono ?_
      rintro e w7 ⟨rfl, n7, rfl⟩
      have H7 := hide ((unhide H6).drewN n7)
      have RO7 : Hid (Row (w6.drewN n7) (.slice ac t.length cc) t) := ⟨(unhide RO6).own, (unhide RO6).bytes⟩
      have BE7 := hide (below_drewN' (unhide BE6) n7)
      clear H6 RO6 BE6 EN d1 d2
      generalize w6.drewN n7 = w7 at *
      have EN2 := hide (fend_any _ (unhide H7).r)
      go_wp2_with fail
      refine (unhide EN2).mono ?_
      rintro e w8 ⟨rfl, n8, rfl⟩
      have F : Hid (Both (w7.drewN n8) b3 a3 c3 w3.heap.size a0 cap0 t s ∧ Row (w7.drewN n8) (.slice ac t.length cc) t ∧ Below w.heap.size w (w7.drewN n8)) := ⟨(unhide H7).drewN n8, ⟨(unhide RO7).own, (unhide RO7).bytes⟩, below_drewN' (unhide BE7) n8⟩
      generalize w7.drewN n8 = w9 at *
      clear EN2 H7 RO7 BE7
      generalize rE t s = z at *
      go_wp2
      go_roundw
      case rel => exact ⟨k + 1, by omega, by go_num, by rw [unhide ET]; exact unhide F⟩
      case measure => simp [intOf]; omega
    · obtain rfl : k = ks.length := by omega
      obtain ⟨_, _, e, lr, _⟩ := (unhide HRO).parts
      cases e
      have SM := hide (same_any wr a0 ac cap0 cc t ((unhide H0).later (unhide HBE)) lr (by omega))
      clear lr
      go_wp2_with fail
      refine (unhide SM).mono ?_
      rintro e w9 ⟨rfl, n, rfl⟩
      go_wp2
      go_returns
      exact ⟨rfl, below_drewN' (unhide HBE) n⟩
end Go.Proofs.Ytnhociggoagpoaa
