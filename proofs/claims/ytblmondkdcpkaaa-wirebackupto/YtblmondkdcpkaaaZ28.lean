/-
  WireReads answers true, for any bytes. Conditions: the bytes as they lie.
-/
import Derived.Test.YtblmondkdcpkaaaZ27

namespace Go.Proofs.Ytblmondkdcpkaaa
open Go.RowKit
set_option linter.unusedVariables false

theorem fresh_lit17 {w w2 : World} {v : Value} {l : List Nat} (r : Row w2 v l) (t : Touch (fun k => (Value.slice (some ⟨w.heap.size, 0, none⟩) 0 0).ownBlock = some k) (w.alloc (.cells #[] 5)) w2) (m : Moved (w.alloc (.cells #[] 5)) (.slice (some ⟨w.heap.size, 0, none⟩) 0 0) v) : Fresh w w2 v l := by
  have hb : Below w.heap.size w (w.alloc (.cells #[] 5)) := (Below.refl _ _).alloc (Nat.le_refl _) _
  refine ⟨r, fun k hk => ?_, below_touch hb t hb.size (fun k hk => ?_)⟩
  · rcases m k hk with e | e
    · have : w.heap.size = k := by simpa [Value.ownBlock] using e
      omega
    · simp at e; omega
  · have : w.heap.size = k := by simpa [Value.ownBlock] using hk
    omega
/-- What Decode of any text answers. -/
def DcA (w : World) (t : List Nat) (e : Ending) (w' : World) : Prop := ∃ (E : Int) (m : Mg), e = .returned (.tuple #[.agg (mgL m).toArray, .int .i64 E]) ∧ Below w.heap.size w w' ∧ (E = 0 → MgIn w' m ∧ finE m = 0 ∧ finL m = t) ∧ (E ≠ 0 → m = mg0) ∧ pE t = E
theorem decode_all (HEAD : HdAll) {w : World} {a : Option Addr} {cap : Nat} {t : List Nat} (ht : LAt w a t) (hn : a = none → cap = 0) (hl : t.length ≤ 140737488355328) :
    Calls Try.prog 13 #[.slice a t.length cap] w fun e w' => DcA w t e w' := by
  obtain ⟨E, D, hp, h1, h2⟩ := rmsg_all HEAD ht.bytes
  by_cases hE : E = 0
  · refine (wdec_any (Q := fun L W => ∃ m : Mg, L = mgL m ∧ D m ∧ MgIn W m) ht hn hl (fun W b a' cap' h => (h2 W b a' cap' h).mono ?_)).mono ?_
    · rintro e w' ⟨tc, g, _⟩
      obtain ⟨m, he, hd, hk⟩ := g hE
      exact ⟨mgL m, he, rfl, mg_one m, hk.imp (fun W hW => ⟨m, rfl, hd, hW⟩), ⟨rfl, mg_one m⟩, tc⟩
    · rintro e w' ⟨L, ⟨m, rfl, hd, hm⟩, _, he, hb⟩
      exact ⟨0, m, he, hb, fun _ => ⟨hm, h1 hE m hd⟩, fun h => absurd rfl h, by rw [hp, hE]⟩
  · refine (wdec_no (E := E) hE ht hn hl (fun W b a' cap' h => (h2 W b a' cap' h).mono ?_)).mono ?_
    · rintro e w' ⟨tc, _, g⟩
      exact ⟨g hE, tc⟩
    · rintro e w' ⟨L, rfl, _, he, hb⟩
      exact ⟨E, mg0, he, hb, fun h => absurd h hE, fun _ => rfl, hp⟩
set_option maxRecDepth 100000 in
set_option maxHeartbeats 8000000 in
theorem wireReads_walk (HEAD : HdAll) {w : World} {t : List Nat} {ta : Option Addr} {tcap : Nat} (ht : LAt w ta t) (htn : ta = none → tcap = 0) (htl : t.length ≤ 140737488351232) :
    Calls Try.prog 5 #[.slice ta t.length tcap] w fun e w' => e = .returned (.bool true) ∧ Below w.heap.size w w' := by
  have RB := hide (Row.lit w [] (fun x hx => by cases hx) #[] rfl (by simp [maxLen]))
  have bL := (Below.refl w.heap.size w).alloc (Nat.le_refl _) (.cells #[] 5)
  have LTA := hide (ht.later bL)
  have HT := hide ht
  clear ht bL
  go_enter Try.func5, Try.ntmps5
  go_wp2_with (at_builtin; refine wpList_row _ rfl (.tmp 8) (.tmp 9) rfl _ [] rfl (unhide RB) ta tcap t rfl (unhide LTA) htn (by simp; omega) ?_; intro v1 w1 r1 t1 m1; simp only [List.nil_append] at r1; have F1 := fresh_lit17 r1 t1 m1; obtain ⟨ca, cc, ec, cl, _, _, cn, _⟩ := r1.parts; subst ec; have CL := hide cl; have CN := hide cn; have B1 := hide F1.2.2; clear r1 t1 m1 F1 cl cn)
  refine (decode_all HEAD (unhide CL) (unhide CN) (by omega)).mono ?_
  rintro e w2 ⟨E, m, rfl, b2, h0, h1, _⟩
  have hlo : Hid (0 < t.length → ∀ x, ta = some x → x.block < w.heap.size) := hide (fun hp x hx => by
    obtain ⟨b', o', e', hb', _⟩ := (unhide HT) 0 hp
    rw [hx] at e'
    cases e'
    exact hb')
  have hlc : Hid (0 < t.length → ∀ x, ca = some x → x.block < w1.heap.size) := hide (fun hp x hx => by
    obtain ⟨b', o', e', hb', _⟩ := (unhide CL) 0 hp
    rw [hx] at e'
    cases e'
    exact hb')
  have B2 := hide ((unhide B1).trans (b2.mono (unhide B1).size))
  have C2 := hide ((unhide CL).later b2)
  have hs12 : w1.heap.size ≤ w2.heap.size := b2.size
  have H0 := hide h0
  have H1 := hide h1
  have HW : Hid ((mgL m).toArray.all (·.oneCell') = true) := hide (mg_one m)
  have HLN : Hid ((mgL m).length = 59) := hide rfl
  have HB : Hid (∀ ob, Below w2.heap.size w2 (w2.alloc ob)) := hide (fun ob => (Below.refl w2.heap.size w2).alloc (Nat.le_refl _) ob)
  have HI1 := hide (info_mg m)
  clear b2 h0 h1 B1 CL RB LTA
  generalize hLL : mgL m = LL at *
  have HLL := hide hLL
  clear hLL
  go_upto_region 3 with (with_reducible (show wpList _ _ _ (Oper.mk _ (Op.store _ _ _) _ _ _ _ :: _) _ _); refine store_list rfl (.tmp 4) (.tmp 14) rfl w2.heap.size LL rfl rfl (heap_new w2 _) rfl (unhide HLN) (unhide HW) ?_; rintro W3 q1 q2; have Q3 := hide q1; have B3 := hide (below_touch ((unhide B2).trans ((unhide HB _).mono (unhide B2).size)) q2 (Nat.le_trans (unhide B2).size (unhide HB _).size) (fun k hk => by have := (unhide B2).size; omega)); have C3 := hide (((unhide C2).later (unhide HB _)).keep q2 (fun hp x hx e => by have := unhide hlc hp x hx; omega)); have T3 : Hid (Below w2.heap.size w2 W3) := hide (below_touch (unhide HB _) q2 (unhide HB _).size (fun k hk => by omega)); clear q1 q2)
  clear HW HLN HB C2 B2
  have KW := hide (awake17_any HEAD W3)
  have S3 := hide (fun (W : World) (hb : Below W3.heap.size W3 W) => same_any W ta ca tcap cc t ((unhide HT).later ((unhide B3).trans (hb.mono (unhide B3).size))) ((unhide C3).later hb) (by omega))
  go_upto_region 5 with (first
    | (go_at_call 10; refine (unhide KW).mono ?_; rintro e w4 ⟨rfl, b4⟩; have B4 := hide b4; clear b4)
    | (go_at_call 12; refine (unhide S3 w4 (unhide B4)).mono ?_; rintro e w5 ⟨rfl, nq, rfl⟩))
  have B5 := hide (below_drewN' (unhide B4) nq)
  clear B4 KW S3
  generalize w4.drewN nq = W5 at *
  have Q5 := hide (below_keep (unhide B5) (unhide Q3))
  have BW5 := hide ((unhide B3).trans ((unhide B5).mono (unhide B3).size))
  have HT5 := hide ((unhide HT).later (unhide BW5))
  by_cases hE : E = 0
  · subst hE
    obtain ⟨hm, f1, f2⟩ := unhide H0 rfl
    have KE := wencode_any (hm.later ((unhide T3).trans ((unhide B5).mono (unhide T3).size))) f1 f2
    rw [unhide HLL] at KE
    have HKE := hide KE
    have HRG := hide (range_of (o := 0) (ds := LL) (unhide Q5) (fun j v hv => by rw [Nat.zero_add]; exact hv))
    clear hm f1 f2 KE H0 H1 Q3 C3 B3 T3 B5
    go_wp2_with (first
      | (with_reducible (show wpList _ _ _ (Oper.mk _ (Op.load _ _) _ _ _ _ :: _) _ _); refine wpList_load_mid rfl 41 (.tmp 4) rfl w2.heap.size 0 rfl LL _ (unhide HRG) Try.underlying41 rfl (unhide HI1) ?_)
      | (go_at_call 11; refine (unhide HKE).mono ?_; rintro e w6 ⟨vo, rfl, r6, n6, b6⟩; obtain ⟨da, dc, ev, l6, _, _, z6, _⟩ := r6.parts; subst ev; have L6 := hide l6; have B6 := hide b6; clear r6 n6 b6 l6 z6)
      | (go_at_call 12; refine (same_any w6 da ta dc tcap t (unhide L6) ((unhide HT5).later (unhide B6)) (by omega)).mono ?_; rintro e w7 ⟨rfl, nr, rfl⟩; have B7 := hide (below_drewN' ((unhide BW5).trans ((unhide B6).mono (unhide BW5).size)) nr)))
    go_ret
    exact ⟨rfl, unhide B7⟩
  · have hm := unhide H1 hE
    have hLL := unhide HLL
    rw [hm] at hLL
    have Q5' := unhide Q5
    rw [← hLL] at Q5'
    have y0 : W5.cell? ⟨w2.heap.size, 0, none⟩ = some (.int .i64 0) := cell_of Q5' 0
    have y1 : W5.cell? ⟨w2.heap.size, 1, none⟩ = some (.int .i64 0) := cell_of Q5' 1
    have y5 : W5.cell? ⟨w2.heap.size, 5, none⟩ = some (.int .i64 0) := cell_of Q5' 5
    have y30 : W5.cell? ⟨w2.heap.size, 30, none⟩ = some (.int .i64 0) := cell_of Q5' 30
    have y55 : W5.cell? ⟨w2.heap.size, 55, none⟩ = some (.slice none 0 0) := cell_of Q5' 55
    have y56 : W5.cell? ⟨w2.heap.size, 56, none⟩ = some (.slice none 0 0) := cell_of Q5' 56
    have hEb : (E == 0) = false := beq_eq_false_iff_ne.2 hE
    clear hm hLL Q5' Q5 H0 H1 Q3 C3 B3 T3 B5 HLL HI1 HT5
    go_wp2
    go_ret
    exact ⟨rfl, unhide BW5⟩
end Go.Proofs.Ytblmondkdcpkaaa
