/-
  CrcAhead returns true, whatever its arguments, and writes nothing that was there: what stands ahead of the same bytes shows in their sum. Conditions: the bytes are at most 2^47 - 4096 (the row's own reach).
-/
import Derived.Test.YtbojiafnapcgnabCrcStep
import Derived.Deep.AppendSrc
namespace Go.Proofs.Ytbojiafnapcgnab
open Go.RowKit

theorem owns_keep {x x' : World} {base n : Nat} {v : Value} {xs : List Value} {S : Nat → Prop} (h : x.ownsRow base 5 1 v n xs) (t : Touch S x x') (hs : ∀ k, base ≤ k → ¬ S k) : x'.ownsRow base 5 1 v n xs := by
  obtain ⟨h1, h2⟩ := h
  refine ⟨h1, ?_⟩
  rcases h2 with h2 | ⟨g, cap, cur, hv, hg, hh, r⟩
  · exact .inl h2
  · exact .inr ⟨g, cap, cur, hv, hg, t.keep hh (hs g hg), r⟩

theorem owns_bytes {x : World} {base n : Nat} {v : Value} {xs : List Value} (G : Nat → Nat) (h : x.ownsRow base 5 1 v n xs) (h0 : 0 < n) (hx : ∀ i, i < n → xs[i]? = some (.int .u8 (G i)) ∧ G i < 256) :
    ∃ g cap, v = .slice (some ⟨g, 0, none⟩) n cap ∧ base ≤ g ∧ n ≤ cap ∧ OwnAt x g n G ∧ ∃ cur : Array Value, x.heap[g]? = some (.cells cur 5) ∧ cur.size = cap := by
  obtain ⟨h1, h2⟩ := h
  rcases h2 with ⟨_, h2⟩ | ⟨g, cap, cur, hv, hg, hh, hc, _, hs, ht⟩
  · omega
  · refine ⟨g, cap, hv, hg, hc, ⟨cur, hh, by omega, fun i hi => ⟨?_, (hx i hi).2⟩⟩, cur, hh, by omega⟩
    have := (hx i hi).1
    rw [← ht, List.getElem?_take, if_pos (by omega)] at this
    rw [← Array.getElem?_toList]; exact this

theorem cx_grown {w x x' : World} {base : Nat} {row : Option Nat} (h : Cx w x) (hg : x.grownBy x' row) (hb : w.heap.size < base) (hr : ∀ k, row = some k → base ≤ k) : Cx w x' :=
  have t : Touch (base ≤ ·) x x' := ⟨hg.os, hg.tape, hg.output, hg.size, fun k hk hs => hg.block k hk (fun e => hs (hr k e.symm))⟩
  ⟨h.ready.keep t (by omega), below_touch h.below t h.below.size (fun k hk => by omega)⟩

theorem own_row {x : World} {base n : Nat} {v : Value} {xs : List Value} (h : x.ownsRow base 5 1 v n xs) : ∀ k, v.ownBlock = some k → base ≤ k := by
  intro k hk
  rcases h.2 with ⟨rfl, _⟩ | ⟨g, cap, cur, rfl, hg, _⟩
  · simp [Value.ownBlock] at hk
  · simp [Value.ownBlock] at hk; omega

theorem cx_alloc {w x : World} (h : Cx w x) (o : Obj) : Cx w (x.alloc o) := ⟨h.ready.keep ((Touch.refl (fun _ => False) x).alloc o) (fun h => h), h.below.alloc h.below.size o⟩

/-- What stands behind the noughts. -/
def behind (m : Nat) (g : Nat → Nat) : Nat → Nat := fun i => if i < m then 0 else g (i - m)
theorem behind_sum (m len : Nat) (g : Nat → Nat) : mor (behind m g) 0 (m + len) = mor g (mor (fun _ => 0) 0 m) len :=
  (mor_append (behind m g) (behind m g) 0 m len (fun _ => 0) g (fun i hi => by unfold behind; rw [if_pos hi]) (fun i _ => by unfold behind; rw [if_neg (by omega)]; congr 1; omega) (fun _ _ => rfl)).symm

set_option maxRecDepth 100000 in
set_option maxHeartbeats 4000000 in
theorem crcAhead_walk (a : Option Addr) (len cap : Nat) (n : Nat) (g : Nat → Nat) (w : World) (hn : n < 256) (hg : BytesAt w a len g) (hlen : len ≤ 140737488351232) (ha : a = none → len = 0) :
    Calls Try.prog 8 #[.slice a len cap, .int .u8 n] w fun e w' => e = .returned (.bool true) ∧ Below w.heap.size w w' := by
  obtain ⟨m, hm, hm60⟩ : ∃ m : Nat, (n : Int) % 60 = (m : Int) ∧ m < 60 := ⟨n % 60, by simp, by omega⟩
  obtain ⟨i0, hi, hz0, hz1, hz2⟩ := info_u8
  have G := hide hg
  have HA := hide ha
  clear hg ha
  go_enter Try.func8, Try.ntmps8
  go_wp2_with fail
  refine (tnew_any w).mono ?_
  rintro e w1 ⟨rfl, h1, b1⟩
  have C1 := hide (Cx.mk h1 b1)
  have hbase := (unhide C1).lt
  clear h1 b1
  generalize hB : w1.heap.size = base at *
  have HB := hide hB
  clear hB
  go_wp2_with fail
  go_loopw [6, 7] (fun c i wr => ∃ k : Nat, k ≤ m + 1 ∧ i = .int .i64 k ∧ wr.ownsRow base 5 1 c k (List.replicate k (.int .u8 0)) ∧ Cx w wr ∧ base ≤ wr.heap.size) (fun _ i _ => m + 1 - (intOf i).toNat)
  case atStart => exact ⟨0, Nat.zero_le _, rfl, World.ownsRow_nil _ _ _ _, unhide C1, by rw [unhide HB]; exact Nat.le_refl _⟩
  case round =>
    obtain ⟨k, hk, rfl, ho, hc, hsz⟩ := hrel
    have OW := hide ho
    have CW := hide hc
    clear ho hc C1 HB
    by_cases hlt : k < m + 1
    · have hlt' : (k : Int) < (m : Int) + 1 := by omega
      go_wp2_with (at_builtin; refine wpList_append_own _ rfl (.tmp 18) (.tmp 19) 38 rfl base 5 i0 (.int .u8 0) 1 1 Try.underlying38 hi hz0 hz1 hz2 rfl (by decide) _ k _ rfl ((unhide OW).alloc _) ⟨wr.heap.size, 0, none⟩ 1 1 [.int .u8 0] rfl rfl ?c1 ?c2 ?c3 ?c4 ?c5 ?_)
      case c1 =>
        intro j u hj
        match j, hj with
        | 0, hj => simp at hj; subst hj; simp [Addr.add]
      case c2 => intro u hu; simp at hu; subst hu; rfl
      case c3 => unfold maxLen; omega
      case c4 => omega
      case c5 => simp; omega
      intro v' w' hown hgrow _
      have rown := own_row (unhide OW)
      have C2 := hide (cx_grown (cx_alloc (unhide CW) _) hgrow hbase rown)
      have hsz' : base ≤ w'.heap.size := by have := hgrow.size; simp at this; omega
      have er : List.replicate k (Value.int .u8 0) ++ [Value.int .u8 0] = List.replicate (k + 1) (Value.int .u8 0) := by rw [List.replicate_succ']
      rw [er] at hown
      have OW2 := hide hown
      clear hown hgrow rown er OW CW
      go_wp2
      go_roundw
      case rel => exact ⟨k + 1, by omega, by go_num, unhide OW2, unhide C2, hsz'⟩
      case measure => simp [intOf]; omega
    · obtain rfl : k = m + 1 := by omega
      obtain ⟨gb, gc, ev, hgb, hgc, og, cur, hcur, hcs⟩ := owns_bytes (fun _ => 0) (unhide OW) (by omega) (fun i hi => by simp [hi])
      subst ev
      have OG := hide og
      have HCUR := hide hcur
      clear og hcur
      have hz := mor_lt (fun _ => 0) 0 (m + 1)
      have EB := hide (behind_sum (m + 1) len g)
      have EZ := hide (mor_inj g (mor (fun _ => 0) 0 (m + 1)) 0 len hz (by omega))
      go_wp2_with fail
      refine (sum_any w.heap.size (some ⟨gb, 0, none⟩) (m + 1) gc (fun _ => 0) _ (unhide CW).ready (unhide OG).bytes (fun _ x hx => by simp at hx; subst hx; simp; omega) (by omega)).mono ?_
      generalize mor (fun _ => 0) 0 (m + 1) = zs at *
      rintro e x1 ⟨rfl, h1, t1⟩
      have C2 := hide (Cx.mk (.inr h1) (below_touch (unhide CW).below t1 (unhide CW).below.size (fun k hk => by omega)))
      have OW2 := hide (owns_keep (unhide OW) t1 (fun k hk => by omega))
      have OG2 := hide ((unhide OG).keep t1 (by omega))
      have HC2 := hide (t1.keep (unhide HCUR) (by omega))
      have hsz2 : base ≤ x1.heap.size := by have := t1.size; omega
      clear h1 t1 OW CW OG HCUR
      cases a with
      | none =>
        obtain rfl : len = 0 := (unhide HA) rfl
        have happ : ∀ (x : World), (Builtin.append_ #[38, 38] 38 #[.slice (some ⟨gb, 0, none⟩) (m + 1) gc, .slice none 0 cap]).run Try.prog x = .ok (.slice (some ⟨gb, 0, none⟩) (m + 1) gc) x := fun x => by
          have h := run_append_room_src (P := Try.prog) x 38 38 38 5 i0 Try.underlying38 hi gb 0 (m + 1) gc (.slice none 0 cap) 0 [] (Src.ofNil x Try.underlying38 cap) (by omega) (fun j hj => by simp at hj) (fun j hj => by simp at hj)
          exact h
        have C3 := C2
        have o3 : OwnAt x1 gb (m + 1) (behind (m + 1) g) := (unhide OG2).congr (fun i hi => by unfold behind; rw [if_pos hi])
        have O3 := hide o3
        clear o3 C2 OW2 OG2 HC2
        rw [Nat.add_zero] at EB
        go_wp2_with fail
        refine (awake_step w _ (unhide C3)).mono ?_
        rintro e y1 ⟨rfl, c, st⟩
        have C4 := hide c
        have O4 := hide (st _ _ _ (by omega) (unhide O3))
        clear c st C3 O3
        go_wp2_with fail
        refine (sum_step w _ gb (m + 1) gc (behind (m + 1) g) (unhide C4) (unhide O4) (by omega) (by omega)).mono ?_
        rw [unhide EB]
        rintro e y2 ⟨rfl, c, st⟩
        have C5 := hide c
        have O5 := hide (st _ _ _ (by omega) (unhide O4))
        clear c st C4 O4
        go_wp2_with fail
        refine (more_arg w _ zs none 0 cap g (unhide C5) hz (unhide G) (by omega)).mono ?_
        rintro e y3 ⟨rfl, c, st⟩
        have C6 := hide c
        have O6 := hide (st _ _ _ (by omega) (unhide O5))
        clear c st C5 O5
        go_wp2_with fail
        refine (sum_step w _ gb (m + 1) gc (behind (m + 1) g) (unhide C6) (unhide O6) (by omega) (by omega)).mono ?_
        rw [unhide EB]
        rintro e y4 ⟨rfl, c, st⟩
        have C7 := hide c
        clear c st C6 O6
        go_wp2_with fail
        refine (own_step w _ none 0 cap g (unhide C7) (unhide G) (by omega)).mono ?_
        rintro e y5 ⟨rfl, c, o, st⟩
        have C8 := hide c
        have O8 := hide o
        have l8 := (unhide C7).lt
        clear c o st C7
        go_wp2_with fail
        refine (sum_step w _ y4.heap.size 0 (0 + 9) g (unhide C8) (unhide O8) l8 (by omega)).mono ?_
        rintro e y6 ⟨rfl, c, st⟩
        have C9 := hide c
        clear c st C8 O8
        have hfin : (((zs : Int) == 0) == ((mor g zs 0 : Int) == (mor g 0 0 : Int))) = true := by
          by_cases h : zs = 0
          · subst h; simp
          · have h2 : ¬ mor g zs 0 = mor g 0 0 := fun h3 => h ((unhide EZ) h3)
            have e1 : ((zs : Int) == 0) = false := by simp; omega
            have e2 : ((mor g zs 0 : Int) == (mor g 0 0 : Int)) = false := by simp; omega
            rw [e1, e2]; rfl
        have HFIN := hide hfin
        clear hfin
        generalize mor g zs 0 = q1 at *
        generalize mor g 0 0 = q2 at *
        go_wp2
        go_ret
        exact ⟨by have := unhide HFIN; simpa using this, (unhide C9).below⟩
      | some ad =>
        have hadd : ∀ j, j < len → ad = ⟨ad.block, ad.off, none⟩ ∧ x1.cell? (ad.add j) = some (.int .u8 (g j)) ∧ g j < 256 := fun j hj => by
          obtain ⟨b, off, h1, h2, h3, h4⟩ := (unhide G) j hj
          cases h1
          refine ⟨rfl, ?_, h4⟩
          have : Addr.add ⟨b, off, none⟩ j = ⟨b, off + j, none⟩ := by
            unfold Addr.add
            split
            · rename_i h0; subst h0; rfl
            · rfl
          rw [this, ((unhide C2).below.cell (p := ⟨b, off + j, none⟩) h2)]; exact h3
        have HADD := hide hadd
        clear hadd
        go_wp2_with (at_builtin; refine wpList_append_own _ rfl (.tmp 24) (.tmp 25) 38 rfl base 5 i0 (.int .u8 0) 1 1 Try.underlying38 hi hz0 hz1 hz2 rfl (by decide) _ (m + 1) _ rfl (unhide OW2) ad len cap ((List.range len).map (fun i => Value.int .u8 (g i))) rfl ?c0 ?c1 ?c2 ?c3 ?c4 hsz2 ?_)
        case c0 => simp
        case c1 =>
          intro j u hj
          have hjl : j < len := by
            have := (List.getElem?_eq_some_iff.1 hj).1
            simpa using this
          simp [hjl] at hj
          rw [← hj]
          exact ((unhide HADD) j hjl).2.1
        case c2 =>
          intro u hu
          obtain ⟨i, _, rfl⟩ := List.mem_map.1 hu
          rfl
        case c3 => unfold maxLen; omega
        case c4 => omega
        intro v' w' hown hgrow _
        have rown := own_row (unhide OW2)
        have C3 := hide (cx_grown (unhide C2) hgrow hbase rown)
        obtain ⟨gb', gc', ev, hgb', _, og, _⟩ := owns_bytes (behind (m + 1) g) hown (by omega) (fun i hi => by
          unfold behind
          by_cases h : i < m + 1
          · rw [if_pos h, List.getElem?_append_left (by simpa using h)]
            simp [h]
          · rw [if_neg h, List.getElem?_append_right (by simp; omega)]
            have h2 : i - (m + 1) < len := by omega
            simp only [List.length_replicate]
            refine ⟨by simp [h2], ((unhide HADD) _ h2).2.2⟩)
        subst ev
        have O3 := hide og
        clear og hown hgrow rown C2 OW2 OG2 HC2 HADD
        go_wp2_with fail
        refine (awake_step w _ (unhide C3)).mono ?_
        rintro e y1 ⟨rfl, c, st⟩
        have C4 := hide c
        have O4 := hide (st _ _ _ (by omega) (unhide O3))
        clear c st C3 O3
        go_wp2_with fail
        refine (sum_step w _ gb' (m + 1 + len) gc' (behind (m + 1) g) (unhide C4) (unhide O4) (by omega) (by omega)).mono ?_
        rw [unhide EB]
        rintro e y2 ⟨rfl, c, st⟩
        have C5 := hide c
        have O5 := hide (st _ _ _ (by omega) (unhide O4))
        clear c st C4 O4
        go_wp2_with fail
        refine (more_arg w _ zs (some ad) len cap g (unhide C5) hz (unhide G) (by omega)).mono ?_
        rintro e y3 ⟨rfl, c, st⟩
        have C6 := hide c
        have O6 := hide (st _ _ _ (by omega) (unhide O5))
        clear c st C5 O5
        go_wp2_with fail
        refine (sum_step w _ gb' (m + 1 + len) gc' (behind (m + 1) g) (unhide C6) (unhide O6) (by omega) (by omega)).mono ?_
        rw [unhide EB]
        rintro e y4 ⟨rfl, c, st⟩
        have C7 := hide c
        clear c st C6 O6
        go_wp2_with fail
        refine (own_step w _ (some ad) len cap g (unhide C7) (unhide G) (by omega)).mono ?_
        rintro e y5 ⟨rfl, c, o, st⟩
        have C8 := hide c
        have O8 := hide o
        have l8 := (unhide C7).lt
        clear c o st C7
        go_wp2_with fail
        refine (sum_step w _ y4.heap.size len (len + 9) g (unhide C8) (unhide O8) l8 (by omega)).mono ?_
        rintro e y6 ⟨rfl, c, st⟩
        have C9 := hide c
        clear c st C8 O8
        have hfin : (((zs : Int) == 0) == ((mor g zs len : Int) == (mor g 0 len : Int))) = true := by
          by_cases h : zs = 0
          · subst h; simp
          · have h2 : ¬ mor g zs len = mor g 0 len := fun h3 => h ((unhide EZ) h3)
            have e1 : ((zs : Int) == 0) = false := by simp; omega
            have e2 : ((mor g zs len : Int) == (mor g 0 len : Int)) = false := by simp; omega
            rw [e1, e2]; rfl
        have HFIN := hide hfin
        clear hfin
        generalize mor g zs len = q1 at *
        generalize mor g 0 len = q2 at *
        go_wp2
        go_ret
        exact ⟨by have := unhide HFIN; simpa using this, (unhide C9).below⟩
end Go.Proofs.Ytbojiafnapcgnab
