/-
  wire.Encode of any message, in plain words. Conditions: the message as it lies.
-/
import Derived.Test.YtcekleconjmfjaaWq8
namespace Go.Proofs.Ytcekleconjmfjaa
open Go.RowKit
set_option linter.unusedVariables false

theorem wI_len (s : Ws) (ls : List Int) (h : ∀ x ∈ ls, I64 x) : (wX s (encL ls)).1.length ≤ s.1.length + 10 * ls.length := by
  have h1 := wX_len s (encL ls)
  have h2 := encL_len ls h
  omega
theorem wU_len (s : Ws) {n : Nat} (h : n < 18446744073709551616) : (wX s (enc n)).1.length ≤ s.1.length + 10 := by
  have h1 := wX_len s (enc n)
  have h2 := enc_len10 h
  omega
theorem wF_len (s : Ws) (q : Bool) : (wX s [q.toNat]).1.length ≤ s.1.length + 1 := wX_len s [q.toNat]
theorem rest_len {w : World} {m : Mg} (hm : MgIn w m) (s : Ws) (hE : restE m = 0) : (restS s m).1.length ≤ s.1.length + 20000000 := by
  unfold restE at hE
  unfold restS
  by_cases h1 : m.kd = 1
  · rw [if_pos h1] at hE ⊢
    have hc : cntE m.en.length = 0 := Decidable.byContradiction fun h => h ((fst0_hit hE h).symm ▸ rfl)
    have h5 := cnt_ok hc
    unfold raftS
    have a1 := wI_len s _ hm.rf
    have a2 := wF_len (wX s (encL [m.r1, m.r2, m.r3, m.r4, m.r5, m.r6, m.r7])) m.rj
    have a3 := wU_len (wX (wX s (encL [m.r1, m.r2, m.r3, m.r4, m.r5, m.r6, m.r7])) [m.rj.toNat]) (n := m.en.length) (by omega)
    have a4 := foldEn_len m.en (wX (wX (wX s (encL [m.r1, m.r2, m.r3, m.r4, m.r5, m.r6, m.r7])) [m.rj.toNat]) (enc m.en.length)) hm.ein
    have a5 := wB_len (m.en.foldl stepEn (wX (wX (wX s (encL [m.r1, m.r2, m.r3, m.r4, m.r5, m.r6, m.r7])) [m.rj.toNat]) (enc m.en.length))) m.sn
    simp only [List.length_cons, List.length_nil] at a1
    omega
  rw [if_neg h1] at hE ⊢
  by_cases h2 : m.kd = 2
  · rw [if_pos h2]
    have a1 := wI_len s _ hm.fe
    unfold fetchS
    simp only [List.length_cons, List.length_nil] at a1
    omega
  rw [if_neg h2] at hE ⊢
  by_cases h3 : m.kd = 3
  · rw [if_pos h3] at hE ⊢
    have hc : cntE m.gb.length = 0 := Decidable.byContradiction fun h => h ((fst0_hit hE h).symm ▸ rfl)
    have h5 := cnt_ok hc
    unfold fetchedS
    have a1 := wI_len s _ hm.ge
    have a2 := wF_len (wX s (encL [m.g1, m.g2, m.g3, m.g4, m.g5, m.g6, m.g7, m.g8])) m.gd
    have a3 := wU_len (wX (wX s (encL [m.g1, m.g2, m.g3, m.g4, m.g5, m.g6, m.g7, m.g8])) [m.gd.toNat]) (n := m.gb.length) (by omega)
    have a4 := foldBa_len m.gb (wX (wX (wX s (encL [m.g1, m.g2, m.g3, m.g4, m.g5, m.g6, m.g7, m.g8])) [m.gd.toNat]) (enc m.gb.length)) hm.gin
    simp only [List.length_cons, List.length_nil] at a1
    omega
  rw [if_neg h3] at hE ⊢
  by_cases h4 : m.kd = 4
  · rw [if_pos h4]
    have := wB_len s (encC m.c)
    omega
  rw [if_neg h4] at hE ⊢
  have c1 : cntE m.ms.length = 0 := Decidable.byContradiction fun h => h ((fst0_hit hE h).symm ▸ rfl)
  have e1 := fst0_pass hE c1
  have c2 : batE m.B = 0 := Decidable.byContradiction fun h => h ((fst0_hit e1 h).symm ▸ rfl)
  have e2 := fst0_pass e1 c2
  have c3 : cntE m.bs.length = 0 := Decidable.byContradiction fun h => h ((fst0_hit e2 h).symm ▸ rfl)
  have e3 := fst0_pass e2 c3
  have c4 : errs m.bs = 0 := Decidable.byContradiction fun h => h ((fst0_hit e3 h).symm ▸ rfl)
  have e4 := fst0_pass e3 c4
  have c5 : cntE m.ab.length = 0 := Decidable.byContradiction fun h => h ((fst0_hit e4 h).symm ▸ rfl)
  have d1 := cnt_ok c1
  have d3 := cnt_ok c3
  have d5 := cnt_ok c5
  unfold othersS
  have a1 := wI_len s _ hm.ot
  simp only [List.length_cons, List.length_nil] at a1
  generalize wX s (encL [m.o1, m.o2, m.o3, m.o4, m.o5, m.o6, m.o7, m.o8, m.o9]) = s1 at *
  have a2 := wU_len s1 hm.pid
  generalize wX s1 (enc m.pid) = s2 at *
  have a3 := wF_len s2 m.cm
  generalize wX s2 [m.cm.toNat] = s3 at *
  have a4 := wX_len s3 (enc m.ms.length ++ encL m.ms)
  have a4' := encL_len m.ms hm.msf
  have a4'' := enc_len10 (n := m.ms.length) (by omega)
  rw [List.length_append] at a4
  generalize wX s3 (enc m.ms.length ++ encL m.ms) = s4 at *
  have a5 := batS_len s4 m.B
  generalize batS s4 m.B = s5 at *
  have a6 := wU_len s5 (n := m.bs.length) (by omega)
  have a7 := foldBa_len m.bs (wX s5 (enc m.bs.length)) hm.bin
  generalize m.bs.foldl stepBa (wX s5 (enc m.bs.length)) = s6 at *
  have a8 := wU_len s6 (n := m.ab.length) (by omega)
  have a9 := foldAb_len m.ab (wX s6 (enc m.ab.length)) hm.ain
  omega
section
variable {w0 w : World} {N : Nat → Prop} {b : Nat} {s : Ws}
set_option maxHeartbeats 4000000 in
theorem enc1_any {m : Mg} {c mb : Nat} (h : Wq w0 N w b s) (hc : w.heap[c]? = some (.cells #[.pointer (some ⟨b, 0, none⟩)] 77)) (hmb : w.heap[mb]? = some (.cells (mgL m).toArray 41)) (hm : MgIn w0 m) (hl : s.1.length ≤ 1073741824) :
    Calls Try.prog 30 #[.pointer (some ⟨c, 0, none⟩), .pointer (some ⟨mb, 0, none⟩)] w fun e w' => WP w0 N w b (msgE m) (msgS s m) e w' := by
  have KA := hide (msg_w h hm hl)
  have HRG := hide (range_of (o := 0) (ds := mgL m) hmb (fun j v hv => by rw [Nat.zero_add]; exact hv))
  have z0 := cell_of hc 0
  simp at z0
  generalize msgE m = E at *
  generalize msgS s m = s' at *
  clear h hc hmb hm
  by_cases hz : E = 0
  · have HK := hide ((unhide KA).mono (R' := fun e w' => e = .returned (.tuple #[]) ∧ WP w0 N w b E s' e w') (fun e w' h => ⟨(h.2.1 hz).1, h⟩))
    clear KA hz
    go_enter Try.func30, Try.ntmps30
    go_wp2_with (with_reducible (show wpList _ _ _ (Oper.mk _ (Op.load _ _) _ _ _ _ :: _) _ _); refine wpList_load_mid rfl 41 (.tmp 1) rfl mb 0 rfl (mgL m) _ (unhide HRG) Try.underlying41 rfl (info_mg m) ?_)
    refine (unhide HK).mono ?_
    rintro e w4 ⟨rfl, h4⟩
    have F := hide h4
    clear h4
    go_wp2
    go_returns
    exact unhide F
  · have HK := hide ((unhide KA).mono (R' := fun e w' => e = gone E ∧ WP w0 N w b E s' e w') (fun e w' h => ⟨h.2.2 hz, h⟩))
    clear KA hz
    go_enter Try.func30, Try.ntmps30
    go_wp2_with (with_reducible (show wpList _ _ _ (Oper.mk _ (Op.load _ _) _ _ _ _ :: _) _ _); refine wpList_load_mid rfl 41 (.tmp 1) rfl mb 0 rfl (mgL m) _ (unhide HRG) Try.underlying41 rfl (info_mg m) ?_)
    refine (unhide HK).mono ?_
    rintro e w4 ⟨rfl, h4⟩
    have F := hide h4
    clear h4
    go_wp2
    exact ⟨rfl, unhide F⟩
end
/-- What Encode answers. -/
def finE (m : Mg) : Int := if msgE m ≠ 0 then msgE m else if (msgS ([], false) m).2 = true then 2 else 0
def finL (m : Mg) : List Nat := if finE m = 0 then (msgS ([], false) m).1 else []
def EnM (w : World) (E : Int) (L : List Nat) (e : Ending) (w' : World) : Prop := ∃ vo, e = .returned (.tuple #[vo, .int .i64 E]) ∧ Fresh w w' vo L
theorem Wq.wr {w0 w w' : World} {N : Nat → Prop} {b r : Nat} {s : Ws} (h : Wq w0 N w b s) (t : Touch (· = r) w w') (hr : N r) (h0 : w0.heap.size ≤ r) : (∃ v, WrAt w' b v s.1 s.2) ∧ Below w0.heap.size w0 w' := by
  obtain ⟨⟨v, h1, h2⟩, h3, h4, h5, h6⟩ := h
  have hv : WrV w (.pointer (some ⟨b, 0, none⟩)) v s.1 s.2 := .inr ⟨b, rfl, h1⟩
  refine ⟨⟨v, (hv.keep t (fun k hk e => ?_)).at⟩, below_touch h5 t h5.size (fun k hk => by omega)⟩
  subst e
  rcases hk with e | e
  · cases e; exact h3 hr
  · exact h2 _ e hr
end Go.Proofs.Ytcekleconjmfjaa
