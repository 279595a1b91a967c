/-
  CrcTogether returns true, whatever its arguments, and writes nothing that was there: by the table's and the helpers' contracts. Conditions: the bytes are at most 2^47 - 4096 (the row's own reach).
-/
import Derived.Test.YtbojiafnapcgnabCrcStep
import Derived.Deep.RegionHeld3
namespace Go.Proofs.Ytbojiafnapcgnab
open Go.RowKit

set_option maxRecDepth 100000 in
set_option maxHeartbeats 4000000 in
theorem crcTogether_walk (a : Option Addr) (len cap : Nat) (x y : Int) (g : Nat → Nat) (w : World) (_hx0 : 0 ≤ x) (_hx : x < 256) (_hy0 : 0 ≤ y) (_hy : y < 256) (hg : BytesAt w a len g) (hlen : len ≤ 140737488351232) :
    Calls Try.prog 7 #[.slice a len cap, .int .u8 x, .int .u8 y] w fun e w' => e = .returned (.bool true) ∧ Below w.heap.size w w' := by
  have G := hide hg
  clear hg
  go_enter Try.func7, Try.ntmps7
  go_wp2_with fail
  refine (tnew_any w).mono ?_
  rintro e w1 ⟨rfl, h1, b1⟩
  have C1 := hide (Cx.mk h1 b1)
  clear h1 b1
  go_wp2_with fail
  refine (own_step w w1 a len cap g (unhide C1) (unhide G) hlen).mono ?_
  rintro e w2 ⟨rfl, c, o, _⟩
  have C2 := hide c
  have A2 := hide o
  have la : w.heap.size < w1.heap.size := (unhide C1).lt
  clear c o C1
  have hab : w1.heap.size < w2.heap.size := (unhide A2).lt
  generalize w1.heap.size = ab at *
  go_wp2_with fail
  refine (own_step w w2 a len cap g (unhide C2) (unhide G) hlen).mono ?_
  rintro e w3 ⟨rfl, c, o, st⟩
  have C3 := hide c
  have A3 := hide (st _ _ _ la (unhide A2))
  have D3 := hide o
  clear c o C2 st A2
  have hcb : w2.heap.size < w3.heap.size := (unhide D3).lt
  generalize w2.heap.size = cb at *
  go_wp2_with fail
  refine (own_step w w3 a len cap g (unhide C3) (unhide G) hlen).mono ?_
  rintro e w4 ⟨rfl, c, o, st⟩
  have C4 := hide c
  have A4 := hide (st _ _ _ la (unhide A3))
  have D4 := hide (st _ _ _ (by omega) (unhide D3))
  have E4 := hide o
  clear c o C3 st A3 D3
  generalize w3.heap.size = db at *
  go_wp2_with fail
  go_loopw [11] (fun i wr => ∃ (k : Nat) (fa fc fd : Nat → Nat), k ≤ len ∧ i = .int .i64 k ∧ OwnAt wr ab len fa ∧ OwnAt wr cb len fc ∧ OwnAt wr db len fd ∧ Cx w wr ∧ ∀ j, j < k → fd j = (fa j ^^^ g j) ^^^ fc j) (fun i _ => len - (intOf i).toNat)
  case atStart => exact ⟨0, g, g, g, Nat.zero_le _, rfl, unhide A4, unhide D4, unhide E4, unhide C4, fun j hj => by omega⟩
  case round =>
    obtain ⟨k, fa, fc, fd, hk, rfl, oa, oc, od, hc, hf⟩ := hrel
    have OA := hide oa
    have OC := hide oc
    have OD := hide od
    have HC := hide hc
    have HF := hide hf
    clear oa oc od hc hf A4 D4 E4 C4
    by_cases hlt : k < len
    · obtain ⟨b, off, rfl, hbz, hc0, hgk⟩ := (unhide G) k hlt
      have r0 := ((unhide HC).below.cell (p := ⟨b, off + k, none⟩) hbz).trans hc0
      have z1 := (unhide OA).cell hlt
      have z2 := (unhide OA).frozen k
      have z3 := (unhide OC).cell hlt
      have z4 := (unhide OC).frozen k
      have hkl : (k : Int) < (len : Int) := by omega
      obtain ⟨α, hα, lα⟩ : ∃ α : Nat, ((g k : Int) * x + (k : Int)) % 256 = (α : Int) ∧ α < 256 := by
        generalize (g k : Int) * x + (k : Int) = t
        exact ⟨(t % 256).toNat, by omega, by omega⟩
      obtain ⟨β, hβ, lβ⟩ : ∃ β : Nat, y * (((k : Int) + 3) % 256) % 256 = (β : Int) ∧ β < 256 := by
        generalize y * (((k : Int) + 3) % 256) = t
        exact ⟨(t % 256).toNat, by omega, by omega⟩
      obtain ⟨γ, hγ, lγ⟩ : ∃ γ : Nat, bits BinOp.xor IntKind.u8 (g k : Int) (β : Int) = (γ : Int) ∧ γ < 256 := ⟨_, u8_xor_nat (g k) β hgk lβ, Nat.xor_lt_two_pow (n := 8) hgk lβ⟩
      obtain ⟨ε, hε, eε⟩ : ∃ ε : Nat, bits BinOp.xor IntKind.u8 (α : Int) (g k : Int) = (ε : Int) ∧ Hid (ε = α ^^^ g k) := ⟨_, u8_xor_nat α (g k) lα hgk, rfl⟩
      have lε : ε < 256 := by rw [unhide eε]; exact Nat.xor_lt_two_pow (n := 8) lα hgk
      obtain ⟨δ, hδ, eδ⟩ : ∃ δ : Nat, bits BinOp.xor IntKind.u8 (ε : Int) (γ : Int) = (δ : Int) ∧ Hid (δ = ε ^^^ γ) := ⟨_, u8_xor_nat ε γ lε lγ, rfl⟩
      have lδ : δ < 256 := by rw [unhide eδ]; exact Nat.xor_lt_two_pow (n := 8) lε lγ
      clear hc0
      go_wp2_with fail
      have cx5 : Cx w ((wr.setCell ⟨ab, k, none⟩ (.int .u8 α)).setCell ⟨cb, k, none⟩ (.int .u8 γ)) :=
        ⟨((unhide HC).ready.keep (touch_set wr ab k (.int .u8 α)) (by omega)).keep (touch_set _ cb k (.int .u8 γ)) (by omega), ((unhide HC).below.setCell (p := ⟨ab, k, none⟩) (by show w.heap.size ≤ ab; omega) _).setCell (p := ⟨cb, k, none⟩) (by show w.heap.size ≤ cb; omega) _⟩
      have oa5 := ((unhide OA).set hlt lα).keep (touch_set _ cb k (.int .u8 γ)) (by omega)
      have oc5 := ((unhide OC).keep (touch_set wr ab k (.int .u8 α)) (by omega)).set hlt lγ
      have od5 := ((unhide OD).keep (touch_set wr ab k (.int .u8 α)) (by omega)).keep (touch_set _ cb k (.int .u8 γ)) (by omega)
      have q0 := (cx5.below.cell (p := ⟨b, off + k, none⟩) hbz).trans (((unhide HC).below.cell (p := ⟨b, off + k, none⟩) hbz).symm.trans r0)
      have q1 : ((wr.setCell ⟨ab, k, none⟩ (.int .u8 α)).setCell ⟨cb, k, none⟩ (.int .u8 γ)).cell? ⟨ab, k, none⟩ = some (.int .u8 α) := by have := oa5.cell hlt; unfold upn at this; rwa [if_pos rfl] at this
      have q2 : ((wr.setCell ⟨ab, k, none⟩ (.int .u8 α)).setCell ⟨cb, k, none⟩ (.int .u8 γ)).cell? ⟨cb, k, none⟩ = some (.int .u8 γ) := by have := oc5.cell hlt; unfold upn at this; rwa [if_pos rfl] at this
      have q3 := od5.cell hlt
      have q4 := od5.frozen k
      generalize (wr.setCell ⟨ab, k, none⟩ (.int .u8 α)).setCell ⟨cb, k, none⟩ (.int .u8 γ) = w5 at *
      have C5 := hide cx5
      have OA5 := hide oa5
      have OC5 := hide oc5
      have OD5 := hide od5
      clear cx5 oa5 oc5 od5 z1 z2 z3 z4 r0 hα hβ hγ OA OC OD HC
      have t6 : Touch (· = db) w5 (w5.setCell ⟨db, k, none⟩ (.int .u8 δ)).drew := (touch_set w5 db k (.int .u8 δ)).drew
      have OA6 := hide ((unhide OA5).keep t6 (by omega))
      have OC6 := hide ((unhide OC5).keep t6 (by omega))
      have od6 : OwnAt (w5.setCell ⟨db, k, none⟩ (.int .u8 δ)).drew db len (upn fd k δ) := (unhide OD5).set hlt lδ
      have OD6 := hide od6
      have C6 := hide (Cx.mk ((unhide C5).ready.keep t6 (by omega)) (below_touch (unhide C5).below t6 (unhide C5).below.size (fun j hj => by omega)))
      clear t6 od6 OA5 OC5 OD5 C5
      go_region
      all_goals
        go_wp2
        go_roundw
        case rel => exact ⟨k + 1, _, _, _, by omega, by go_num, unhide OA6, unhide OC6, unhide OD6, unhide C6, fun j hj => by
          unfold upn
          by_cases e : j = k
          · subst e; rw [if_pos rfl, if_pos rfl, if_pos rfl, unhide eδ, unhide eε]
          · rw [if_neg e, if_neg e, if_neg e]; exact (unhide HF) j (by omega)⟩
        case measure => simp [intOf]; omega
    · obtain rfl : k = len := by omega
      have EM := hide (mor_together fa g fc fd k (unhide HF))
      have ma := mor_lt fa 0 k
      have mg := mor_lt g 0 k
      have mc := mor_lt fc 0 k
      clear HF
      go_wp2_with fail
      refine (awake_step w _ (unhide HC)).mono ?_
      rintro e x1 ⟨rfl, c, st⟩
      have C1 := hide c
      have OA1 := hide (st _ _ _ (by omega) (unhide OA))
      have OC1 := hide (st _ _ _ (by omega) (unhide OC))
      have OD1 := hide (st _ _ _ (by omega) (unhide OD))
      clear c st OA OC OD HC
      go_wp2_with fail
      refine (sum_step w _ db k (k + 9) fd (unhide C1) (unhide OD1) (by omega) (by omega)).mono ?_
      rintro e x2 ⟨rfl, c, st⟩
      have C2 := hide c
      have OA2 := hide (st _ _ _ (by omega) (unhide OA1))
      have OC2 := hide (st _ _ _ (by omega) (unhide OC1))
      clear c st OA1 OC1 OD1 C1
      go_wp2_with fail
      refine (sum_step w _ ab k (k + 9) fa (unhide C2) (unhide OA2) (by omega) (by omega)).mono ?_
      rintro e x3 ⟨rfl, c, st⟩
      have C3 := hide c
      have OC3 := hide (st _ _ _ (by omega) (unhide OC2))
      clear c st OA2 OC2 C2
      go_wp2_with fail
      refine (own_step w _ a k cap g (unhide C3) (unhide G) hlen).mono ?_
      rintro e x4 ⟨rfl, c, o, st⟩
      have C4 := hide c
      have OB4 := hide o
      have lb4 := (unhide C3).lt
      have OC4 := hide (st _ _ _ (by omega) (unhide OC3))
      clear c o st OC3 C3
      go_wp2_with fail
      refine (sum_step w _ x3.heap.size k (k + 9) g (unhide C4) (unhide OB4) lb4 (by omega)).mono ?_
      rintro e x5 ⟨rfl, c, st⟩
      have C5 := hide c
      have OC5 := hide (st _ _ _ (by omega) (unhide OC4))
      clear c st OC4 C4 OB4
      go_wp2_with fail
      refine (sum_step w _ cb k (k + 9) fc (unhide C5) (unhide OC5) (by omega) (by omega)).mono ?_
      rintro e x6 ⟨rfl, c, st⟩
      have C6 := hide c
      clear c st OC5 C5
      have h1 := u32_xor_nat _ _ ma mg
      have h2 := u32_xor_nat _ _ (xlt ma mg) mc
      rw [← unhide EM] at h2
      go_wp2
      go_ret
      exact ⟨by simp, (unhide C6).below⟩
end Go.Proofs.Ytbojiafnapcgnab
