/-
  wal's Rewrite that isn't refused.
-/
import Derived.Test.YtfdpnfeaagijhaaWl6
import Derived.Test.YtfdpnfeaagijhaaRn5

/-
  wal's replace and Rewrite that aren't refused.
-/
namespace Go.Proofs.Ytfdpnfeaagijhaa
open Go.RowKit
set_option linter.unusedVariables false

/-- What replace makes of the disk. -/
def reD (d : Dk) (s s2 : ByteArray) (t : List Nat) : Dk := rnD (apD (syD (rmD d s2) s) s2 t) s2 s
/-- Nothing refuses it. -/
structure ReOk (d : Dk) (s s2 : ByteArray) (t : List Nat) : Prop where
  rm : findE d.dead d.fs s2 = 0 ∨ findE d.dead d.fs s2 = 4
  room : roomFor (rmD d s2) t.length = true
  some_ : (rmD d s2).fs ≠ []
  alive : (rmD d s2).dead = false
  sync : findE (rmD d s2).dead (rmD d s2).fs s = 0
  app : apE (syD (rmD d s2) s) s2 t.length = 0
  ren : rnE (apD (syD (rmD d s2) s) s2 t) s2 s = 0
def RePost (w : World) (wb db : Nat) (S : Nat → Prop) (d : Dk) (s s2 : ByteArray) (n c : Int) (t : List Nat) (e : Ending) (w' : World) : Prop :=
  e = .returned (.int .i64 0) ∧ ∃ S', Wto w w' wb db S S' (reD d s s2 t) s n c

theorem Wto.next {w w1 w2 : World} {wb db : Nat} {S S1 S2 : Nat → Prop} {d1 d2 : Dk} {s : ByteArray} {n c n1 c1 : Int} (g : Wto w w1 wb db S S1 d1 s n1 c1) (k : Wto w1 w2 wb db S1 S2 d2 s n c) : Wto w w2 wb db S S2 d2 s n c :=
  ⟨k.wl, fun j hj => by rcases k.grow j hj with e | e; exact g.grow j e; exact .inr (Nat.le_trans g.touch.size e), touch_more g.touch k.touch (fun j hj => by
    rcases hj with e | e
    · rcases g.grow j e with e | e
      · exact .inl (.inl e)
      · exact .inr e
    · exact .inl (.inr e))⟩
theorem Wto.idle {w w' : World} {wb db : Nat} {S : Nat → Prop} {d : Dk} {s : ByteArray} {n c : Int} (h : Wl w wb db S d s n c) (t : Touch (fun _ => False) w w') : Wto w w' wb db S S d s n c :=
  ⟨⟨h.ready.keep t (fun h => h), h.disk.keep t (fun _ _ h => h), h.ne⟩, fun _ h => .inl h, t.mono (fun _ h => h.elim)⟩

section
variable {w : World} {wb db : Nat} {S : Nat → Prop} {d : Dk} {s s2 : ByteArray} {n c : Int} {a : Option Addr} {cap : Nat} {t : List Nat}
set_option maxRecDepth 100000 in
set_option maxHeartbeats 4000000 in
theorem replace_ok (h : Wl w wb db S d s n c) (hs : s.size ≤ 24) (e2 : s ++ ⟨#[126]⟩ = s2) (hs2 : s2.size ≤ 25) (ok : ReOk d s s2 t) (hp : LAt w a t) (hnone : a = none → cap = 0) (hcap : t.length ≤ cap) (hap : 0 < t.length → ∀ x, a = some x → ¬ S x.block ∧ x.block ≠ wb) (hl : t.length ≤ 1099511627776) :
    Calls Try.prog 20 #[.pointer (some ⟨wb, 0, none⟩), .slice a t.length cap] w fun e w' => RePost w wb db S d s s2 n c t e w' := by
  have hm : s.size ≤ maxLen := by unfold maxLen; omega
  have hm2 : s2.size ≤ maxLen := by unfold maxLen; omega
  obtain ⟨x0, x1, x2, x3⟩ := h.ready.outer
  simp only at x0 x1 x2 x3
  have A1 := hide (dremove_any (s := s2) h.disk hm2)
  have HW := hide h
  have OK := hide ok
  have HP := hide hp
  have HAP := hide hap
  obtain ⟨E, hE⟩ : ∃ E, E = findE d.dead d.fs s2 := ⟨_, rfl⟩
  have hE2 : E = 0 ∨ E = 4 := by rw [hE]; exact ok.rm
  rw [← hE] at A1
  clear h ok hp hap hE
  go_enter Try.func20, Try.ntmps20
  go_wp2_with fail
  refine (unhide A1).mono ?_
  rintro e w1 ⟨rfl, g1⟩
  obtain ⟨S1, k1⟩ := (unhide HW).went g1
  have K1 := hide k1
  obtain ⟨y0, y1, _, _⟩ := k1.wl.ready.outer
  simp only at y0 y1
  have HR := hasroom_any k1.wl.disk (unhide OK).some_ (unhide OK).alive t.length hl
  rw [(unhide OK).room] at HR
  have HRH := hide HR
  have SY : Hid (∀ w2 wx, Below w1.heap.size w1 w2 → Touch (fun _ => False) w2 wx → Calls Try.prog 25 #[.pointer (some ⟨db, 0, none⟩), .string s] wx fun e w' => e = .returned (.int .i64 0) ∧ Went wx w' db S1 (syD (rmD d s2) s)) := fun w2 wx b t => by
    have := dsync_any (s := s) (((unhide K1).wl.disk.keep (Touch.of_below (S := fun _ => False) b) (fun _ _ h => h)).keep t (fun _ _ h => h)) hm
    rw [(unhide OK).sync] at this
    exact this
  clear k1 HR A1 g1
  rcases hE2 with rfl | rfl
  all_goals
    go_wp2_with fail
    refine (unhide HRH).mono ?_
    rintro e w2 ⟨rfl, b2⟩
    have B2 := hide b2
    have K2 := hide ((unhide K1).next (Wto.idle (unhide K1).wl (Touch.of_below (S := fun _ => False) b2)))
    obtain ⟨z0, z1, _, _⟩ := (unhide K2).wl.ready.outer
    simp only at z0 z1
    clear b2
    go_wp2_with fail
    go_region_with (go_at_call 25; refine (unhide SY w2 _ (unhide B2) (Touch.refl _ _).drew).mono ?_; rintro e w3 ⟨rfl, g3⟩)
    all_goals
      obtain ⟨S3, k3⟩ := (Wto.idle (unhide K2).wl ((Touch.refl _ w2).drew)).wl.went g3
      have K3 := hide ((unhide K2).next ((Wto.idle (unhide K2).wl ((Touch.refl _ w2).drew)).next k3))
      obtain ⟨u0, u1, _, _⟩ := (unhide K3).wl.ready.outer
      simp only at u0 u1
      have AP := dappend_any (s := s2) (cap := cap) (unhide K3).wl.disk hm2 ((unhide HP).keep (unhide K3).touch (fun h0 x hx hk => by
        rcases hk with e | e
        · exact (unhide HAP h0 x hx).1 e
        · exact (unhide HAP h0 x hx).2 e)) hnone hcap (fun h0 x hx hk => by
        rcases (unhide K3).grow _ hk with e | e
        · exact (unhide HAP h0 x hx).1 e
        · have := lat_lt (unhide HP) h0 hx; omega)
      rw [(unhide OK).app] at AP
      have APH := hide AP
      clear AP k3 g3
      go_wp2_with fail
      refine (unhide APH).mono ?_
      rintro e w4 ⟨rfl, g4⟩
      obtain ⟨S4, k4⟩ := (unhide K3).wl.went g4
      have K4 := hide ((unhide K3).next k4)
      obtain ⟨v0, v1, _, _⟩ := (unhide K4).wl.ready.outer
      simp only at v0 v1
      have RN : Hid (∀ wx, Touch (fun _ => False) w4 wx → Calls Try.prog 38 #[.pointer (some ⟨db, 0, none⟩), .string s2, .string s] wx fun e w' => e = .returned (.int .i64 0) ∧ Went wx w' db S4 (reD d s s2 t)) := fun wx tx => by
        have := drename_any (s := s2) (t := s) ((unhide K4).wl.disk.keep tx (fun _ _ h => h)) hm2 hm
        rw [(unhide OK).ren] at this
        exact this
      clear k4 g4 APH
      go_wp2_with fail
      go_region_with (go_at_call 38; refine (unhide RN _ (Touch.refl _ _).drew).mono ?_; rintro e w5 ⟨rfl, g5⟩)
      all_goals
        have F : Hid (RePost w wb db S d s s2 n c t (.returned (.int .i64 0)) w5) := by
          obtain ⟨S5, k5⟩ := (Wto.idle (unhide K4).wl ((Touch.refl _ w4).drew)).wl.went g5
          exact ⟨rfl, S5, (unhide K4).next ((Wto.idle (unhide K4).wl ((Touch.refl _ w4).drew)).next k5)⟩
        clear g5 RN K4 K3 K2
        go_wp2
        go_returns
        exact unhide F
end
end Go.Proofs.Ytfdpnfeaagijhaa


namespace Go.Proofs.Ytfdpnfeaagijhaa
open Go.RowKit
set_option linter.unusedVariables false

def RwPost (w : World) (wb db : Nat) (S : Nat → Prop) (d : Dk) (s s2 : ByteArray) (ls : List (List Nat)) (e : Ending) (w' : World) : Prop :=
  e = .returned (.int .i64 0) ∧ ∃ S', Wto w w' wb db S S' (reD d s s2 (frames ls)) s ((frames ls).length : Nat) (ls.length : Nat)
section
variable {w : World} {wb db : Nat} {S : Nat → Prop} {d : Dk} {s s2 : ByteArray} {n c : Int} {a : Option Addr} {cap : Nat} {ls : List (List Nat)}
set_option maxRecDepth 100000 in
set_option maxHeartbeats 2000000 in
theorem wrewrite_ok (h : Wl w wb db S d s n c) (hs : s.size ≤ 24) (e2 : s ++ ⟨#[126]⟩ = s2) (hs2 : s2.size ≤ 25) (ok : ReOk d s s2 (frames ls)) (hp : Clear (· = wb) w a ls) (h4 : ∀ p ∈ ls, p.length ≤ 4096) (hl : ls.length ≤ 16777216) :
    Calls Try.prog 9 #[.pointer (some ⟨wb, 0, none⟩), .slice a ls.length cap] w fun e w' => RwPost w wb db S d s s2 ls e w' := by
  have FR := hide (framed_ok w wb a cap ls h.ready hp h4 hl)
  have HW := hide h
  have OK := hide ok
  have hmx := frames_len_le h4
  have hmx' : (frames ls).length ≤ 1099511627776 := by omega
  have hwb := h.ready.lt
  clear h ok hp h4 hmx
  go_enter Try.func9, Try.ntmps9
  go_wp2_with fail
  refine (unhide FR).mono ?_
  rintro e w1 ⟨v1, rfl, g1⟩
  have W1 : Hid (Wl w1 wb db S d s n c) := ⟨g1.done.ready, (unhide HW).disk.keep g1.done.touch (fun k hk e => (unhide HW).ne (e ▸ hk)), (unhide HW).ne⟩
  have T1 := hide g1.done.touch
  obtain ⟨a1, c1, rfl, l1, hc1, _, hn1, ho1, _⟩ := g1.row.parts
  have RP := hide (replace_ok (unhide W1) hs e2 hs2 (unhide OK) l1 hn1 hc1 (fun _ x hx => by
    have := g1.new _ (ho1 x hx)
    exact ⟨fun hk => by have := (unhide HW).disk.lt _ hk; omega, fun e => by omega⟩) hmx')
  clear g1 l1 hc1 hn1 ho1 FR
  go_wp2_with fail
  refine (unhide RP).mono ?_
  rintro e w2 ⟨rfl, S2, k2⟩
  have R2 := hide k2.wl.ready
  obtain ⟨_, _, q2, q3⟩ := (unhide R2).outer
  simp only at q2 q3
  have z2 := (unhide R2).frozen 261
  have z3 := (unhide R2).frozen 262
  have F : Hid (RwPost w wb db S d s s2 ls (.returned (.int .i64 0)) ((w2.setCell ⟨wb, 261, none⟩ (.int .i64 ((frames ls).length : Nat))).setCell ⟨wb, 262, none⟩ (.int .i64 (ls.length : Nat)))) := by
    have ts := (touch_set w2 wb 261 (.int .i64 ((frames ls).length : Nat))).trans (touch_set _ wb 262 (.int .i64 (ls.length : Nat)))
    have k0 : Wto w w1 wb db S S d s n c := ⟨unhide W1, fun _ h => .inl h, (unhide T1).mono (fun _ h => .inr h)⟩
    have k3 := k0.next k2
    exact ⟨rfl, S2, ⟨((unhide R2).setSize _).setCount _, k2.wl.disk.keep ts (fun k hk e => k2.wl.ne (e ▸ hk)), k2.wl.ne⟩, k3.grow, k3.touch.trans (ts.mono (fun _ h => .inr h))⟩
  clear k2 R2 RP W1 OK
  generalize (frames ls).length = L at *
  go_wp2
  go_returns
  exact unhide F
end
end Go.Proofs.Ytfdpnfeaagijhaa
