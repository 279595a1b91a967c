/-
  wal's Rewrite that isn't refused.
-/
import Derived.Test.YtcnmenfianeakacWl7
namespace Go.Proofs.Ytcnmenfianeakac
open Go.RowKit
set_option linter.unusedVariables false

def RwPost (w : World) (wb db : Nat) (S : Nat → Prop) (d : Dk) (s s2 : ByteArray) (ls : List (List Nat)) (e : Ending) (w' : World) : Prop :=
  e = .returned (.int .i64 0) ∧ ∃ S', Wto w w' wb db S S' (reD d s s2 (frames ls)) s ((frames ls).length : Nat) (ls.length : Nat)
section
variable {w : World} {wb db : Nat} {S : Nat → Prop} {d : Dk} {s s2 : ByteArray} {n c : Int} {a : Option Addr} {cap : Nat} {ls : List (List Nat)}
set_option maxRecDepth 100000 in
set_option maxHeartbeats 2000000 in
theorem wrewrite_ok (h : Wl w wb db S d s n c) (hs : s.size ≤ 24) (e2 : s ++ ⟨#[126]⟩ = s2) (hs2 : s2.size ≤ 25) (ok : ReOk d s s2 (frames ls)) (hp : Clear (· = wb) w a ls) (h4 : ∀ p ∈ ls, p.length ≤ 4096) (hl : ls.length ≤ 16777216) :
    Calls Try.prog 10 #[.pointer (some ⟨wb, 0, none⟩), .slice a ls.length cap] w fun e w' => RwPost w wb db S d s s2 ls e w' := by
  have FR := hide (framed_ok w wb a cap ls h.ready hp h4 hl)
  have HW := hide h
  have OK := hide ok
  have hmx := frames_len_le h4
  have hmx' : (frames ls).length ≤ 1099511627776 := by omega
  have hwb := h.ready.lt
  clear h ok hp h4 hmx
  go_enter Try.func10, Try.ntmps10
  go_wp2_with fail
  refine (unhide FR).mono ?_
  rintro e w1 ⟨v1, rfl, g1⟩
  have W1 : Hid (Wl w1 wb db S d s n c) := ⟨g1.done.ready, (unhide HW).disk.keep g1.done.touch (fun k hk e => (unhide HW).ne (e ▸ hk)), (unhide HW).ne⟩
  have T1 := hide g1.done.touch
  obtain ⟨a1, c1, rfl, l1, hc1, _, hn1, ho1, _⟩ := g1.row.parts
  have RP := hide (replace_ok (unhide W1) hs e2 hs2 (unhide OK) l1 hn1 hc1 (fun _ x hx => by
    have := g1.new _ (ho1 x hx)
    exact ⟨fun hk => by have := (unhide HW).disk.lt _ hk; omega, fun e => by omega⟩) hmx')
  clear g1 l1 hc1 hn1 ho1 FR
  go_wp2_with fail
  refine (unhide RP).mono ?_
  rintro e w2 ⟨rfl, S2, k2⟩
  have R2 := hide k2.wl.ready
  obtain ⟨_, _, q2, q3⟩ := (unhide R2).outer
  simp only at q2 q3
  have z2 := (unhide R2).frozen 261
  have z3 := (unhide R2).frozen 262
  have F : Hid (RwPost w wb db S d s s2 ls (.returned (.int .i64 0)) ((w2.setCell ⟨wb, 261, none⟩ (.int .i64 ((frames ls).length : Nat))).setCell ⟨wb, 262, none⟩ (.int .i64 (ls.length : Nat)))) := by
    have ts := (touch_set w2 wb 261 (.int .i64 ((frames ls).length : Nat))).trans (touch_set _ wb 262 (.int .i64 (ls.length : Nat)))
    have k0 : Wto w w1 wb db S S d s n c := ⟨unhide W1, fun _ h => .inl h, (unhide T1).mono (fun _ h => .inr h)⟩
    have k3 := k0.next k2
    exact ⟨rfl, S2, ⟨((unhide R2).setSize _).setCount _, k2.wl.disk.keep ts (fun k hk e => k2.wl.ne (e ▸ hk)), k2.wl.ne⟩, k3.grow, k3.touch.trans (ts.mono (fun _ h => .inr h))⟩
  clear k2 R2 RP W1 OK
  generalize (frames ls).length = L at *
  go_wp2
  go_returns
  exact unhide F
end
end Go.Proofs.Ytcnmenfianeakac
