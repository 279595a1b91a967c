/-
  net's Send. Conditions: the net is one, and so is the packet.
-/
import Derived.Test.YtgpfkedihgoohaaNt3
namespace Go.Proofs.Ytgpfkedihgoohaa
open Go.RowKit
set_option linter.unusedVariables false

theorem NetAt.apart {w : World} {nb : Nat} {v : Value} {cm : Option Nat} {ps : List Pk} {D : Cts} (h : NetAt w nb v cm ps D) : (∀ p ∈ ps, (pkS p).ownBlock ≠ some nb) ∧ v.ownBlock ≠ some nb ∧ (∀ m, cm = some m → m ≠ nb ∧ v.ownBlock ≠ some m ∧ ∀ p ∈ ps, (pkS p).ownBlock ≠ some m) := by
  refine ⟨fun p hp e => ?_, fun e => ?_, fun m hm => ?_⟩
  · obtain ⟨c2, h2⟩ := (h.list.each p hp).row.heap e
    rw [h.box] at h2
    exact absurd (Obj.cells.inj (Option.some.inj h2)).2.1 (by decide)
  · obtain ⟨c2, h2⟩ := h.list.row.heap e
    rw [h.box] at h2
    exact absurd (Obj.cells.inj (Option.some.inj h2)).2.1 (by decide)
  · have hc := h.cuts
    rw [hm] at hc
    obtain ⟨es, clock, hb⟩ := CM.block hc
    refine ⟨fun e => ?_, fun e => ?_, fun p hp e => ?_⟩
    · rw [e, h.box] at hb; cases hb
    · obtain ⟨c2, h2⟩ := h.list.row.heap e
      rw [hb] at h2; cases h2
    · obtain ⟨c2, h2⟩ := (h.list.each p hp).row.heap e
      rw [hb] at h2; cases h2
/-- Behind add of a packet of its own. -/
theorem send_post {w w2 w3 : World} {nb : Nat} {v : Value} {cm : Option Nat} {ps : List Pk} {D : Cts} {R : Nat → Prop} {q : Pa} {p' : Pk} (h : NetAt w nb v cm ps D) (hR : ∀ k, NB nb v cm ps k → R k) (ho : p'.abs = q) (hp : PRow w2 p') (hn : ∀ k, (pkS p').ownBlock = some k → w.heap.size ≤ k) (hb : Below w.heap.size w w2)
    (ha : AdPost w2 nb v (ps.flatMap pkC) ps.length p' [.map cm] 56 (.returned (.tuple #[])) w3) : NPost w nb R (ps.map Pk.abs ++ [q]) D w3 := by
  obtain ⟨_, v', h1, h2, h3, h4⟩ := ha
  obtain ⟨a1, a2, a3⟩ := h.apart
  have hnb := lt_of_heap h.box
  have hvl := h.list.row.lt
  have L2 := h.list.later hb
  have C2 := h.cuts.keep (Touch.of_below (S := fun _ => False) hb) (fun _ _ h => h)
  have hT : Touch (NB nb v cm ps) w w3 := (Touch.of_below hb).trans (h3.mono (fun k hk => hk.elim (fun e => .inl e) (fun e => .inr (.inr (.inl e)))))
  refine NPost.of (ps' := ps ++ [p']) hR ⟨h1, ⟨?_, fun p hp' => ?_⟩, C2.keep h3 (fun m hm hk => ?_)⟩ (by simp [ho]) hT (fun k hk => ?_)
  · rw [List.length_append, List.length_singleton, List.flatMap_append, List.flatMap_cons, List.flatMap_nil, List.append_nil]
    exact h2
  · rcases List.mem_append.1 hp' with e | e
    · refine (L2.each p e).keep h3 (fun k hk hS => ?_)
      rcases hS with rfl | hS
      · exact a1 p e hk
      · exact h.list.apart hS p e hk
    · obtain rfl := List.mem_singleton.1 e
      refine hp.keep h3 (fun k hk hS => ?_)
      have := hn k hk
      rcases hS with rfl | hS
      · omega
      · have := hvl k hS
        omega
  · obtain ⟨b1, b2, b3⟩ := a3 m hm
    exact hk.elim b1 b2
  · rcases hk with rfl | hk | hk | ⟨p, hp', hk⟩
    · exact .inl (.inl rfl)
    · exact .inl (.inr (.inl hk))
    · rcases h4 k hk with e | e
      · exact .inl (.inr (.inr (.inl e)))
      · exact .inr (Nat.le_trans hb.size e)
    · rcases List.mem_append.1 hp' with e | e
      · exact .inl (.inr (.inr (.inr ⟨p, e, hk⟩)))
      · obtain rfl := List.mem_singleton.1 e
        exact .inr (hn k hk)

theorem send_nil (p : Pk) (w : World) : Calls Try.prog 12 #[.pointer none, pkV p] w fun e w' => e = .returned (.bool false) ∧ Below w.heap.size w w' := by
  obtain ⟨fr, to, a, c, l⟩ := p
  go_enter Try.func12, Try.ntmps12
  go_wp2
  go_returns
  exact ⟨rfl, (Below.refl _ _).alloc (Nat.le_refl _) _⟩
def sendE (qs : List Pa) (q : Pa) : List Pa := if qs.length < 256 then qs ++ [q] else qs
def SendPost (w : World) (nb : Nat) (R : Nat → Prop) (qs : List Pa) (D : Cts) (q : Pa) (e : Ending) (w' : World) : Prop := e = .returned (.bool (decide (qs.length < 256))) ∧ NPost w nb R (sendE qs q) D w'
set_option maxRecDepth 100000 in
set_option maxHeartbeats 1000000 in
theorem send_any {w : World} {nb : Nat} {R : Nat → Prop} {qs : List Pa} {D : Cts} (h : NS w nb R qs D) {p : Pk} (hp : PIn w p) :
    Calls Try.prog 12 #[.pointer (some ⟨nb, 0, none⟩), pkV p] w fun e w' => SendPost w nb R qs D p.abs e w' := by
  have hA : Below w.heap.size w (w.alloc (.cells #[.int .i64 p.fr, .int .i64 p.to, .slice p.a p.l.length p.c] 33)) := (Below.refl _ _).alloc (Nat.le_refl _) _
  have HNS := hide (h.later hA)
  obtain ⟨v, cm, ps, h1, rfl, h3⟩ := h.ex
  have N1 : NetAt (w.alloc (.cells #[.int .i64 p.fr, .int .i64 p.to, .slice p.a p.l.length p.c] 33)) nb v cm ps D := h1.keep (Touch.of_below (S := fun _ => False) hA) (fun _ _ h => h)
  have P1 : Hid (PIn (w.alloc (.cells #[.int .i64 p.fr, .int .i64 p.to, .slice p.a p.l.length p.c] 33)) p) := hp.later hA
  have G : (w.alloc (.cells #[.int .i64 p.fr, .int .i64 p.to, .slice p.a p.l.length p.c] 33)).heap[w.heap.size]? = some (.cells #[.int .i64 p.fr, .int .i64 p.to, .slice p.a p.l.length p.c] 33) := heap_new _ _
  have k0 : (w.alloc (.cells #[.int .i64 p.fr, .int .i64 p.to, .slice p.a p.l.length p.c] 33)).cell? ⟨w.heap.size, 0, none⟩ = some (.int .i64 p.fr) := by rw [cell_of G]; rfl
  have k1 : (w.alloc (.cells #[.int .i64 p.fr, .int .i64 p.to, .slice p.a p.l.length p.c] 33)).cell? ⟨w.heap.size, 1, none⟩ = some (.int .i64 p.to) := by rw [cell_of G]; rfl
  have k2 : (w.alloc (.cells #[.int .i64 p.fr, .int .i64 p.to, .slice p.a p.l.length p.c] 33)).cell? ⟨w.heap.size, 2, none⟩ = some (.slice p.a p.l.length p.c) := by rw [cell_of G]; rfl
  obtain ⟨av, cv, hv, c0, hl, hm⟩ := N1.cell
  have CK := hide (count_any c0)
  have HN := hide N1
  have HA := hide hA
  have HR := hide h3
  clear G N1 c0 hA hp h1 h
  subst hv
  have KO : Hid (∀ X, Below (w.alloc (.cells #[.int .i64 p.fr, .int .i64 p.to, .slice p.a p.l.length p.c] 33)).heap.size (w.alloc (.cells #[.int .i64 p.fr, .int .i64 p.to, .slice p.a p.l.length p.c] 33)) X → Calls Try.prog 28 #[pkV p] X fun e w' => OwnPost X p.abs e w') := fun X hX => own11_any ((unhide P1).later hX)
  by_cases hn : ps.length < 256
  · have KA : Hid (∀ X p', Below (w.alloc (.cells #[.int .i64 p.fr, .int .i64 p.to, .slice p.a p.l.length p.c] 33)).heap.size (w.alloc (.cells #[.int .i64 p.fr, .int .i64 p.to, .slice p.a p.l.length p.c] 33)) X → Calls Try.prog 27 #[.pointer (some ⟨nb, 0, none⟩), pkV p'] X fun e w' => AdPost X nb (.slice av ps.length cv) (ps.flatMap pkC) ps.length p' [.map cm] 56 e w') := fun X p' hX =>
      add_any (us := [.map cm]) (below_keep hX (unhide HN).box) ((unhide HN).list.row.later hX) (by decide) hn p'
    have F : Hid (∀ w2 w3 p', p'.abs = p.abs → PRow w2 p' → (∀ k, (pkS p').ownBlock = some k → (w.alloc (.cells #[.int .i64 p.fr, .int .i64 p.to, .slice p.a p.l.length p.c] 33)).heap.size ≤ k) → Below (w.alloc (.cells #[.int .i64 p.fr, .int .i64 p.to, .slice p.a p.l.length p.c] 33)).heap.size (w.alloc (.cells #[.int .i64 p.fr, .int .i64 p.to, .slice p.a p.l.length p.c] 33)) w2 →
        AdPost w2 nb (.slice av ps.length cv) (ps.flatMap pkC) ps.length p' [.map cm] 56 (.returned (.tuple #[])) w3 → SendPost w nb R (ps.map Pk.abs) D p.abs (.returned (.bool true)) w3) := fun w2 w3 p' e1 e2 e3 e4 e5 => by
      refine ⟨by simp [hn], ?_⟩
      unfold sendE
      rw [List.length_map, if_pos hn]
      exact (send_post (unhide HN) (unhide HR) e1 e2 e3 e4 e5).after (unhide HA)
    have hn' : ¬ (256 : Int) ≤ (ps.length : Int) := by omega
    clear HNS P1 HN HR HA
    obtain ⟨fr, to, a, c, l⟩ := p
    simp only [pkV, pkS] at KO ⊢
    generalize l.length = m at *
    generalize ps.length = n at *
    go_enter Try.func12, Try.ntmps12
    go_wp2_with fail
    generalize w.alloc (.cells #[.int .i64 fr, .int .i64 to, .slice a m c] 33) = W at *
    refine (unhide CK).mono ?_
    rintro e w1 ⟨rfl, rfl⟩
    clear CK
    go_wp2_with fail
    go_region_with (first
      | (go_at_call 27; refine (unhide KA _ p' (by first | exact unhide B2 | exact (unhide B2).drew)).mono ?_; rintro e w3 h3; have F3 := hide (unhide F _ w3 p' ho hpr hpn (by first | exact unhide B2 | exact (unhide B2).drew) (by obtain ⟨rfl, _⟩ := id h3; exact h3)); obtain ⟨rfl, _⟩ := h3)
      | (go_at_call 28; refine (unhide KO _ (by first | exact Below.refl _ _ | exact (Below.refl _ _).drew)).mono ?_; rintro e w2 ⟨p', rfl, ho, hpr, hpn, b2⟩; have B2 : Hid (Below w1.heap.size w1 w2) := ⟨b2.os, b2.tape, b2.output, b2.size, fun k hk => b2.block k hk⟩))
    all_goals
      clear KO KA F hpr hpn ho B2
      go_wp2
      go_returns
      exact unhide F3
  · have F : Hid (SendPost w nb R (ps.map Pk.abs) D p.abs (.returned (.bool false)) (w.alloc (.cells #[.int .i64 p.fr, .int .i64 p.to, .slice p.a p.l.length p.c] 33))) := by
      refine ⟨by simp [hn], ?_⟩
      unfold sendE
      rw [List.length_map, if_neg hn]
      exact ⟨R, unhide HNS, Touch.of_below (unhide HA), fun k hk => .inl hk⟩
    have hn' : (256 : Int) ≤ (ps.length : Int) := by omega
    clear HNS P1 HN HR HA KO
    obtain ⟨fr, to, a, c, l⟩ := p
    simp only [pkV, pkS] at F ⊢
    generalize l.length = m at *
    generalize ps.length = n at *
    go_enter Try.func12, Try.ntmps12
    go_wp2_with fail
    generalize w.alloc (.cells #[.int .i64 fr, .int .i64 to, .slice a m c] 33) = W at *
    refine (unhide CK).mono ?_
    rintro e w1 ⟨rfl, rfl⟩
    clear CK
    go_wp2
    go_returns
    exact unhide F
end Go.Proofs.Ytgpfkedihgoohaa
