/-
  FrameEncodes walked: it answers true. Conditions: the bytes are at most 2^47.
-/
import Derived.Test.YtfdpnfeaagijhaaWFr3

namespace Go.Proofs.Ytfdpnfeaagijhaa
variable {Xo : Outer}
open Go.RowKit
set_option linter.unusedVariables false

def encW (p : List Nat) : List Nat := if p.length ≤ 4096 then fenc p else []
def encG (p : List Nat) : Nat := if p.length ≤ 4096 then 0 else 2
theorem encW_len (p : List Nat) : (encW p).length ≤ 4104 := by
  unfold encW; split
  · rw [fenc_len]; omega
  · simp

section
variable {w : World} {fb : Nat} {a : Option Addr} {cap : Nat} {p : List Nat}
theorem fencode2 (hr : Ready Xo w fb) (hp : LAt w a p) (hn : a = none → cap = 0) (hs : 0 < p.length → ∀ x, a = some x → x.block ≠ fb) :
    Calls Try.prog 16 #[.pointer (some ⟨fb, 2, none⟩), .slice a p.length cap] w fun e w' => ∃ v, e = .returned (.tuple #[v, .int .i64 (encG p : Nat)]) ∧ Row w' v (encW p) ∧ New w v ∧ Fdone Xo w w' fb := by
  by_cases h : p.length ≤ 4096
  · unfold encW encG
    rw [if_pos h, if_pos h]
    exact fencode_any hr hp hn hs h
  · unfold encW encG
    rw [if_neg h, if_neg h]
    refine (fencode_long a p.length cap (by omega)).mono ?_
    rintro e w' ⟨rfl, rfl⟩
    exact ⟨_, rfl, Row.nil _, New.nil _, hr, Touch.refl _ _⟩
end

theorem fresh_copy4 {w w' : World} {v : Value} {l : List Nat} (r : Row w' v l) (t : Touch (fun k => (Value.slice (some ⟨w.heap.size, 0, none⟩) 0 0).ownBlock = some k) (w.alloc (.cells #[] 5)) w') (m : Moved (w.alloc (.cells #[] 5)) (.slice (some ⟨w.heap.size, 0, none⟩) 0 0) v) : Fresh w w' v l := by
  refine ⟨r, fun k hk => ?_, ?_⟩
  · rcases m k hk with e | e
    · simp [Value.ownBlock] at e; omega
    · simp at e; omega
  · exact below_touch ((Below.refl _ w).alloc (Nat.le_refl _) _) t (by simp) (fun k hk => by simp [Value.ownBlock] at hk; omega)
theorem Row.drewN {w : World} {v : Value} {l : List Nat} (h : Row w v l) (n : Nat) : Row (w.drewN n) v l := ⟨h.own, h.bytes⟩
theorem Ready.drewN {w : World} {b : Nat} (m : Ready Xo w b) (n : Nat) : Ready Xo (w.drewN n) b := by
  rcases m with ⟨T, m⟩ | m
  · obtain ⟨cs, h1, h2⟩ := m.ex; exact .inl ⟨T, ⟨cs, h1, h2⟩⟩
  · obtain ⟨cs, h1, h2⟩ := m.ex; exact .inr ⟨cs, h1, h2⟩
/-- Of a row of the call's own a place is stored into: it stays a row, and nothing else turns. -/
theorem Row.put {w : World} {a : Option Addr} {n cap : Nat} {l : List Nat} (h : Row w (.slice a n cap) l) {k : Nat} (hk : k < n) {x : Nat} (hx : x < 256) :
    ∃ g, a = some ⟨g, 0, none⟩ ∧ (∃ y : Nat, w.cell? ⟨g, k, none⟩ = some (.int .u8 (y : Nat))) ∧ w.frozen? ⟨g, k, none⟩ = false ∧ Row (w.setCell ⟨g, k, none⟩ (.int .u8 (x : Nat))) (.slice a n cap) (l.set k x) ∧ Touch (fun i => (Value.slice a n cap).ownBlock = some i) w (w.setCell ⟨g, k, none⟩ (.int .u8 (x : Nat))) := by
  obtain ⟨a', cap', e, h1, _, _, _, _, h2⟩ := h.parts
  cases e
  obtain ⟨g, hg, hf⟩ := h2 k hk
  cases hg
  obtain ⟨b, off, e1, _, e3, _⟩ := h1.cell hk
  cases e1
  rw [Nat.zero_add] at e3
  exact ⟨g, rfl, ⟨_, e3⟩, hf, h.set k hx, (Touch.refl (fun i => (Value.slice (some ⟨g, 0, none⟩) l.length cap).ownBlock = some i) w).setCell (p := ⟨g, k, none⟩) rfl _⟩

end Go.Proofs.Ytfdpnfeaagijhaa
