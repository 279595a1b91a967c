/-
  disk's Cut of a file that there is.
-/
import Derived.Test.YtkcoeofbobkaoabGreatDoorDk6

namespace Go.Proofs.YtkcoeofbobkaoabGreatDoor
open Go.RowKit
set_option linter.unusedVariables false

def cutF (l : List Ft) (s : ByteArray) (n : Nat) : List Ft :=
  match ftOf l s with
  | some f => swapF l ⟨f.nm, f.text.take n, min f.last n⟩
  | none => l
def cutD (d : Dk) (s : ByteArray) (n : Nat) : Dk := { d with fs := cutF d.fs s n }

section
variable {w : World} {db : Nat} {S : Nat → Prop} {d : Dk} {s : ByteArray}
set_option maxRecDepth 100000 in
theorem dcut_ok (h : Disky w db S d) (hs : s.size ≤ maxLen) (hE : findE d.dead d.fs s = 0) (n : Nat) (hn : n ≤ (rdF d s).text.length) :
    Calls Tryz.prog 90 #[.pointer (some ⟨db, 0, none⟩), .string s, .int .i64 (n : Nat)] w fun e w' => e = .returned (.int .i64 0) ∧ Went w w' db S (cutD d s n) := by
  obtain ⟨⟨mv, fl, h1, h2, h3⟩, hlt⟩ := h
  obtain ⟨fs, armed, fuse, dead⟩ := d
  simp only at h1 h2 hE ⊢
  subst h2
  have FD := hide (find_any h1 hs)
  obtain ⟨rfl, hnm, f, hf, rfl, hfo, hG⟩ := find_zero hE
  have e0 : ftOf (fts fl) f.nm = some f.toFt := by rw [ft_fileOf, hfo]; rfl
  have e1 : cutD ⟨fts fl, armed, fuse, false⟩ f.nm n = ⟨swapF (fts fl) ⟨f.nm, f.text.take n, min f.last n⟩, armed, fuse, false⟩ := by
    unfold cutD cutF
    rw [e0]
  have hn' : n ≤ f.text.length := by
    unfold rdF at hn
    rw [if_pos hE, e0] at hn
    exact hn
  rw [e1]
  rw [hE, hG] at FD
  simp only [ptrV] at FD
  have hat := h1.each f hf
  have hmem : f.toFt ∈ fts fl := List.mem_map.2 ⟨f, hf, rfl⟩
  have hfu : f.text.length ≤ usedF (fts fl) := used_mem hmem
  have hus := h1.used
  obtain ⟨av, cv, ev, _⟩ := hat.row.parts
  have x0 : w.cell? ⟨f.fb, 0, none⟩ = some (.slice av f.text.length cv) := by rw [← ev]; exact hat.cell0
  have c1 : w.cell? ⟨db, 1, none⟩ = some (.int .i64 (usedF (fts fl) : Nat)) := h1.cell 1
  have z1 := h1.frozen 1
  obtain ⟨m, hm⟩ : ∃ m, m = f.text.length - n := ⟨_, rfl⟩
  obtain ⟨u', hu'⟩ : ∃ u', u' = usedF (fts fl) - m := ⟨_, rfl⟩
  have q1 : (f.text.length : Int) - (n : Int) = (m : Int) := by omega
  have q2 : IntKind.i64.wrap (m : Int) = (m : Int) := by simp [IntKind.wrap, IntKind.bits, IntKind.signed]; omega
  have q3 : (usedF (fts fl) : Int) - (m : Int) = (u' : Int) := by omega
  have q4 : IntKind.i64.wrap (u' : Int) = (u' : Int) := by simp [IntKind.wrap, IntKind.bits, IntKind.signed]; omega
  have q5 : ¬ (n : Int) < 0 := by omega
  have q6 : ¬ (f.text.length : Int) < (n : Int) := by omega
  have t1 : Touch (· = db) w (w.setCell ⟨db, 1, none⟩ (.int .i64 (u' : Int))).drew := (touch_set w db 1 _).drew
  have hh1 : (w.setCell ⟨db, 1, none⟩ (.int .i64 (u' : Int))).drew.heap[db]? = some (.cells #[mv, .int .i64 (u' : Int), .bool armed, .int .i64 fuse, .bool false] 58) := heap_set h1.heap 1 _
  have U1 := hide (h1.toDiskU.self t1 hh1)
  have KP := hide (keep_any ((unhide U1).each f hf) n hn' (by omega))
  have FI : Hid (∀ w', KeptTo (w.setCell ⟨db, 1, none⟩ (.int .i64 (u' : Int))).drew w' f (f.text.take n) (min f.last n) → Went w w' db S ⟨swapF (fts fl) ⟨f.nm, f.text.take n, min f.last n⟩, armed, fuse, false⟩) := by
    rintro w' ⟨f', to4, et, el⟩
    have ef : f'.toFt = ⟨f.nm, f.text.take n, min f.last n⟩ := by
      have h1 := to4.nm
      obtain ⟨⟨a, b, c⟩, fb, v⟩ := f'
      simp only at h1 et el ⊢
      rw [h1, et, el]
    have hne := h1.db_ne hf
    have hu2 : usedF (fts (swap fl f')) = u' := by
      have := used_swapF (f' := f'.toFt) (apart_names h1.apart) hmem to4.nm
      rw [fts_swap]
      rw [ef] at this ⊢
      simp only [List.length_take] at this
      omega
    refine Went.mk' (mv := mv) (fl := fl) (mv' := mv) (fl' := swap fl f') h3 ⟨(unhide U1).change hf to4.nm to4.fb to4.at_ (to4.touch.mono (fun k hk => .inr (.inl hk))) to4.row ?_, ?_, ?_, h1.lo, h1.hi, h1.arm⟩ ?_ ?_ ?_
    · rw [hu2]; exact to4.touch.keep hh1 (fun e => hne e.symm)
    · rw [hu2]; omega
    · rw [swap_len]; exact h1.few
    · rw [fts_swap, ef]
    · exact touch_more (t1.mono (fun k hk => .inl hk)) to4.touch (fun k hk => .inl (.inr (.inr ⟨f, hf, .inl hk⟩)))
    · exact fun k hk => owns_swap (f' := f') h1.apart hf to4.nm to4.fb (fun k hk => (to4.row k hk).imp id (fun e => Nat.le_trans t1.size e)) k hk
  clear h1 hat ev e1 e0 hE hG hfo hlt hm hu' U1 t1 hh1 hn hn' hus hfu hmem
  go_enter Tryz.func90, Tryz.ntmps90
  go_wp2_with fail
  refine (unhide FD).mono ?_
  rintro e w1 ⟨rfl, rfl⟩
  go_wp2_with fail
  go_region
  all_goals
    generalize (w1.setCell ⟨db, 1, none⟩ (.int .i64 (u' : Int))).drew = w2 at *
    go_wp2_with fail
    refine (unhide KP).mono ?_
    rintro e w3 ⟨rfl, k3⟩
    have G := hide (unhide FI w3 k3)
    clear k3
    go_wp2
    go_returns
    exact ⟨rfl, unhide G⟩
end
end Go.Proofs.YtkcoeofbobkaoabGreatDoor
