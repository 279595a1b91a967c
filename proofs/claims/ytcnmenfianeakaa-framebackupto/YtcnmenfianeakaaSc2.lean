/-
  Lists of payloads: cut at their end; kept while others are written; joined by the document's frames. Conditions: the payloads are at most 2^24.
-/
import Derived.Test.YtcnmenfianeakaaSc1
namespace Go.Proofs.Ytcnmenfianeakaa
open Go.RowKit
set_option linter.unusedVariables false

theorem slice_hl (a : Option Addr) (len cap k : Nat) (hk : k ≤ cap) (w : World) : (Instr.slice 25 (.slice a len cap) none (some (.int .i64 (k : Int))) none).run Try.prog w = .ok (.slice a k cap) w := by
  have hel : Try.prog.underlying 25 = some (.slice (Try.prog.elem 25)) := by kernel_rfl
  have hsz : ∀ w, (sizeOf (Try.prog.elem 25)).run Try.prog w = .ok 1 w := fun _ => by kernel_rfl
  rw [run_slice_h w 25 a len cap hel .i64 (k : Int) (by omega) (by omega), hsz]
  have e : ∀ a : Option Addr, a.map (fun x => x.add 0) = a := fun a => by cases a <;> simp [Addr.add]
  simp [Result.andThen, sliced, e]

theorem Paid.keep {w0 w w' : World} {v : Value} {ls : List (List Nat)} {S : Nat → Prop} (h : Paid w0 w v ls) (hn : New w0 v) (t : Touch S w w') (hs : ∀ k, S k → k < w0.heap.size) : Paid w0 w' v ls := by
  obtain ⟨vs, h⟩ := h
  exact ⟨vs, (h.keep t (fun k hk e => by have := hn k hk; have := hs k e; omega)).imp (fun u l hu => ⟨hu.1.keep t (fun k hk e => by have := hu.2 k hk; have := hs k e; omega), hu.2⟩)⟩

theorem getD_take_l {ls : List (List Nat)} {k i : Nat} (h : i < k) : (ls.take k).getD i [] = ls.getD i [] := by simp [List.getD, h]
theorem mem_take_le {ls : List (List Nat)} {k : Nat} (h : ∀ i, i < k → (ls.getD i []).length ≤ 4096) (hk : k ≤ ls.length) : ∀ p ∈ ls.take k, p.length ≤ 4096 := by
  intro p hp
  obtain ⟨i, hi, rfl⟩ := List.getElem_of_mem hp
  rw [List.length_take] at hi
  have := h i (by omega)
  simp [List.getD, show i < ls.length by omega] at this
  simpa using this

/-- What join answers. -/
def Joined (w w' : World) (ls : List (List Nat)) (v : Value) (q : Bool) : Prop := ((∀ p ∈ ls, p.length ≤ 4096) ∧ q = true ∧ Fresh w w' v (frames ls)) ∨ ((¬ ∀ p ∈ ls, p.length ≤ 4096) ∧ q = false ∧ v = .slice none 0 0 ∧ Below w.heap.size w w')
def JoinPost (w : World) (ls : List (List Nat)) (e : Ending) (w' : World) : Prop := ∃ v q, e = .returned (.tuple #[v, .bool q]) ∧ Joined w w' ls v q

set_option maxRecDepth 100000 in
set_option maxHeartbeats 4000000 in
theorem join_any (w : World) (a : Option Addr) (cap : Nat) (ls : List (List Nat)) (hp : RAt w a ls) (hl : ls.length ≤ 16777216) :
    Calls Try.prog 15 #[.slice a ls.length cap] w fun e w' => JoinPost w ls e w' := by
  have HP := hide hp
  clear hp
  go_enter Try.func15, Try.ntmps15
  go_wp2_with fail
  go_loopw [4, 11] (fun pv pl wr => ∃ (v1 : Value) (k : Nat), v1 = pv ∧ k ≤ ls.length ∧ pl = .int .i64 k ∧ (∀ i, i < k → (ls.getD i []).length ≤ 4096) ∧ Fresh w wr v1 (frames (ls.take k))) (fun _ pl _ => ls.length - (intOf pl).toNat)
  case atStart => exact ⟨_, 0, rfl, Nat.zero_le _, rfl, (fun i hi => by omega), Row.nil _, New.nil _, Below.refl _ _⟩
  case round =>
    obtain ⟨v1, k, rfl, hk, rfl, hall, hfr⟩ := hrel
    have HALL := hide hall
    have HFR := hide hfr
    clear hall hfr
    by_cases hkc : k < ls.length
    · have hkc' : (k : Int) < (ls.length : Int) := by omega
      obtain ⟨b, off, x, c, rfl, _, hcell, lx, hnx⟩ := ((unhide HP).later (unhide HFR).2.2).cell hkc
      have ET := hide (frames_take_succ hkc)
      by_cases h4 : (ls.getD k []).length ≤ 4096
      · have EN := hide (docenc_any (cap := c) lx hnx h4)
        have HA2 : Hid (∀ i, i < k + 1 → (ls.getD i []).length ≤ 4096) := fun i hi => by
          by_cases e : i = k
          · rw [e]; exact h4
          · exact unhide HALL i (by omega)
        have hfl := fenc_len (ls.getD k [])
        have hmx := frames_len_le (mem_take_le (unhide HALL) hk)
        have hmx' : (frames (ls.take k)).length ≤ 4104 * 16777216 := by rw [List.length_take] at hmx; omega
        have hfl' : (fenc (ls.getD k [])).length ≤ 4104 := by omega
        clear lx hnx hmx hfl
        generalize ls.getD k [] = p at *
        generalize hT : frames (ls.take k) = T at *
        clear hT
        generalize hF : fenc p = F at *
        clear hF
        go_wp2_with fail
        refine (unhide EN).mono ?_
        rintro e w2 ⟨v2, rfl, f2⟩
        have B2 := hide f2.2.2
        have R2 := hide ((unhide HFR).1.later f2.2.2)
        obtain ⟨a2, c2, rfl, l2, _, _, n2, _⟩ := f2.1.parts
        have L2 := hide l2
        clear f2 l2 EN
        go_wp2_with (at_builtin; refine wpList_row _ rfl (.tmp 22) (.tmp 23) rfl v1 T rfl (unhide R2) a2 c2 F rfl (unhide L2) n2 (by omega) ?_)
        intro v3 w3 r3 t3 m3
        have FF := fresh_app (unhide HFR) (unhide B2) r3 t3 m3
        rw [← unhide ET] at FF
        have HFF := hide FF
        obtain ⟨a3, m3', c3, rfl⟩ := r3.shape
        clear r3 t3 m3 FF R2 L2 B2 HFR
        go_wp2
        go_roundw
        case rel => exact ⟨_, k + 1, rfl, by omega, by go_num, unhide HA2, unhide HFF⟩
        case measure => simp [intOf]; omega
      · have EN := hide (docenc_long (w := wr) (a := x) (cap := c) (ls.getD k []).length (by omega))
        have NO : Hid (¬ ∀ p ∈ ls, p.length ≤ 4096) := fun h => h4 (h _ (getD_mem_l hkc))
        have BB := hide (unhide HFR).2.2
        clear lx hnx
        generalize (ls.getD k []).length = L at *
        go_wp2_with fail
        refine (unhide EN).mono ?_
        rintro e w2 ⟨rfl, rfl⟩
        go_wp2
        go_returns
        exact ⟨_, false, rfl, .inr ⟨unhide NO, rfl, rfl, unhide BB⟩⟩
    · have hkc' : ¬ (k : Int) < (ls.length : Int) := by omega
      obtain rfl : k = ls.length := by omega
      have F : Hid (Joined w wr ls v1 true) := by
        refine .inl ⟨?_, rfl, ?_⟩
        · have := mem_take_le (unhide HALL) (Nat.le_refl _)
          rwa [List.take_length] at this
        · have := unhide HFR
          rwa [List.take_length] at this
      obtain ⟨a3, m3', c3, rfl⟩ := (unhide HFR).1.shape
      go_wp2
      go_returns
      exact ⟨_, true, rfl, unhide F⟩
end Go.Proofs.Ytcnmenfianeakaa
