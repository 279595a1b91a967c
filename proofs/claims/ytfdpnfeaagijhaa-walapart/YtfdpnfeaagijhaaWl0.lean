/-
  A wal's block and its disk; wal's recovered. Conditions: the name is at most maxLen bytes.
-/
import Derived.Test.YtfdpnfeaagijhaaCt5
import Derived.Test.YtfdpnfeaagijhaaAw5
import Derived.Test.YtfdpnfeaagijhaaWSc1

namespace Go.Proofs.Ytfdpnfeaagijhaa
open Go.RowKit
set_option linter.unusedVariables false

theorem scan_le (t : List Nat) : (scan t).2.1 ≤ t.length := by
  have : ∀ n, ∀ t : List Nat, t.length ≤ n → (scan t).2.1 ≤ t.length := by
    intro n
    induction n with
    | zero =>
      intro t ht
      have : t = [] := List.length_eq_zero_iff.1 (by omega)
      subst this
      rw [scan_nil]; exact Nat.le_refl _
    | succ n ih =>
      intro t ht
      by_cases h0 : t = []
      · subst h0; rw [scan_nil]; exact Nat.le_refl _
      by_cases hd : (dec t).2.2 = 0
      · obtain ⟨h1, h2, _⟩ := dec_ok hd
        have := ih (t.drop (dec t).2.1) (by rw [List.length_drop]; omega)
        rw [List.length_drop] at this
        rw [scan_more h0 hd]
        simp only
        omega
      · rw [scan_bad h0 hd]; exact Nat.zero_le _
  exact this _ t (Nat.le_refl _)

theorem ftOf_swapF {l : List Ft} {s : ByteArray} {f f' : Ft} (h : ftOf l s = some f) (hn : f'.nm = s) : ftOf (swapF l f') s = some f' := by
  unfold ftOf swapF at *
  induction l with
  | nil => cases h
  | cons g l ih =>
    by_cases e : g.nm = s
    · simp [e, hn]
    · have e2 : ¬ g.nm = f'.nm := by rw [hn]; exact e
      rw [List.find?_cons_of_neg (by simpa using e)] at h
      rw [List.map_cons, if_neg e2, List.find?_cons_of_neg (by simpa using e)]
      exact ih h
theorem ftOf_nm {l : List Ft} {s : ByteArray} {f : Ft} (h : ftOf l s = some f) : f.nm = s := by have := List.find?_some h; simpa using this
theorem ftOf_mem {l : List Ft} {s : ByteArray} {f : Ft} (h : ftOf l s = some f) : f ∈ l := List.mem_of_find?_eq_some h
def apT (l : List Ft) (s : ByteArray) (t : List Nat) : Ft := match ftOf l s with | some f => { f with text := f.text ++ t } | none => ⟨s, t, 0⟩
theorem ftOf_apF (l : List Ft) (s : ByteArray) (t : List Nat) : ftOf (apF l s t) s = some (apT l s t) := by
  unfold apF apT
  cases h : ftOf l s with
  | none => simp [ftOf]
  | some f => exact ftOf_swapF (f' := { f with text := f.text ++ t }) h (show f.nm = s from ftOf_nm h)
theorem find_ok {dead : Bool} {l : List Ft} {s : ByteArray} : findE dead l s = 0 ↔ dead = false ∧ okName s = true ∧ (ftOf l s).isSome = true := by
  unfold findE
  cases dead <;> cases okName s <;> cases (ftOf l s).isSome <;> simp
theorem find_no {dead : Bool} {l : List Ft} {s : ByteArray} : findE dead l s = 4 ↔ dead = false ∧ okName s = true ∧ (ftOf l s).isSome = false := by
  unfold findE
  cases dead <;> cases okName s <;> cases (ftOf l s).isSome <;> simp
theorem ap_room {d : Dk} {s : ByteArray} {n : Nat} (h : apE d s n = 0) : apR d s n = 0 ∧ burnD d.armed d.fuse n d.dead = false ∧ d.dead = false ∧ okName s = true := by
  unfold apE at h
  by_cases h1 : apR d s n = 0
  · rw [if_neg (by simpa using h1)] at h
    have hb : burnD d.armed d.fuse n d.dead = false := by
      cases hb : burnD d.armed d.fuse n d.dead with
      | false => rfl
      | true => rw [hb] at h; simp at h
    refine ⟨h1, hb, ?_⟩
    unfold apR at h1
    by_cases h2 : findE d.dead d.fs s ≠ 0 ∧ findE d.dead d.fs s ≠ 4
    · rw [if_pos h2] at h1; exact (h2.1 h1).elim
    · by_cases h3 : findE d.dead d.fs s = 0
      · exact ⟨(find_ok.1 h3).1, (find_ok.1 h3).2.1⟩
      · have h4 : findE d.dead d.fs s = 4 := by
          by_cases h5 : findE d.dead d.fs s = 4
          · exact h5
          · exact (h2 ⟨h3, h5⟩).elim
        exact ⟨(find_no.1 h4).1, (find_no.1 h4).2.1⟩
  · rw [if_pos h1] at h; exact (h1 h).elim
theorem apD_ok {d : Dk} {s : ByteArray} {b : List Nat} (h : apE d s b.length = 0) : apD d s b = ⟨apF d.fs s b, d.armed, burnF d.armed d.fuse b.length, false⟩ := by
  obtain ⟨h1, h2, h3, _⟩ := ap_room h
  unfold apD
  rw [if_neg (by simpa using h1), h2]
  have : burnN d.armed d.fuse b.length = b.length := by
    unfold burnN
    unfold burnD at h2
    rw [if_neg]
    intro h
    simp [h] at h2
  rw [this, List.take_length]
theorem ap_find {d : Dk} {s : ByteArray} {b : List Nat} (h : apE d s b.length = 0) : findE (apD d s b).dead (apD d s b).fs s = 0 := by
  have h4 := (ap_room h).2.2.2
  rw [apD_ok h, find_ok]
  exact ⟨rfl, h4, by rw [ftOf_apF]; rfl⟩
theorem rdF_ok {d : Dk} {s : ByteArray} {f : Ft} (h : findE d.dead d.fs s = 0) (hf : ftOf d.fs s = some f) : rdF d s = f := by unfold rdF; rw [if_pos h, hf]; rfl
theorem Disky.text_le {w : World} {db : Nat} {S : Nat → Prop} {d : Dk} (h : Disky w db S d) (s : ByteArray) : (rdF d s).text.length ≤ 4194304 := by
  obtain ⟨mv, fl, h1, h2, _⟩ := h.ex
  unfold rdF
  split
  · cases hf : ftOf d.fs s with
    | none => simp
    | some f =>
      have hm := ftOf_mem hf
      rw [← h2] at hm
      have := used_mem hm
      have := h1.used
      simp only [Option.getD_some]
      omega
  · simp

/-- What Open reads, and what it leaves. -/
def opT (d : Dk) (s : ByteArray) : List Nat := (rdF (apD d s []) s).text
def opN (d : Dk) (s : ByteArray) : Nat := (scan (opT d s)).2.1
def opD (d : Dk) (s : ByteArray) : Dk := cutD (apD d s []) s (opN d s)

/-- A list of rows, none of whose blocks is in T. -/
def Held (T : Nat → Prop) (w : World) (v : Value) (ls : List (List Nat)) : Prop := ∃ vs, Spine (fun u l => Row w u l ∧ ∀ k, u.ownBlock = some k → ¬ T k) w v vs ls ∧ ∀ k, v.ownBlock = some k → ¬ T k
theorem Held.step {T T' : Nat → Prop} {w w' : World} {v : Value} {ls : List (List Nat)} (h : Held T w v ls) (t : Touch T w w') (hg : ∀ k, T' k → T k ∨ w.heap.size ≤ k) : Held T' w' v ls := by
  obtain ⟨vs, h1, h2⟩ := h
  refine ⟨vs, (h1.keep t h2).imp (fun u l hu => ⟨hu.1.keep t hu.2, fun k hk hT => ?_⟩), fun k hk hT => ?_⟩
  · rcases hg k hT with e | e
    · exact hu.2 k hk e
    · have := hu.1.lt k hk; omega
  · rcases hg k hT with e | e
    · exact h2 k hk e
    · have := h1.own.lt k hk; omega
theorem Held.mono {T T' : Nat → Prop} {w : World} {v : Value} {ls : List (List Nat)} (h : Held T w v ls) (hg : ∀ k, T' k → T k ∨ w.heap.size ≤ k) : Held T' w v ls := h.step (Touch.refl _ _) hg
theorem Held.parts {T : Nat → Prop} {w : World} {v : Value} {ls : List (List Nat)} (h : Held T w v ls) : ∃ a cap, v = .slice a ls.length cap ∧ RAt w a ls ∧ ls.length ≤ cap ∧ cap ≤ maxLen ∧ (a = none → cap = 0) ∧ (∀ x, a = some x → v.ownBlock = some x.block) := by
  obtain ⟨vs, h1, _⟩ := h; exact h1.parts (fun u l h => h.1.elem)
theorem held_of_paid {S1 S4 : Nat → Prop} {w2 w3 w4 : World} {wb : Nat} {v : Value} {ls : List (List Nat)} (p : Paid w2 w3 v ls) (n : New w2 v) (t : Touch S1 w3 w4) (h1 : ∀ k, S1 k → k < w2.heap.size) (h4 : ∀ k, S4 k → S1 k ∨ w3.heap.size ≤ k) (hw : wb < w2.heap.size) : Held (fun k => S4 k ∨ k = wb) w4 v ls := by
  obtain ⟨vs, p⟩ := p
  have hh : Held (fun k => S1 k ∨ k = wb) w3 v ls := by
    refine ⟨vs, p.imp (fun u l hu => ⟨hu.1, fun k hk hT => ?_⟩), fun k hk hT => ?_⟩
    · have := hu.2 k hk
      rcases hT with e | e
      · have := h1 k e; omega
      · omega
    · have := n k hk
      rcases hT with e | e
      · have := h1 k e; omega
      · omega
  exact hh.step (t.mono (fun k hk => .inl hk)) (fun k hk => by
    rcases hk with e | e
    · rcases h4 k e with e | e
      · exact .inl (.inl e)
      · exact .inr e
    · exact .inl (.inr e))

theorem Ready.outer {Xo : Outer} {w : World} {b : Nat} (h : Ready Xo w b) : w.cell? ⟨b, 0, none⟩ = some Xo.d ∧ w.cell? ⟨b, 1, none⟩ = some Xo.n ∧ w.cell? ⟨b, 261, none⟩ = some Xo.s ∧ w.cell? ⟨b, 262, none⟩ = some Xo.c := by
  rcases h with ⟨T, h⟩ | h <;> exact h.outer
theorem Ready.frozen {Xo : Outer} {w : World} {b : Nat} (h : Ready Xo w b) (i : Nat) : w.frozen? ⟨b, i, none⟩ = false := by
  rcases h with ⟨T, h⟩ | h <;> exact h.frozen i
theorem Ready.setSize {Xo : Outer} {w : World} {b : Nat} (h : Ready Xo w b) (y : Value) : Ready { Xo with s := y } (w.setCell ⟨b, 261, none⟩ y) b := by
  rcases h with ⟨T, h⟩ | h
  · exact .inl ⟨T, h.setSize y⟩
  · exact .inr (h.setSize y)
theorem Ready.setCount {Xo : Outer} {w : World} {b : Nat} (h : Ready Xo w b) (y : Value) : Ready { Xo with c := y } (w.setCell ⟨b, 262, none⟩ y) b := by
  rcases h with ⟨T, h⟩ | h
  · exact .inl ⟨T, h.setCount y⟩
  · exact .inr (h.setCount y)

abbrev Ot (db : Nat) (s : ByteArray) (n c : Int) : Outer := ⟨.pointer (some ⟨db, 0, none⟩), .string s, .int .i64 n, .int .i64 c⟩
/-- A wal at wb, on the disk at db. -/
structure Wl (w : World) (wb db : Nat) (S : Nat → Prop) (d : Dk) (s : ByteArray) (n c : Int) : Prop where
  ready : Ready (Ot db s n c) w wb
  disk : Disky w db S d
  ne : ¬ S wb
/-- What a call on it leaves. -/
structure Wto (w w' : World) (wb db : Nat) (S S' : Nat → Prop) (d' : Dk) (s : ByteArray) (n c : Int) : Prop where
  wl : Wl w' wb db S' d' s n c
  grow : ∀ k, S' k → S k ∨ w.heap.size ≤ k
  touch : Touch (fun k => S k ∨ k = wb) w w'
theorem touch_no {w : World} (n : Nat) : Touch (fun _ => False) w (w.drewN n) := ⟨rfl, rfl, rfl, Nat.le_refl _, fun _ _ _ => rfl⟩

def RecPost (w : World) (wb db : Nat) (S : Nat → Prop) (d : Dk) (s : ByteArray) (c : Int) (e : Ending) (w' : World) : Prop :=
  ∃ v S', e = .returned (.tuple #[v, .int .i64 0]) ∧ Wto w w' wb db S S' (opD d s) s (opN d s : Nat) c ∧ Held (fun k => S' k ∨ k = wb) w' v (scan (opT d s)).1 ∧ New w v

section
variable {w : World} {wb db : Nat} {S : Nat → Prop} {d : Dk} {s : ByteArray} {n c : Int}
set_option maxRecDepth 100000 in
set_option maxHeartbeats 4000000 in
theorem recovered_any (h : Wl w wb db S d s n c) (hs : s.size ≤ maxLen) (hE : apE d s 0 = 0) :
    Calls Try.prog 12 #[.pointer (some ⟨wb, 0, none⟩)] w fun e w' => RecPost w wb db S d s c e w' := by
  obtain ⟨x0, x1, x2, x3⟩ := h.ready.outer
  simp only at x0 x1 x2 x3
  have hwb := h.ready.lt
  have AP : Hid (∀ w1, Touch (fun _ => False) w w1 → Calls Try.prog 18 #[.pointer (some ⟨db, 0, none⟩), .string s, .slice none 0 0] w1 fun e w' => e = .returned (.int .i64 (apE d s 0 : Nat)) ∧ Went w1 w' db S (apD d s [])) := fun w1 t =>
    dappend_any (b := []) (h.disk.keep t (fun _ _ h => h)) hs (fun i hi => by cases hi) (fun _ => rfl) (Nat.le_refl _) (fun h => by cases h)
  rw [hE] at AP
  have HW := hide h
  have FF := hide (ap_find (b := []) hE)
  clear h hE
  go_enter Try.func12, Try.ntmps12
  go_wp2_with fail
  go_region_with (go_at_call 18; refine (unhide AP _ (Touch.refl _ _).drew).mono ?_; rintro e w1 ⟨rfl, g1⟩)
  all_goals
    obtain ⟨S1, d1, t1, m1⟩ := g1
    have T1 : Hid (Touch S w w1) := touch_more ((Touch.refl S w).drew) t1 (fun k hk => .inl hk)
    have R1 := hide ((unhide HW).ready.keep (unhide T1) (unhide HW).ne)
    have hne1 : Hid (¬ S1 wb) := fun hk => by
      rcases m1 _ hk with e | e
      · exact (unhide HW).ne e
      · have : w.heap.size ≤ wb := e
        omega
    obtain ⟨y0, y1, _, _⟩ := (unhide R1).outer
    simp only at y0 y1
    have D1 := hide d1
    have M1 := hide m1
    have hlen : (opT d s).length ≤ 4194304 := d1.text_le s
    have hs1 : w.heap.size ≤ w1.heap.size := (unhide T1).size
    have RD : Hid (∀ wx, Touch (fun _ => False) w1 wx → Calls Try.prog 22 #[.pointer (some ⟨db, 0, none⟩), .string s] wx fun e w' => ∃ v, e = .returned (.tuple #[v, .int .i64 0]) ∧ Fresh5 wx w' v (opT d s)) := fun wx t => by
      have := dread_any (s := s) ((unhide D1).keep t (fun _ _ h => h)) hs
      rw [unhide FF] at this
      exact this
    clear d1 t1 m1 AP
    go_wp2_with fail
    go_region_with (go_at_call 22; refine (unhide RD _ (Touch.refl _ _).drew).mono ?_; rintro e w2 ⟨v2, rfl, r2, n2, b2⟩)
    all_goals
      have T2 : Hid (Touch (fun _ => False) w1 w2) := touch_more ((Touch.refl _ w1).drew) (Touch.of_below (S := fun _ => False) b2) (fun _ h => h.elim)
      have hs2 : w1.heap.size ≤ w2.heap.size := (unhide T2).size
      have R2 := hide ((unhide R1).keep (unhide T2) (fun h => h))
      have D2 := hide ((unhide D1).keep (unhide T2) (fun _ _ h => h))
      obtain ⟨a2, c2, rfl, l2, hc2, _, hn2, ho2, _⟩ := r2.parts
      have SC : Hid (Calls Try.prog 23 #[.pointer (some ⟨wb, 2, none⟩), .slice a2 (opT d s).length c2] w2 fun e w' => ∃ v, e = .returned (.tuple #[v, .int .i64 (opN d s : Nat), .int .i64 ((scan (opT d s)).2.2 : Nat)]) ∧ Paid w2 w' v (scan (opT d s)).1 ∧ New w2 v ∧ Fdone (Ot db s n c) w2 w' wb) :=
        fscan_any (unhide R2) l2 hn2 hc2 (fun _ x hx e => by have : w1.heap.size ≤ x.block := n2 _ (ho2 x hx); omega) (by omega)
      clear r2 n2 b2 l2 hc2 hn2 ho2 RD
      go_wp2_with fail
      refine (unhide SC).mono ?_
      rintro e w3 ⟨v3, rfl, p3, n3, f3⟩
      have D3 := hide ((unhide D2).keep f3.touch (fun k hk e => unhide hne1 (e ▸ hk)))
      have R3 := hide f3.ready
      have T3 := hide f3.touch
      have P3 := hide p3
      have N3 := hide n3
      obtain ⟨a3, c3, rfl, _⟩ := p3.parts
      obtain ⟨z0, z1, _, _⟩ := (unhide R3).outer
      simp only at z0 z1
      have hs3 : w2.heap.size ≤ w3.heap.size := (unhide T3).size
      have CT : Hid (∀ wx, Touch (fun _ => False) w3 wx → Calls Try.prog 24 #[.pointer (some ⟨db, 0, none⟩), .string s, .int .i64 (opN d s : Nat)] wx fun e w' => e = .returned (.int .i64 0) ∧ Went wx w' db S1 (opD d s)) := fun wx t =>
        dcut_ok ((unhide D3).keep t (fun _ _ h => h)) hs (unhide FF) (opN d s) (scan_le _)
      clear p3 n3 f3 SC
      go_wp2_with fail
      go_region_with (go_at_call 24; refine (unhide CT _ (Touch.refl _ _).drew).mono ?_; rintro e w4 ⟨rfl, g4⟩)
      all_goals
        obtain ⟨S4, d4, t4, m4⟩ := g4
        have T4 : Hid (Touch S1 w3 w4) := touch_more ((Touch.refl S1 w3).drew) t4 (fun k hk => .inl hk)
        have R4 := hide ((unhide R3).keep (unhide T4) (unhide hne1))
        obtain ⟨_, _, q2, _⟩ := (unhide R4).outer
        simp only at q2
        have z4 := (unhide R4).frozen 261
        have hs4 : w3.heap.size ≤ w4.heap.size := (unhide T4).size
        have F : Hid (RecPost w wb db S d s c (.returned (.tuple #[.slice a3 (scan (opT d s)).1.length c3, .int .i64 0])) (w4.setCell ⟨wb, 261, none⟩ (.int .i64 (opN d s : Nat)))) := by
          have ts := touch_set w4 wb 261 (.int .i64 (opN d s : Nat))
          have hne4 : ¬ S4 wb := fun hk => by
            rcases m4 _ hk with e | e
            · exact unhide hne1 e
            · have : w3.heap.size ≤ wb := e
              omega
          refine ⟨_, S4, rfl, ⟨⟨(unhide R4).setSize _, d4.keep ts (fun k hk e => hne4 (e ▸ hk)), hne4⟩, fun k hk => ?_, ?_⟩, ?_, (unhide N3).mono (by omega)⟩
          · rcases m4 k hk with e | e
            · rcases unhide M1 k e with e | e
              · exact .inl e
              · exact .inr e
            · exact .inr (Nat.le_trans (show w.heap.size ≤ w3.heap.size by omega) e)
          · refine (touch_more (touch_more (touch_more ((unhide T1).mono (fun k hk => .inl hk)) (unhide T2) (fun _ h => h.elim)) (unhide T3) (fun k hk => .inl (.inr hk))) (unhide T4) (fun k hk => ?_)).trans (ts.mono (fun k hk => .inr hk))
            rcases unhide M1 k hk with e | e
            · exact .inl (.inl e)
            · exact .inr e
          · exact (held_of_paid (S1 := S1) (S4 := S4) (unhide P3) (unhide N3) (unhide T4) (unhide D2).lt m4 (by omega)).step (ts.mono (fun k hk => .inr hk)) (fun k hk => .inl hk)
        clear d4 t4 m4 CT
        generalize (scan (opT d s)).2.2 = er at *
        generalize opN d s = op at *
        go_wp2
        go_returns
        exact unhide F
end
end Go.Proofs.Ytfdpnfeaagijhaa
