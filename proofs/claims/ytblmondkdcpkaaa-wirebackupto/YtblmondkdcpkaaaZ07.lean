/-
  What is wrong with a batch: batch.Size, outOfRange, badProducer, badKind, tooLong and Check, and the document's Size and DocCheck. Conditions: none beyond those of the parameters' types.
-/
import Derived.Test.YtblmondkdcpkaaaZ04
import Derived.Test.YtblmondkdcpkaaaZ06
import Derived.BigQuiet

/-
  penstockref03's forms: Uint, Zig, Int, Flag, Fixed, Bytes, Ints make new rows of bytes. Conditions: a row has at most 2^47 bytes.
-/
namespace Go.Proofs.Ytblmondkdcpkaaa
open Go.RowKit
set_option linter.unusedVariables false

/-- A new row. -/
def Fresh (w w' : World) (v : Value) (l : List Nat) : Prop := Row w' v l ∧ New w v ∧ Below w.heap.size w w'

/-- What an append of the row's own leaves. -/
theorem fresh_app {w w1 w2 w3 : World} {v v' : Value} {l l' : List Nat} (h : Fresh w w1 v l) (hb : Below w1.heap.size w1 w2) (r : Row w3 v' l') (t : Touch (fun k => v.ownBlock = some k) w2 w3) (m : Moved w2 v v') : Fresh w w3 v' l' := by
  obtain ⟨_, h2, h3⟩ := h
  have h4 : Below w.heap.size w w2 := h3.trans (hb.mono h3.size)
  exact ⟨r, h2.moved m h4.size, below_touch h4 t h4.size (fun k hk => h2 k hk)⟩

set_option maxRecDepth 100000 in
theorem euint_any (n : Nat) (w : World) (hn : n < 18446744073709551616) :
    Calls Try.prog 25 #[.int .u64 n] w fun e w' => ∃ v, e = .returned v ∧ Fresh w w' v (enc n) := by
  have L10 := hide (enc_len10 hn)
  go_enter Try.func25, Try.ntmps25
  go_wp2_with fail
  go_loopw [0, 3] (fun i vb wr => ∃ (m : Nat) (pre : List Nat) (v' : Value), v' = vb ∧ m < 18446744073709551616 ∧ i = .int .u64 m ∧ pre ++ enc m = enc n ∧ Fresh w wr v' pre) (fun i _ _ => (intOf i).toNat)
  case atStart => exact ⟨n, [], _, rfl, hn, rfl, rfl, Row.nil _, New.nil _, Below.refl _ _⟩
  case round =>
    obtain ⟨m, pre, v1, rfl, hm, rfl, hp, h1⟩ := hrel
    have HP := hide hp
    have H1 := hide h1
    have hl1 : pre.length ≤ 10 := by
      have e2 := congrArg List.length hp
      have e4 := unhide L10
      rw [List.length_append] at e2
      omega
    clear hp h1
    by_cases hc : m < 128
    · have hq : (m : Int) / 128 = 0 := by omega
      have hr : (m : Int) % 128 = m := by omega
      have hw : (m : Int) % 256 = m := by omega
      have hbl : Hid (Below wr.heap.size wr (wr.alloc (.cells #[.int .u8 (m : Int)] 5))) := (Below.refl _ _).alloc (Nat.le_refl _) _
      have hlt := hide (LAt.lit wr [m] (by simpa using (by omega : m < 256)) #[.int .u8 (m : Int)] rfl)
      go_wp2_with (at_builtin; refine wpList_row _ rfl (.tmp 11) (.tmp 14) rfl v1 pre rfl ((unhide H1).1.later (unhide hbl)) (some ⟨wr.heap.size, 0, none⟩) 1 [m] rfl (unhide hlt) (fun h => by cases h) (by simp; omega) ?_)
      intro v2 w2 r2 t2 m2
      have F := fresh_app (unhide H1) (unhide hbl) r2 t2 m2
      rw [← enc_lt hc, unhide HP] at F
      obtain ⟨a', n', c', rfl⟩ := r2.shape
      have FF := hide F
      clear r2 t2 m2 F hlt hbl
      go_wp2
      go_returns
      exact ⟨_, rfl, unhide FF⟩
    · have hq : ¬ (m : Int) / 128 = 0 := by omega
      have hw : ((m : Int) % 128 + 128) % 256 = (m : Int) % 128 + 128 := by omega
      have hcs : #[Value.int .u8 ((m : Int) % 128 + 128)].toList = vals [m % 128 + 128] := by simp [vals]
      have hbl : Hid (Below wr.heap.size wr (wr.alloc (.cells #[.int .u8 ((m : Int) % 128 + 128)] 5))) := (Below.refl _ _).alloc (Nat.le_refl _) _
      have hlt := hide (LAt.lit wr [m % 128 + 128] (by simpa using (by omega : m % 128 + 128 < 256)) #[.int .u8 ((m : Int) % 128 + 128)] hcs)
      go_wp2_with (at_builtin; refine wpList_row _ rfl (.tmp 17) (.tmp 21) rfl v1 pre rfl ((unhide H1).1.later (unhide hbl)) (some ⟨wr.heap.size, 0, none⟩) 1 [m % 128 + 128] rfl (unhide hlt) (fun h => by cases h) (by simp; omega) ?_)
      intro v2 w2 r2 t2 m2
      have F := hide (fresh_app (unhide H1) (unhide hbl) r2 t2 m2)
      have HQ : Hid ((pre ++ [m % 128 + 128]) ++ enc (m / 128) = enc n) := by
        show _ = _
        rw [List.append_assoc, List.singleton_append, ← enc_ge hc]
        exact unhide HP
      obtain ⟨a', n', c', rfl⟩ := r2.shape
      clear r2 t2 m2 hlt hbl hcs
      go_wp2
      go_roundw
      case rel => exact ⟨m / 128, _, _, rfl, by omega, by go_num, unhide HQ, unhide F⟩
      case measure => simp [intOf]; omega

set_option maxRecDepth 100000 in
theorem zig_any (i : Int) (w : World) (h1 : -9223372036854775808 ≤ i) (h2 : i < 9223372036854775808) :
    Calls Try.prog 36 #[.int .i64 i] w fun e w' => e = .returned (.int .u64 (zig i : Nat)) ∧ w' = w := by
  by_cases h0 : 0 ≤ i
  · have e := zig_pos h0
    go_enter Try.func36, Try.ntmps36
    go_wp2
    go_returns
    exact ⟨by rw [e]; simp <;> omega, rfl⟩
  · have e := zig_neg h0
    have h0' : i < 0 := by omega
    go_enter Try.func36, Try.ntmps36
    go_wp2
    go_returns
    exact ⟨by show Ending.returned (Value.int .u64 (2 * -(i + 1) + 1)) = Ending.returned (Value.int .u64 (-2 * i - 1)); congr 2; omega, rfl⟩

theorem eint_any (i : Int) (w : World) (h1 : -9223372036854775808 ≤ i) (h2 : i < 9223372036854775808) :
    Calls Try.prog 17 #[.int .i64 i] w fun e w' => ∃ v, e = .returned v ∧ Fresh w w' v (enc (zig i)) := by
  go_enter Try.func17, Try.ntmps17
  go_wp2_with fail
  refine (zig_any i w h1 h2).mono ?_
  rintro e w1 ⟨rfl, rfl⟩
  go_wp2_with fail
  refine (euint_any (zig i) _ (zig_lt h1 h2)).mono ?_
  rintro e w1 ⟨v, rfl, f⟩
  have F := hide f
  clear f
  go_wp2
  go_returns
  exact ⟨_, rfl, unhide F⟩

theorem eflag_any (q : Bool) (w : World) :
    Calls Try.prog 19 #[.bool q] w fun e w' => ∃ v, e = .returned v ∧ Fresh w w' v [q.toNat] := by
  cases q
  · have F := hide (Row.lit w [0] (by simp) #[.int .u8 0] rfl (by simp [maxLen]))
    go_enter Try.func19, Try.ntmps19
    go_wp2
    go_returns
    exact ⟨_, rfl, unhide F, fun k hk => by simp [Value.ownBlock] at hk; omega, (Below.refl _ _).alloc (Nat.le_refl _) _⟩
  · have F := hide (Row.lit w [1] (by simp) #[.int .u8 1] rfl (by simp [maxLen]))
    go_enter Try.func19, Try.ntmps19
    go_wp2
    go_returns
    exact ⟨_, rfl, unhide F, fun k hk => by simp [Value.ownBlock] at hk; omega, (Below.refl _ _).alloc (Nat.le_refl _) _⟩

set_option maxRecDepth 100000 in
theorem ebytes_any (ao : Option Addr) (c : Nat) (l : List Nat) (w : World) (h : LAt w ao l) (hn : ao = none → c = 0) (hl : l.length + 10 ≤ 140737488355328) :
    Calls Try.prog 37 #[.slice ao l.length c] w fun e w' => ∃ v, e = .returned v ∧ Fresh w w' v (enc l.length ++ l) := by
  have H := hide h
  clear h
  go_enter Try.func37, Try.ntmps37
  go_wp2_with fail
  refine (euint_any l.length w (by omega)).mono ?_
  rintro e w1 ⟨v1, rfl, f⟩
  have L10 := enc_len10 (n := l.length) (by omega)
  have F1 := hide f
  have H1 := hide ((unhide H).later f.2.2)
  clear f H
  go_wp2_with (at_builtin; refine wpList_row _ rfl (.tmp 8) (.tmp 9) rfl v1 (enc l.length) rfl (unhide F1).1 ao c l rfl (unhide H1) hn (by omega) ?_)
  intro v2 w2 r2 t2 m2
  have F := hide (fresh_app (unhide F1) (Below.refl _ _) r2 t2 m2)
  obtain ⟨a', n', c', rfl⟩ := r2.shape
  clear r2 t2 m2 F1 H1
  go_wp2
  go_returns
  exact ⟨_, rfl, unhide F⟩

set_option maxRecDepth 100000 in
theorem eints_any (ao : Option Addr) (c : Nat) (ls : List Int) (w : World) (h : IAt w ao ls) (hf : ∀ x ∈ ls, -9223372036854775808 ≤ x ∧ x < 9223372036854775808) (hl : 10 + 10 * ls.length ≤ 140737488355328) :
    Calls Try.prog 26 #[.slice ao ls.length c] w fun e w' => ∃ v, e = .returned v ∧ Fresh w w' v (enc ls.length ++ encL ls) := by
  have H := hide h
  have HF := hide hf
  clear h hf
  go_enter Try.func26, Try.ntmps26
  go_wp2_with fail
  refine (euint_any ls.length w (by omega)).mono ?_
  rintro e w1 ⟨v1, rfl, f⟩
  have L10 := enc_len10 (n := ls.length) (by omega)
  have F1 := hide f
  clear f
  go_wp2_with fail
  go_loopw [3, 4] (fun vb i wr => ∃ (k : Nat) (v' : Value), v' = vb ∧ k ≤ ls.length ∧ i = .int .i64 k ∧ Fresh w wr v' (enc ls.length ++ encL (ls.take k))) (fun _ i _ => ls.length - (intOf i).toNat)
  case atStart => exact ⟨0, _, rfl, Nat.zero_le _, rfl, by simpa [encL] using unhide F1⟩
  case round =>
    obtain ⟨k, v2, rfl, hk, rfl, f2⟩ := hrel
    have F2 := hide f2
    clear f2
    by_cases hc : k < ls.length
    · obtain ⟨cb, off, rfl, hcb, hcell⟩ := (unhide H).later (unhide F2).2.2 k hc
      have hx := unhide HF (ls.getD k 0) (by simp [List.getD, hc])
      have ET := hide (encL_take ls k hc)
      have hroom : (enc ls.length ++ encL (ls.take k)).length + 10 ≤ 140737488355328 := by
        rw [List.length_append]
        have e1 := encL_len (ls.take k) (fun y hy => unhide HF y (List.mem_of_mem_take hy))
        rw [List.length_take] at e1
        omega
      generalize ls.getD k 0 = x at *
      have hc' : (k : Int) < (ls.length : Int) := by omega
      have z10 := enc_len10 (zig_lt hx.1 hx.2)
      go_wp2_with fail
      refine (eint_any x _ hx.1 hx.2).mono ?_
      rintro e w3 ⟨v3, rfl, f3⟩
      obtain ⟨a3, c3, rfl, l3, _, _, n3, _⟩ := f3.1.parts
      have B3 := hide f3.2.2
      have L3 := hide l3
      have R2 := hide ((unhide F2).1.later f3.2.2)
      clear f3 l3
      go_wp2_with (at_builtin; refine wpList_row _ rfl (.tmp 15) (.tmp 20) rfl v2 (enc ls.length ++ encL (ls.take k)) rfl (unhide R2) a3 c3 (enc (zig x)) rfl (unhide L3) n3 (by omega) ?_)
      intro v4 w4 r4 t4 m4
      have F4 := fresh_app (unhide F2) (unhide B3) r4 t4 m4
      rw [← unhide ET] at F4
      have FF := hide F4
      obtain ⟨a', n', c', rfl⟩ := r4.shape
      clear r4 t4 m4 F4 R2 L3 B3
      go_wp2
      go_roundw
      case rel => exact ⟨k + 1, _, rfl, by omega, by go_num, unhide FF⟩
      case measure => simp [intOf]; omega
    · obtain rfl : k = ls.length := by omega
      have F3 : Hid (Fresh w wr v2 (enc ls.length ++ encL ls)) := by have := unhide F2; rw [List.take_length] at this; exact this
      go_wp2
      go_returns
      exact ⟨_, rfl, unhide F3⟩
end Go.Proofs.Ytblmondkdcpkaaa


/-
  Rows of slices of bytes in memory. Conditions: such a row has at most 2^47 bytes.
-/
namespace Go.Proofs.Ytblmondkdcpkaaa
open Go.RowKit
set_option linter.unusedVariables false

theorem below_drewN3 {B : Nat} {w0 w : World} (h : Below B w0 w) (n : Nat) : Below B w0 (w.drewN n) := h.trans ⟨rfl, rfl, rfl, Nat.le_refl _, fun _ _ => rfl⟩
theorem lat_lt {w : World} {a : Option Addr} {t : List Nat} (h : LAt w a t) (h0 : 0 < t.length) {x : Addr} (hx : a = some x) : x.block < w.heap.size := by
  obtain ⟨b, off, e1, e2, _⟩ := h.cell h0
  rw [hx] at e1; cases e1; exact e2

/-- A slice of bytes that reads as a list. -/
def Elem (w : World) (u : Value) (l : List Nat) : Prop := ∃ a c, u = .slice a l.length c ∧ LAt w a l ∧ (a = none → c = 0)
theorem Elem.later {w w' : World} {u : Value} {l : List Nat} (h : Elem w u l) (hb : Below w.heap.size w w') : Elem w' u l := by
  obtain ⟨a, c, e, h1, h2⟩ := h; exact ⟨a, c, e, h1.later hb, h2⟩
theorem Elem.one {w : World} {u : Value} {l : List Nat} (h : Elem w u l) : u.oneCell' = true := by obtain ⟨a, c, rfl, _⟩ := h; rfl
theorem Row.elem {w : World} {u : Value} {l : List Nat} (h : Row w u l) : Elem w u l := by
  obtain ⟨a, c, e, h1, h2, _, h3, _⟩ := h.parts; exact ⟨a, c, e, h1, h3⟩
theorem Row.one {w : World} {u : Value} {l : List Nat} (h : Row w u l) : u.oneCell' = true := h.elem.one

/-- A list of slices in memory that reads as a list of lists. -/
def RAt (w : World) (a : Option Addr) (ls : List (List Nat)) : Prop :=
  ∀ i, i < ls.length → ∃ b off u, a = some ⟨b, off, none⟩ ∧ b < w.heap.size ∧ w.cell? ⟨b, off + i, none⟩ = some u ∧ Elem w u (ls.getD i [])
/-- .. each of them with its room. -/
def Caps (w : World) (a : Option Addr) (ls : List (List Nat)) : Prop := ∀ i, i < ls.length → ∃ b off x c, a = some ⟨b, off, none⟩ ∧ w.cell? ⟨b, off + i, none⟩ = some (.slice x (ls.getD i []).length c) ∧ (ls.getD i []).length ≤ c
theorem Caps.cap {w : World} {a : Option Addr} {ls : List (List Nat)} (h : Caps w a ls) {i b off c : Nat} {x : Option Addr} (hi : i < ls.length) (ha : a = some ⟨b, off, none⟩) (hc : w.cell? ⟨b, off + i, none⟩ = some (.slice x (ls.getD i []).length c)) : (ls.getD i []).length ≤ c := by
  obtain ⟨b', off', x', c', e1, e2, e3⟩ := h i hi
  rw [ha] at e1
  cases e1
  rw [hc] at e2
  cases e2
  exact e3
theorem RAt.later {w w' : World} {a : Option Addr} {ls : List (List Nat)} (h : RAt w a ls) (hb : Below w.heap.size w w') : RAt w' a ls := by
  intro i hi
  obtain ⟨b, off, u, h1, h2, h3, h4⟩ := h i hi
  exact ⟨b, off, u, h1, Nat.lt_of_lt_of_le h2 hb.size, (hb.cell (p := ⟨b, off + i, none⟩) h2).trans h3, h4.later hb⟩
theorem RAt.drewN {w : World} {a : Option Addr} {ls : List (List Nat)} (h : RAt w a ls) (n : Nat) : RAt (w.drewN n) a ls := h
theorem RAt.take {w : World} {a : Option Addr} {ls : List (List Nat)} (h : RAt w a ls) (k : Nat) : RAt w a (ls.take k) := by
  intro i hi
  rw [List.length_take] at hi
  obtain ⟨b, off, u, h1, h2, h3, h4⟩ := h i (by omega)
  have e : (ls.take k).getD i [] = ls.getD i [] := by simp [List.getD, show i < k by omega]
  exact ⟨b, off, u, h1, h2, h3, by rw [e]; exact h4⟩
/-- Element i, with its shape. -/
theorem RAt.cell {w : World} {a : Option Addr} {ls : List (List Nat)} (h : RAt w a ls) {i : Nat} (hi : i < ls.length) : ∃ b off x c, a = some ⟨b, off, none⟩ ∧ b < w.heap.size ∧ w.cell? ⟨b, off + i, none⟩ = some (.slice x (ls.getD i []).length c) ∧ LAt w x (ls.getD i []) ∧ (x = none → c = 0) := by
  obtain ⟨b, off, u, h1, h2, h3, x, c, rfl, h4, h5⟩ := h i hi
  exact ⟨b, off, x, c, h1, h2, h3, h4, h5⟩

/-- A row of slices that the call has made; E says what each is. -/
structure Spine (E : Value → List Nat → Prop) (w : World) (v : Value) (vs : List Value) (ls : List (List Nat)) : Prop where
  own : Own w 24 v vs
  len : vs.length = ls.length
  each : ∀ i, i < ls.length → ∃ u, vs[i]? = some u ∧ E u (ls.getD i [])
section
variable {E F : Value → List Nat → Prop} {w w' : World} {v v' u : Value} {vs : List Value} {ls : List (List Nat)} {l : List Nat}
theorem Spine.nil (E : Value → List Nat → Prop) (w : World) : Spine E w (.slice none 0 0) [] [] := ⟨Own.nil _ _, rfl, fun i hi => by cases hi⟩
theorem Spine.imp (h : Spine E w v vs ls) (he : ∀ u l, E u l → F u l) : Spine F w v vs ls := ⟨h.own, h.len, fun i hi => by obtain ⟨u, h1, h2⟩ := h.each i hi; exact ⟨u, h1, he u _ h2⟩⟩
theorem Spine.keep {S : Nat → Prop} (h : Spine E w v vs ls) (t : Touch S w w') (hs : ∀ k, v.ownBlock = some k → ¬ S k) : Spine E w' v vs ls := ⟨h.own.keep t hs, h.len, h.each⟩
theorem Spine.later (h : Spine E w v vs ls) (hb : Below w.heap.size w w') : Spine E w' v vs ls := ⟨h.own.later hb, h.len, h.each⟩
theorem Spine.drewN (h : Spine E w v vs ls) (n : Nat) : Spine E (w.drewN n) v vs ls := ⟨h.own, h.len, h.each⟩
theorem Spine.push (h : Spine E w v vs ls) (o : Own w' 24 v' (vs ++ [u])) (he : E u l) : Spine E w' v' (vs ++ [u]) (ls ++ [l]) := by
  refine ⟨o, by simp [h.len], fun i hi => ?_⟩
  rw [List.length_append, List.length_singleton] at hi
  by_cases hc : i < ls.length
  · obtain ⟨x, h1, h2⟩ := h.each i hc
    refine ⟨x, by rw [List.getElem?_append_left (by rw [h.len]; exact hc)]; exact h1, ?_⟩
    have e : (ls ++ [l]).getD i [] = ls.getD i [] := by simp [List.getD, List.getElem?_append_left hc]
    rw [e]; exact h2
  · obtain rfl : i = ls.length := by omega
    refine ⟨u, by rw [← h.len]; simp, ?_⟩
    have e : (ls ++ [l]).getD ls.length [] = l := by simp [List.getD]
    rw [e]; exact he
theorem Spine.parts (h : Spine E w v vs ls) (he : ∀ u l, E u l → Elem w u l) : ∃ a cap, v = .slice a ls.length cap ∧ RAt w a ls ∧ ls.length ≤ cap ∧ cap ≤ maxLen ∧ (a = none → cap = 0) ∧ (∀ x, a = some x → v.ownBlock = some x.block) := by
  obtain ⟨a, cap, e1, e2, e3, e4, e5, e6⟩ := h.own.parts
  rw [h.len] at e1 e2
  refine ⟨a, cap, e1, fun i hi => ?_, e2, e3, e4, e5⟩
  obtain ⟨g, ha, hg, hc, _⟩ := e6 i (by rw [h.len]; exact hi)
  obtain ⟨u, h1, h2⟩ := h.each i hi
  exact ⟨g, 0, u, ha, hg, by rw [Nat.zero_add, hc, h1], he u _ h2⟩
theorem Spine.shape (h : Spine E w v vs ls) : ∃ a n cap, v = .slice a n cap := by obtain ⟨a, cap, e, _⟩ := h.own.parts; exact ⟨a, _, cap, e⟩
/-- The spine's block is no row of bytes. -/
theorem Spine.apart (h : Own w 24 v vs) (r : Row w u l) : ∀ k, u.ownBlock = some k → v.ownBlock = some k → False := by
  intro k h1 h2
  rcases h.2 with ⟨rfl, _⟩ | ⟨g, cap, cur, rfl, _, hgg, _⟩
  · simp [Value.ownBlock] at h2
  · rcases r.own.2 with ⟨rfl, _⟩ | ⟨g', cap', cur', rfl, _, hgg', _⟩
    · simp [Value.ownBlock] at h1
    · have e1 : g' = k := by simpa [Value.ownBlock] using h1
      have e2 : g = k := by simpa [Value.ownBlock] using h2
      rw [e1] at hgg'
      rw [e2, hgg'] at hgg
      simp at hgg
end

theorem sl_info : ∃ i, Try.prog.info? 24 = some i ∧ i.zero = some (.slice none 0 0) ∧ i.size = 1 ∧ i.bytes = 24 := by
  have h : (Try.prog.info? 24).map (fun i => (i.zero, i.size, i.bytes)) = some (some (.slice none 0 0), 1, 24) := by kernel_rfl
  exact info_parts h
/-- append(list, one slice). -/
theorem wpList_elem (w : World) {ops : Array Oper} {rest : List Oper} {o : Oper} {a : Act} {Q : Exit → Act → World → Prop}
    (hg : o.guard = none) (s x : Operand) (hop : o.op = Op.call { callee := Callee.builtin Builtin.append, args := #[s, x], argTypes := #[36, 36] })
    (v : Value) (vs : List Value) (hs : a.eval s = v) (hr : Own w 24 v vs) (g : Nat) (u : Value) (hx : a.eval x = .slice (some ⟨g, 0, none⟩) 1 1) (hu : w.cell? ⟨g, 0, none⟩ = some u) (h1 : u.oneCell' = true) (hlen : (vs.length + 1) * 24 ≤ 140737488355328)
    (hK : ∀ v' w', Own w' 24 v' (vs ++ [u]) → Touch (fun k => v.ownBlock = some k) w w' → Moved w v v' → wpList Try.prog ops Q rest (a.put o.dst v') w') :
    wpList Try.prog ops Q (o :: rest) a w := by
  obtain ⟨i, hi, hz, hsz, hby⟩ := sl_info
  refine wpList_app w hg s x 36 hop 24 i (.slice none 0 0) 24 Try.underlying36 hi hz hsz hby rfl v vs hs hr (some ⟨g, 0, none⟩) 1 1 [u] hx rfl ?_ ?_ (fun h => by cases h) (by unfold maxLen; omega) hlen hK
  · intro j y hj
    match j, hj with
    | 0, hj => cases hj; exact ⟨g, 0, rfl, hu⟩
  · intro y hy; rw [List.mem_singleton] at hy; subst hy; exact h1

/-- A row of bytes that is new since w0. -/
def Mine4 (w0 w : World) (u : Value) (l : List Nat) : Prop := Row w u l ∧ New w0 u
def Paid (w0 w : World) (v : Value) (ls : List (List Nat)) : Prop := ∃ vs, Spine (Mine4 w0 w) w v vs ls
theorem Paid.parts {w0 w : World} {v : Value} {ls : List (List Nat)} (h : Paid w0 w v ls) : ∃ a cap, v = .slice a ls.length cap ∧ RAt w a ls ∧ ls.length ≤ cap ∧ cap ≤ maxLen ∧ (a = none → cap = 0) ∧ (∀ x, a = some x → v.ownBlock = some x.block) := by
  obtain ⟨vs, h⟩ := h; exact h.parts (fun u l h => h.1.elem)
theorem Paid.later {w0 w w' : World} {v : Value} {ls : List (List Nat)} (h : Paid w0 w v ls) (hb : Below w.heap.size w w') : Paid w0 w' v ls := by
  obtain ⟨vs, h⟩ := h; exact ⟨vs, (h.later hb).imp (fun u l h => ⟨h.1.later hb, h.2⟩)⟩
end Go.Proofs.Ytblmondkdcpkaaa


namespace Go.Proofs.Ytblmondkdcpkaaa
open Go.RowKit
set_option linter.unusedVariables false

/-- A batch's value. -/
abbrev bv (b : Bt) (a : Option Addr) (cap : Nat) : Value := .agg #[.int .i64 b.base, .int .i64 b.epoch, .int .u64 (b.pid : Int), .int .i64 b.pep, .int .i64 b.seq, .bool b.txn, .bool b.ctl, .bool b.com, .slice a b.vs.length cap]
def BoolPost (w : World) (p : Prop) (e : Ending) (w' : World) : Prop := ∃ q : Bool, e = .returned (.bool q) ∧ (q = true ↔ p) ∧ Below w.heap.size w w'
def IntPost (w : World) (n : Nat) (e : Ending) (w' : World) : Prop := e = .returned (.int .i64 (n : Nat)) ∧ Below w.heap.size w w'
theorem BoolPost.mk {w w' : World} {p : Prop} {q : Bool} (h : q = true ↔ p) (hb : Below w.heap.size w w') : BoolPost w p (.returned (.bool q)) w' := ⟨q, rfl, h, hb⟩

theorem len_cases (vs : List (List Nat)) : vs.length = 0 ∨ 0 < vs.length := by omega

set_option maxRecDepth 100000 in
set_option maxHeartbeats 4000000 in
theorem outOf_any (b : Bt) (a : Option Addr) (cap : Nat) (w : World) :
    Calls Try.prog 94 #[bv b a cap] w fun e w' => BoolPost w (outB b) e w' := by
  obtain ⟨base, epoch, pid, pep, seq, txn, ctl, com, vs⟩ := b
  have C : base < 0 ∨ (¬ base < 0 ∧ (epoch < 0 ∨ (¬ epoch < 0 ∧ (pep < 0 ∨ (¬ pep < 0 ∧ (seq < 0 ∨ (¬ seq < 0 ∧ ((1000 : Int) < pep ∨ (¬ (1000 : Int) < pep ∧ ((1000 : Int) < (pid : Int) ∨ ¬ (1000 : Int) < (pid : Int))))))))))) := by omega
  rcases C with t1 | ⟨t1, t2 | ⟨t2, t3 | ⟨t3, t4 | ⟨t4, t5 | ⟨t5, t6 | t6⟩⟩⟩⟩⟩
  all_goals go_enter Try.func94, Try.ntmps94
  all_goals go_wp2
  all_goals go_returns
  all_goals refine BoolPost.mk ?_ ((Below.refl _ _).alloc (Nat.le_refl _) _)
  all_goals simp only [outB]
  all_goals constructor
  all_goals intro h
  all_goals first | trivial | rfl | omega | (cases h; done)

set_option maxRecDepth 100000 in
set_option maxHeartbeats 4000000 in
theorem badProd_any (b : Bt) (a : Option Addr) (cap : Nat) (w : World) :
    Calls Try.prog 95 #[bv b a cap] w fun e w' => BoolPost w (prodB b) e w' := by
  obtain ⟨base, epoch, pid, pep, seq, txn, ctl, com, vs⟩ := b
  have C : ¬ (pid : Int) = 0 ∨ (pid = 0 ∧ (txn = true ∨ (txn = false ∧ (¬ pep = 0 ∨ (pep = 0 ∧ (¬ seq = 0 ∨ seq = 0)))))) := by cases txn <;> simp <;> omega
  rcases C with t1 | ⟨rfl, rfl | ⟨rfl, t3 | ⟨rfl, t4 | rfl⟩⟩⟩
  all_goals go_enter Try.func95, Try.ntmps95
  all_goals go_wp2
  all_goals go_returns
  all_goals refine BoolPost.mk ?_ ((Below.refl _ _).alloc (Nat.le_refl _) _)
  all_goals simp [prodB] <;> omega

set_option maxRecDepth 100000 in
set_option maxHeartbeats 4000000 in
theorem badKind_n (base epoch : Int) (pid : Nat) (pep seq : Int) (txn ctl com : Bool) (n : Nat) (a : Option Addr) (cap : Nat) (w : World) (K : Prop) (hK : K ↔ (ctl = true ∧ (0 < n ∨ txn = false ∨ pid = 0 ∨ seq ≠ 0)) ∨ (ctl = false ∧ (n = 0 ∨ com = true))) :
    Calls Try.prog 96 #[.agg #[.int .i64 base, .int .i64 epoch, .int .u64 (pid : Int), .int .i64 pep, .int .i64 seq, .bool txn, .bool ctl, .bool com, .slice a n cap]] w fun e w' => BoolPost w K e w' := by
  have HK := hide hK
  clear hK
  have D1 : n = 0 ∨ (0 : Int) < (n : Int) := by omega
  have D2 : pid = 0 ∨ ¬ (pid : Int) = 0 := by omega
  have D3 : ¬ seq = 0 ∨ seq = 0 := by omega
  cases ctl
  · rcases D1 with rfl | t1
    · clear D2 D3
      go_enter Try.func96, Try.ntmps96
      go_wp2
      go_returns
      exact BoolPost.mk ⟨fun _ => (unhide HK).2 (by simp <;> omega), fun _ => by first | rfl | (simp <;> omega)⟩ ((Below.refl _ _).alloc (Nat.le_refl _) _)
    · have t2 : ¬ (n : Int) = 0 := by omega
      have T2 : Hid (0 < n) := by show 0 < n; omega
      clear D2 D3
      cases com
      · go_enter Try.func96, Try.ntmps96
        go_wp2
        go_returns
        refine BoolPost.mk ?_ ((Below.refl _ _).alloc (Nat.le_refl _) _)
        have := unhide T2
        rw [unhide HK]
        simp <;> omega
      · go_enter Try.func96, Try.ntmps96
        go_wp2
        go_returns
        exact BoolPost.mk ⟨fun _ => (unhide HK).2 (by simp <;> omega), fun _ => by first | rfl | (simp <;> omega)⟩ ((Below.refl _ _).alloc (Nat.le_refl _) _)
  · rcases D1 with rfl | t1
    · cases txn
      · clear D2 D3
        go_enter Try.func96, Try.ntmps96
        go_wp2
        go_returns
        exact BoolPost.mk ⟨fun _ => (unhide HK).2 (by simp <;> omega), fun _ => by first | rfl | (simp <;> omega)⟩ ((Below.refl _ _).alloc (Nat.le_refl _) _)
      · rcases D2 with rfl | t2
        · clear D3
          go_enter Try.func96, Try.ntmps96
          go_wp2
          go_returns
          exact BoolPost.mk ⟨fun _ => (unhide HK).2 (by simp <;> omega), fun _ => by first | rfl | (simp <;> omega)⟩ ((Below.refl _ _).alloc (Nat.le_refl _) _)
        · rcases D3 with t3 | rfl
          · have T3 := hide t3
            go_enter Try.func96, Try.ntmps96
            go_wp2
            go_returns
            exact BoolPost.mk ⟨fun _ => (unhide HK).2 (by have := unhide T3; simp <;> omega), fun _ => by first | rfl | (simp <;> omega)⟩ ((Below.refl _ _).alloc (Nat.le_refl _) _)
          · have T2 : Hid (pid ≠ 0) := by show pid ≠ 0; omega
            go_enter Try.func96, Try.ntmps96
            go_wp2
            go_returns
            refine BoolPost.mk ?_ ((Below.refl _ _).alloc (Nat.le_refl _) _)
            have := unhide T2
            rw [unhide HK]
            simp <;> omega
    · have T2 : Hid (0 < n) := by show 0 < n; omega
      clear D2 D3
      go_enter Try.func96, Try.ntmps96
      go_wp2
      go_returns
      exact BoolPost.mk ⟨fun _ => (unhide HK).2 (by have := unhide T2; simp <;> omega), fun _ => by first | rfl | (simp <;> omega)⟩ ((Below.refl _ _).alloc (Nat.le_refl _) _)
theorem badKind_any (b : Bt) (a : Option Addr) (cap : Nat) (w : World) :
    Calls Try.prog 96 #[bv b a cap] w fun e w' => BoolPost w (kindB b) e w' :=
  badKind_n b.base b.epoch b.pid b.pep b.seq b.txn b.ctl b.com b.vs.length a cap w (kindB b) Iff.rfl

theorem long_at {vs : List (List Nat)} {k : Nat} (hk : k < vs.length) (h : 64 < (vs.getD k []).length) : longB vs := .inr ⟨_, by simp [List.getD, hk], h⟩
theorem long_no {vs : List (List Nat)} (h16 : ¬ 16 < vs.length) (h : ∀ j, j < vs.length → (vs.getD j []).length ≤ 64) : ¬ longB vs := by
  rintro (h1 | ⟨v, hv, h1⟩)
  · exact h16 h1
  · obtain ⟨i, hi, e⟩ := List.getElem_of_mem hv
    have := h i hi
    simp [List.getD, hi, e] at this
    omega

set_option maxRecDepth 100000 in
set_option maxHeartbeats 4000000 in
theorem tooLong_any (vs : List (List Nat)) (a : Option Addr) (cap : Nat) (w : World) (hp : RAt w a vs) :
    Calls Try.prog 97 #[.slice a vs.length cap] w fun e w' => BoolPost w (longB vs) e w' := by
  have HP := hide hp
  clear hp
  by_cases h16 : 16 < vs.length
  · have h16' : (16 : Int) < (vs.length : Int) := by omega
    go_enter Try.func97, Try.ntmps97
    go_wp2
    go_returns
    exact BoolPost.mk ⟨fun _ => .inl h16, fun _ => rfl⟩ (Below.refl _ _)
  · have h16' : ¬ (16 : Int) < (vs.length : Int) := by omega
    go_enter Try.func97, Try.ntmps97
    go_wp2_with fail
    go_loop [10] (fun i => ∃ k : Nat, k ≤ vs.length ∧ i = .int .i64 k ∧ ∀ j, j < k → (vs.getD j []).length ≤ 64) (fun i => vs.length - (intOf i).toNat)
    case atStart => exact ⟨0, Nat.zero_le _, rfl, fun j hj => by omega⟩
    case round =>
      obtain ⟨k, hk, rfl, hall⟩ := hrel
      have HA := hide hall
      clear hall
      by_cases hkc : k < vs.length
      · have hkc' : (k : Int) < (vs.length : Int) := by omega
        obtain ⟨bb, off, x, c, rfl, _, hcell, _, _⟩ := (unhide HP).cell hkc
        by_cases h64 : 64 < (vs.getD k []).length
        · have L := hide (long_at hkc h64)
          generalize vs.getD k [] = p at *
          have h64' : (64 : Int) < (p.length : Int) := by omega
          go_wp2
          go_returns
          exact BoolPost.mk ⟨fun _ => unhide L, fun _ => rfl⟩ (Below.refl _ _)
        · have HA2 : Hid (∀ j, j < k + 1 → (vs.getD j []).length ≤ 64) := fun j hj => by
            by_cases e : j = k
            · subst e; omega
            · exact unhide HA j (by omega)
          generalize vs.getD k [] = p at *
          have h64' : ¬ (64 : Int) < (p.length : Int) := by omega
          go_wp2
          go_round
          case rel => exact ⟨k + 1, by omega, by go_num, unhide HA2⟩
          case measure => simp [intOf]; omega
      · obtain rfl : k = vs.length := by omega
        have L := hide (long_no h16 (unhide HA))
        go_wp2
        go_returns
        exact BoolPost.mk ⟨(fun h => by cases h), fun h => absurd h (unhide L)⟩ (Below.refl _ _)

theorem IntPost.mk {w w' : World} {n : Nat} {e : Ending} (he : e = .returned (.int .i64 (n : Nat))) (hb : Below w.heap.size w w') : IntPost w n e w' := ⟨he, hb⟩
theorem bool_off {q : Bool} {p : Prop} (h : q = true ↔ p) (hp : ¬ p) : q = false := by cases q <;> simp_all

/-- A batch in its box. -/
def Box (w : World) (g : Nat) (b : Bt) (a : Option Addr) (cap : Nat) : Prop := w.heap[g]? = some (.cells #[.int .i64 b.base, .int .i64 b.epoch, .int .u64 (b.pid : Int), .int .i64 b.pep, .int .i64 b.seq, .bool b.txn, .bool b.ctl, .bool b.com, .slice a b.vs.length cap] 38)
theorem Box.later {w w' : World} {g : Nat} {b : Bt} {a : Option Addr} {cap : Nat} (h : Box w g b a cap) (hb : Below w.heap.size w w') : Box w' g b a cap := below_keep hb h
theorem Box.keep {w w' : World} {g : Nat} {b : Bt} {a : Option Addr} {cap : Nat} {S : Nat → Prop} (h : Box w g b a cap) (t : Touch S w w') (hs : ¬ S g) : Box w' g b a cap := t.keep h hs
theorem Box.new (w : World) (b : Bt) (a : Option Addr) (cap : Nat) : Box (w.alloc (.cells #[.int .i64 b.base, .int .i64 b.epoch, .int .u64 (b.pid : Int), .int .i64 b.pep, .int .i64 b.seq, .bool b.txn, .bool b.ctl, .bool b.com, .slice a b.vs.length cap] 38)) w.heap.size b a cap := heap_new _ _
theorem Box.cells {w : World} {g : Nat} {b : Bt} {a : Option Addr} {cap : Nat} (h : Box w g b a cap) :
    w.cell? ⟨g, 0, none⟩ = some (.int .i64 b.base) ∧ w.cell? ⟨g, 1, none⟩ = some (.int .i64 b.epoch) ∧ w.cell? ⟨g, 2, none⟩ = some (.int .u64 (b.pid : Int)) ∧ w.cell? ⟨g, 3, none⟩ = some (.int .i64 b.pep) ∧ w.cell? ⟨g, 4, none⟩ = some (.int .i64 b.seq) ∧ w.cell? ⟨g, 5, none⟩ = some (.bool b.txn) ∧ w.cell? ⟨g, 6, none⟩ = some (.bool b.ctl) ∧ w.cell? ⟨g, 7, none⟩ = some (.bool b.com) ∧ w.cell? ⟨g, 8, none⟩ = some (.slice a b.vs.length cap) := by
  refine ⟨?_, ?_, ?_, ?_, ?_, ?_, ?_, ?_, ?_⟩ <;> rw [cell_of h] <;> rfl

set_option maxRecDepth 100000 in
set_option maxHeartbeats 4000000 in
theorem check_any (b : Bt) (a : Option Addr) (cap : Nat) (w : World) (hp : RAt w a b.vs) :
    Calls Try.prog 92 #[bv b a cap] w fun e w' => IntPost w (chk b) e w' := by
  have HP := hide hp
  clear hp
  obtain ⟨base, epoch, pid, pep, seq, txn, ctl, com, vs⟩ := b
  have B0 : Hid (Below w.heap.size w (w.alloc (.cells #[.int .i64 base, .int .i64 epoch, .int .u64 (pid : Int), .int .i64 pep, .int .i64 seq, .bool txn, .bool ctl, .bool com, .slice a vs.length cap] 38))) := (Below.refl _ _).alloc (Nat.le_refl _) _
  have BX0 := hide (Box.new w ⟨base, epoch, pid, pep, seq, txn, ctl, com, vs⟩ a cap)
  go_enter Try.func92, Try.ntmps92
  go_wp2_with fail
  refine (outOf_any ⟨base, epoch, pid, pep, seq, txn, ctl, com, vs⟩ a cap _).mono ?_
  rintro e w1 ⟨q1, rfl, h1, b1⟩
  have B1 := hide ((unhide B0).trans (b1.mono (unhide B0).size))
  have BX1 := hide ((unhide BX0).later b1)
  clear b1 B0 BX0
  by_cases hO : outB ⟨base, epoch, pid, pep, seq, txn, ctl, com, vs⟩
  · obtain rfl := h1.2 hO
    have E := hide (chk_out hO)
    clear h1 hO
    go_wp2
    go_returns
    exact IntPost.mk (by rw [unhide E]; rfl) (unhide B1)
  · obtain rfl := bool_off h1 hO
    have XF := hide (chk_form hO)
    have XL := hide (chk_long hO)
    have XK := hide (chk_ok hO)
    clear h1 hO
    obtain ⟨k0, k1, k2, k3, k4, k5, k6, k7, k8⟩ := (unhide BX1).cells
    simp only at k0 k1 k2 k3 k4 k5 k6 k7 k8
    go_wp2_with fail
    refine (badProd_any ⟨base, epoch, pid, pep, seq, txn, ctl, com, vs⟩ a cap _).mono ?_
    rintro e w2 ⟨q2, rfl, h2, b2⟩
    have B2 := hide ((unhide B1).trans (b2.mono (unhide B1).size))
    have BX2 := hide ((unhide BX1).later b2)
    clear b2 B1 BX1 k0 k1 k2 k3 k4 k5 k6 k7 k8
    by_cases hP : prodB ⟨base, epoch, pid, pep, seq, txn, ctl, com, vs⟩
    · obtain rfl := h2.2 hP
      have E := hide (unhide XF (.inl hP))
      clear h2 hP XF XL XK
      go_wp2
      go_returns
      exact IntPost.mk (by rw [unhide E]; rfl) (unhide B2)
    · obtain rfl := bool_off h2 hP
      obtain ⟨k0, k1, k2, k3, k4, k5, k6, k7, k8⟩ := (unhide BX2).cells
      simp only at k0 k1 k2 k3 k4 k5 k6 k7 k8
      clear h2
      go_wp2_with fail
      refine (badKind_any ⟨base, epoch, pid, pep, seq, txn, ctl, com, vs⟩ a cap _).mono ?_
      rintro e w3 ⟨q3, rfl, h3, b3⟩
      have B3 := hide ((unhide B2).trans (b3.mono (unhide B2).size))
      have BX3 := hide ((unhide BX2).later b3)
      clear b3 B2 BX2 k0 k1 k2 k3 k4 k5 k6 k7 k8
      by_cases hK : kindB ⟨base, epoch, pid, pep, seq, txn, ctl, com, vs⟩
      · obtain rfl := h3.2 hK
        have E := hide (unhide XF (.inr hK))
        clear h3 hK hP XF XL XK
        go_wp2
        go_returns
        exact IntPost.mk (by rw [unhide E]; rfl) (unhide B3)
      · obtain rfl := bool_off h3 hK
        have XL2 := hide (unhide XL (fun h => h.elim hP hK))
        have XK2 := hide (unhide XK (fun h => h.elim hP hK))
        have P3 := hide ((unhide HP).later (unhide B3))
        obtain ⟨k0, k1, k2, k3, k4, k5, k6, k7, k8⟩ := (unhide BX3).cells
        simp only at k0 k1 k2 k3 k4 k5 k6 k7 k8
        clear h3 hP hK XF XL XK
        go_wp2_with fail
        refine (tooLong_any vs a cap _ (unhide P3)).mono ?_
        rintro e w4 ⟨q4, rfl, h4, b4⟩
        have B4 := hide ((unhide B3).trans (b4.mono (unhide B3).size))
        clear b4 B3 BX3 k0 k1 k2 k3 k4 k5 k6 k7 k8
        by_cases hL : longB vs
        · obtain rfl := h4.2 hL
          have E := hide (unhide XL2 hL)
          clear h4 hL XL2 XK2
          go_wp2
          go_returns
          exact IntPost.mk (by rw [unhide E]; rfl) (unhide B4)
        · obtain rfl := bool_off h4 hL
          have E := hide (unhide XK2 hL)
          clear h4 hL XL2 XK2
          go_wp2
          go_returns
          exact IntPost.mk (by rw [unhide E]; rfl) (unhide B4)
end Go.Proofs.Ytblmondkdcpkaaa
