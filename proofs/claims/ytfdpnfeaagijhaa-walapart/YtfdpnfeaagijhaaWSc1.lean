/-
  Lists of payloads in memory: rows of slices. Scan, DocScan, SameList and join by plain functions on lists. Conditions: the bytes are at most 2^40, the payloads at most 2^40.
-/
import Derived.Test.YtfdpnfeaagijhaaWSc0
import Derived.Test.YtfdpnfeaagijhaaWFrameEncodesWalk
import Derived.BigQuiet

namespace Go.Proofs.Ytfdpnfeaagijhaa
variable {Xo : Outer}
open Go.RowKit
set_option linter.unusedVariables false

theorem below_drewN3 {B : Nat} {w0 w : World} (h : Below B w0 w) (n : Nat) : Below B w0 (w.drewN n) := h.trans ⟨rfl, rfl, rfl, Nat.le_refl _, fun _ _ => rfl⟩
theorem lat_lt {w : World} {a : Option Addr} {t : List Nat} (h : LAt w a t) (h0 : 0 < t.length) {x : Addr} (hx : a = some x) : x.block < w.heap.size := by
  obtain ⟨b, off, e1, e2, _⟩ := h.cell h0
  rw [hx] at e1; cases e1; exact e2

/-- A slice of bytes that reads as a list. -/
def Elem (w : World) (u : Value) (l : List Nat) : Prop := ∃ a c, u = .slice a l.length c ∧ LAt w a l ∧ (a = none → c = 0)
theorem Elem.later {w w' : World} {u : Value} {l : List Nat} (h : Elem w u l) (hb : Below w.heap.size w w') : Elem w' u l := by
  obtain ⟨a, c, e, h1, h2⟩ := h; exact ⟨a, c, e, h1.later hb, h2⟩
theorem Elem.one {w : World} {u : Value} {l : List Nat} (h : Elem w u l) : u.oneCell' = true := by obtain ⟨a, c, rfl, _⟩ := h; rfl
theorem Row.elem {w : World} {u : Value} {l : List Nat} (h : Row w u l) : Elem w u l := by
  obtain ⟨a, c, e, h1, h2, _, h3, _⟩ := h.parts; exact ⟨a, c, e, h1, h3⟩
theorem Row.one {w : World} {u : Value} {l : List Nat} (h : Row w u l) : u.oneCell' = true := h.elem.one

/-- A list of slices in memory that reads as a list of lists. -/
def RAt (w : World) (a : Option Addr) (ls : List (List Nat)) : Prop :=
  ∀ i, i < ls.length → ∃ b off u, a = some ⟨b, off, none⟩ ∧ b < w.heap.size ∧ w.cell? ⟨b, off + i, none⟩ = some u ∧ Elem w u (ls.getD i [])
/-- .. each of them with its room. -/
def Caps (w : World) (a : Option Addr) (ls : List (List Nat)) : Prop := ∀ i, i < ls.length → ∃ b off x c, a = some ⟨b, off, none⟩ ∧ w.cell? ⟨b, off + i, none⟩ = some (.slice x (ls.getD i []).length c) ∧ (ls.getD i []).length ≤ c
theorem Caps.cap {w : World} {a : Option Addr} {ls : List (List Nat)} (h : Caps w a ls) {i b off c : Nat} {x : Option Addr} (hi : i < ls.length) (ha : a = some ⟨b, off, none⟩) (hc : w.cell? ⟨b, off + i, none⟩ = some (.slice x (ls.getD i []).length c)) : (ls.getD i []).length ≤ c := by
  obtain ⟨b', off', x', c', e1, e2, e3⟩ := h i hi
  rw [ha] at e1
  cases e1
  rw [hc] at e2
  cases e2
  exact e3
theorem RAt.later {w w' : World} {a : Option Addr} {ls : List (List Nat)} (h : RAt w a ls) (hb : Below w.heap.size w w') : RAt w' a ls := by
  intro i hi
  obtain ⟨b, off, u, h1, h2, h3, h4⟩ := h i hi
  exact ⟨b, off, u, h1, Nat.lt_of_lt_of_le h2 hb.size, (hb.cell (p := ⟨b, off + i, none⟩) h2).trans h3, h4.later hb⟩
theorem RAt.drewN {w : World} {a : Option Addr} {ls : List (List Nat)} (h : RAt w a ls) (n : Nat) : RAt (w.drewN n) a ls := h
theorem RAt.take {w : World} {a : Option Addr} {ls : List (List Nat)} (h : RAt w a ls) (k : Nat) : RAt w a (ls.take k) := by
  intro i hi
  rw [List.length_take] at hi
  obtain ⟨b, off, u, h1, h2, h3, h4⟩ := h i (by omega)
  have e : (ls.take k).getD i [] = ls.getD i [] := by simp [List.getD, show i < k by omega]
  exact ⟨b, off, u, h1, h2, h3, by rw [e]; exact h4⟩
/-- Element i, with its shape. -/
theorem RAt.cell {w : World} {a : Option Addr} {ls : List (List Nat)} (h : RAt w a ls) {i : Nat} (hi : i < ls.length) : ∃ b off x c, a = some ⟨b, off, none⟩ ∧ b < w.heap.size ∧ w.cell? ⟨b, off + i, none⟩ = some (.slice x (ls.getD i []).length c) ∧ LAt w x (ls.getD i []) ∧ (x = none → c = 0) := by
  obtain ⟨b, off, u, h1, h2, h3, x, c, rfl, h4, h5⟩ := h i hi
  exact ⟨b, off, x, c, h1, h2, h3, h4, h5⟩

/-- A row of slices that the call has made; E says what each is. -/
structure Spine (E : Value → List Nat → Prop) (w : World) (v : Value) (vs : List Value) (ls : List (List Nat)) : Prop where
  own : Own w 32 v vs
  len : vs.length = ls.length
  each : ∀ i, i < ls.length → ∃ u, vs[i]? = some u ∧ E u (ls.getD i [])
section
variable {E F : Value → List Nat → Prop} {w w' : World} {v v' u : Value} {vs : List Value} {ls : List (List Nat)} {l : List Nat}
theorem Spine.nil (E : Value → List Nat → Prop) (w : World) : Spine E w (.slice none 0 0) [] [] := ⟨Own.nil _ _, rfl, fun i hi => by cases hi⟩
theorem Spine.imp (h : Spine E w v vs ls) (he : ∀ u l, E u l → F u l) : Spine F w v vs ls := ⟨h.own, h.len, fun i hi => by obtain ⟨u, h1, h2⟩ := h.each i hi; exact ⟨u, h1, he u _ h2⟩⟩
theorem Spine.keep {S : Nat → Prop} (h : Spine E w v vs ls) (t : Touch S w w') (hs : ∀ k, v.ownBlock = some k → ¬ S k) : Spine E w' v vs ls := ⟨h.own.keep t hs, h.len, h.each⟩
theorem Spine.later (h : Spine E w v vs ls) (hb : Below w.heap.size w w') : Spine E w' v vs ls := ⟨h.own.later hb, h.len, h.each⟩
theorem Spine.drewN (h : Spine E w v vs ls) (n : Nat) : Spine E (w.drewN n) v vs ls := ⟨h.own, h.len, h.each⟩
theorem Spine.push (h : Spine E w v vs ls) (o : Own w' 32 v' (vs ++ [u])) (he : E u l) : Spine E w' v' (vs ++ [u]) (ls ++ [l]) := by
  refine ⟨o, by simp [h.len], fun i hi => ?_⟩
  rw [List.length_append, List.length_singleton] at hi
  by_cases hc : i < ls.length
  · obtain ⟨x, h1, h2⟩ := h.each i hc
    refine ⟨x, by rw [List.getElem?_append_left (by rw [h.len]; exact hc)]; exact h1, ?_⟩
    have e : (ls ++ [l]).getD i [] = ls.getD i [] := by simp [List.getD, List.getElem?_append_left hc]
    rw [e]; exact h2
  · obtain rfl : i = ls.length := by omega
    refine ⟨u, by rw [← h.len]; simp, ?_⟩
    have e : (ls ++ [l]).getD ls.length [] = l := by simp [List.getD]
    rw [e]; exact he
theorem Spine.parts (h : Spine E w v vs ls) (he : ∀ u l, E u l → Elem w u l) : ∃ a cap, v = .slice a ls.length cap ∧ RAt w a ls ∧ ls.length ≤ cap ∧ cap ≤ maxLen ∧ (a = none → cap = 0) ∧ (∀ x, a = some x → v.ownBlock = some x.block) := by
  obtain ⟨a, cap, e1, e2, e3, e4, e5, e6⟩ := h.own.parts
  rw [h.len] at e1 e2
  refine ⟨a, cap, e1, fun i hi => ?_, e2, e3, e4, e5⟩
  obtain ⟨g, ha, hg, hc, _⟩ := e6 i (by rw [h.len]; exact hi)
  obtain ⟨u, h1, h2⟩ := h.each i hi
  exact ⟨g, 0, u, ha, hg, by rw [Nat.zero_add, hc, h1], he u _ h2⟩
theorem Spine.shape (h : Spine E w v vs ls) : ∃ a n cap, v = .slice a n cap := by obtain ⟨a, cap, e, _⟩ := h.own.parts; exact ⟨a, _, cap, e⟩
/-- The spine's block is no row of bytes. -/
theorem Spine.apart (h : Own w 32 v vs) (r : Row w u l) : ∀ k, u.ownBlock = some k → v.ownBlock = some k → False := by
  intro k h1 h2
  rcases h.2 with ⟨rfl, _⟩ | ⟨g, cap, cur, rfl, _, hgg, _⟩
  · simp [Value.ownBlock] at h2
  · rcases r.own.2 with ⟨rfl, _⟩ | ⟨g', cap', cur', rfl, _, hgg', _⟩
    · simp [Value.ownBlock] at h1
    · have e1 : g' = k := by simpa [Value.ownBlock] using h1
      have e2 : g = k := by simpa [Value.ownBlock] using h2
      rw [e1] at hgg'
      rw [e2, hgg'] at hgg
      simp at hgg
end

theorem sl_info : ∃ i, Try.prog.info? 32 = some i ∧ i.zero = some (.slice none 0 0) ∧ i.size = 1 ∧ i.bytes = 24 := by
  have h : (Try.prog.info? 32).map (fun i => (i.zero, i.size, i.bytes)) = some (some (.slice none 0 0), 1, 24) := by kernel_rfl
  exact info_parts h
/-- append(list, one slice). -/
theorem wpList_elem (w : World) {ops : Array Oper} {rest : List Oper} {o : Oper} {a : Act} {Q : Exit → Act → World → Prop}
    (hg : o.guard = none) (s x : Operand) (hop : o.op = Op.call { callee := Callee.builtin Builtin.append, args := #[s, x], argTypes := #[22, 22] })
    (v : Value) (vs : List Value) (hs : a.eval s = v) (hr : Own w 32 v vs) (g : Nat) (u : Value) (hx : a.eval x = .slice (some ⟨g, 0, none⟩) 1 1) (hu : w.cell? ⟨g, 0, none⟩ = some u) (h1 : u.oneCell' = true) (hlen : vs.length ≤ 1099511627776)
    (hK : ∀ v' w', Own w' 32 v' (vs ++ [u]) → Touch (fun k => v.ownBlock = some k) w w' → Moved w v v' → wpList Try.prog ops Q rest (a.put o.dst v') w') :
    wpList Try.prog ops Q (o :: rest) a w := by
  obtain ⟨i, hi, hz, hsz, hby⟩ := sl_info
  refine wpList_app w hg s x 22 hop 32 i (.slice none 0 0) 24 Try.underlying22 hi hz hsz hby rfl v vs hs hr (some ⟨g, 0, none⟩) 1 1 [u] hx rfl ?_ ?_ (fun h => by cases h) (by unfold maxLen; omega) (by omega) hK
  · intro j y hj
    match j, hj with
    | 0, hj => cases hj; exact ⟨g, 0, rfl, hu⟩
  · intro y hy; rw [List.mem_singleton] at hy; subst hy; exact h1

section
variable {w : World} {fb : Nat} {a : Option Addr} {cap : Nat} {t : List Nat}

/-- What a payload of Scan's is. -/
def Mine4 (w0 w : World) (u : Value) (l : List Nat) : Prop := Row w u l ∧ New w0 u
/-- What Scan answers, and what DocScan does. -/
def Paid (w0 w : World) (v : Value) (ls : List (List Nat)) : Prop := ∃ vs, Spine (Mine4 w0 w) w v vs ls
def ElemIn (a : Option Addr) (w : World) (u : Value) (l : List Nat) : Prop := Elem w u l ∧ ∀ x n c, u = .slice (some x) n c → ∃ y, a = some y ∧ x.block = y.block
def Told (a : Option Addr) (w0 w : World) (v : Value) (ls : List (List Nat)) : Prop := ∃ vs, Spine (ElemIn a w0) w v vs ls
theorem told_at {a : Option Addr} {w w1 wx : World} {v : Value} {vs : List Value} {ls : List (List Nat)} {t : List Nat} (sp : Spine (ElemIn a w1) wx v vs ls) (b1 : Below w.heap.size w w1) (bx : Below w.heap.size w wx) (hp : LAt w a t) (h0 : 0 < ls.length → 0 < t.length) :
    ∃ a' cap', v = .slice a' ls.length cap' ∧ RAt wx a' ls ∧ ls.length ≤ cap' ∧ (a' = none → cap' = 0) ∧ (∀ x, a' = some x → v.ownBlock = some x.block) := by
  by_cases hl : 0 < ls.length
  · obtain ⟨a', cap', e1, e2, e3, _, e4, e5⟩ := sp.parts (w := wx) (fun u l h => by
      obtain ⟨⟨x, c, e, h1, h2⟩, h3⟩ := h
      refine ⟨x, c, e, fun i hi => ?_, h2⟩
      obtain ⟨b, off, f1, f2, f3, f4⟩ := h1.cell hi
      obtain ⟨y, hy, ey⟩ := h3 ⟨b, off, none⟩ l.length c (by rw [e, f1])
      have hb : b < w.heap.size := by
        have := lat_lt hp (h0 hl) hy
        have ey' : b = y.block := ey
        omega
      refine ⟨b, off, f1, Nat.lt_of_lt_of_le hb bx.size, ?_, f4⟩
      rw [bx.cell (p := ⟨b, off + i, none⟩) hb, ← b1.cell (p := ⟨b, off + i, none⟩) hb]
      exact f3)
    exact ⟨a', cap', e1, e2, e3, e4, e5⟩
  · obtain ⟨a', cap', e1, e2, _, e4, e5, _⟩ := sp.own.parts
    rw [sp.len] at e1 e2
    exact ⟨a', cap', e1, fun i hi => by omega, e2, e4, e5⟩
theorem Paid.parts {w0 w : World} {v : Value} {ls : List (List Nat)} (h : Paid w0 w v ls) : ∃ a cap, v = .slice a ls.length cap ∧ RAt w a ls ∧ ls.length ≤ cap ∧ cap ≤ maxLen ∧ (a = none → cap = 0) ∧ (∀ x, a = some x → v.ownBlock = some x.block) := by
  obtain ⟨vs, h⟩ := h; exact h.parts (fun u l h => h.1.elem)

set_option maxRecDepth 100000 in
set_option maxHeartbeats 4000000 in
theorem fscan_any (hr : Ready Xo w fb) (hp : LAt w a t) (hn : a = none → cap = 0) (hc : t.length ≤ cap) (hs : 0 < t.length → ∀ x, a = some x → x.block ≠ fb) (hl : t.length ≤ 1099511627776) :
    Calls Try.prog 23 #[.pointer (some ⟨fb, 2, none⟩), .slice a t.length cap] w fun e w' => ∃ v, e = .returned (.tuple #[v, .int .i64 ((scan t).2.1 : Nat), .int .i64 ((scan t).2.2 : Nat)]) ∧ Paid w w' v (scan t).1 ∧ New w v ∧ Fdone Xo w w' fb := by
  have HR := hide hr
  have HP := hide hp
  have HS := hide hs
  have hfb := hr.lt
  clear hr hp hs
  go_enter Try.func23, Try.ntmps23
  go_wp2_with fail
  go_loopw [7, 8] (fun pv pl wr => ∃ (v1 : Value) (p : Nat) (vs : List Value) (ls : List (List Nat)), v1 = pv ∧ pl = .int .i64 p ∧ Scanned t p ls ∧ Spine (Mine4 w wr) wr v1 vs ls ∧ New w v1 ∧ Fdone Xo w wr fb) (fun _ pl _ => t.length - (intOf pl).toNat)
  case atStart => exact ⟨_, 0, [], [], rfl, rfl, Scanned.start t, Spine.nil _ _, New.nil _, unhide HR, Touch.refl _ _⟩
  case round =>
    obtain ⟨v1, p, vs, ls, rfl, rfl, hsc, hsp, hnw, hfd⟩ := hrel
    have HSC := hide hsc
    have HSP := hide hsp
    have HNW := hide hnw
    have HFD := hide hfd
    have hpl := hsc.1
    have hll := hsc.2.1
    clear hsc hsp hnw hfd HR
    by_cases hpt : p < t.length
    · have hpt' : (p : Int) < (t.length : Int) := by omega
      have hsl := slice_l a t.length cap p (by omega)
      have P1 := (unhide HP).keep (unhide HFD).touch (unhide HS)
      have DE := fdecode_any (cap := cap - p) (unhide HFD).ready (P1.drop hc p) (cut_none hn) (by rw [List.length_drop]; omega) (fun h0 x hx => by obtain ⟨y, hy, e⟩ := cut_block hx; rw [e]; exact unhide HS (by omega) y hy) (by rw [List.length_drop]; omega)
      rw [List.length_drop] at DE
      have DEH := hide DE
      clear DE P1
      go_wp2_with fail
      refine (unhide DEH).mono ?_
      rintro e w2 ⟨v2, rfl, r2, n2, d2⟩
      have HR2 := hide r2
      have N2 : Hid (New w v2) := n2.mono (unhide HFD).touch.size
      have FD2 : Hid (Fdone Xo w w2 fb) := ⟨d2.ready, (unhide HFD).touch.trans d2.touch⟩
      have SP2 : Hid (Spine (Mine4 w w2) w2 v1 vs ls) := ((unhide HSP).keep d2.touch (fun k hk e => by have := unhide HNW k hk; omega)).imp (fun u l h => ⟨h.1.keep d2.touch (fun k hk e => by have := h.2 k hk; omega), h.2⟩)
      obtain ⟨a2, m2, c2, rfl⟩ := r2.shape
      by_cases he : (dec (t.drop p)).2.2 = 0
      · have ST := hide ((unhide HSC).step hpt he)
        have hst := (unhide ST).1
        have hdk := (dec_ok he).1
        clear r2 n2 d2 DEH HSP HSC
        generalize dec (t.drop p) = D at *
        obtain ⟨W, sz, er⟩ := D
        simp only at he hdk hst
        subst he
        have O3 : Hid (Own (w2.alloc (.cells #[.slice a2 m2 c2] 32)) 32 v1 vs) := (unhide SP2).own.later ((Below.refl _ _).alloc (Nat.le_refl _) _)
        have hu : (w2.alloc (.cells #[.slice a2 m2 c2] 32)).cell? ⟨w2.heap.size, 0, none⟩ = some (.slice a2 m2 c2) := cell_of (heap_new _ _) 0
        have HU := hide hu
        clear hu
        have hvl := (unhide SP2).len
        have hvl' : vs.length ≤ 1099511627776 := by omega
        clear hvl
        go_wp2_with (at_builtin; refine wpList_elem _ rfl (.tmp 32) (.tmp 34) rfl v1 vs rfl (unhide O3) w2.heap.size (.slice a2 m2 c2) rfl (unhide HU) rfl hvl' ?_)
        intro v3 w3 o3 t3 m3
        have hA : Touch (fun _ => False) w2 (w2.alloc (.cells #[.slice a2 m2 c2] 32)) := (Touch.refl _ _).alloc _
        have hsz2 := (unhide FD2).touch.size
        have hrA : ∀ (x : Value) (l : List Nat), Row w2 x l → Row w3 x l := fun x l hx => (hx.keep hA (fun _ _ h => h)).keep t3 (fun k hk e => Spine.apart (unhide O3) (hx.keep hA (fun _ _ h => h)) k hk e)
        have F : Hid (Spine (Mine4 w w3) w3 v3 (vs ++ [.slice a2 m2 c2]) (ls ++ [W]) ∧ New w v3 ∧ Fdone Xo w w3 fb) := by
          refine ⟨?_, (unhide HNW).moved m3 (by simp; omega), ?_, ?_⟩
          · exact ((unhide SP2).imp (F := Mine4 w w3) (fun u l h => ⟨hrA u l h.1, h.2⟩)).push o3 ⟨hrA _ _ (unhide HR2), unhide N2⟩
          · exact ((unhide FD2).ready.keep hA (fun h => h)).keep t3 (fun h => by have := unhide HNW fb h; omega)
          · exact touch_new (touch_new (unhide FD2).touch hA (fun _ h => h.elim)) t3 (fun k hk => .inr (unhide HNW k hk))
        obtain ⟨a3, n3, c3, rfl⟩ : ∃ a n c, v3 = Value.slice a n c := (unhide F).1.shape
        clear o3 t3 m3 hA hrA O3 HU SP2 FD2 HR2 N2 HNW HFD
        go_wp2
        go_roundw
        case rel => exact ⟨_, p + sz, _, _, rfl, by go_num, unhide ST, unhide F⟩
        case measure => simp [intOf]; omega
      · have ST := hide ((unhide HSC).stop hpt he)
        clear r2 n2 d2 DEH HSP HSC
        generalize dec (t.drop p) = D at *
        obtain ⟨W, sz, er⟩ := D
        simp only at he ST
        have he' : ¬ (er : Int) = 0 := by omega
        obtain ⟨a1, n1, c1, rfl⟩ := (unhide SP2).shape
        go_wp2
        go_returns
        rw [unhide ST]
        exact ⟨_, rfl, ⟨vs, unhide SP2⟩, unhide HNW, unhide FD2⟩
    · have hpt' : ¬ (p : Int) < (t.length : Int) := by omega
      have ST := hide ((unhide HSC).end hpt)
      obtain ⟨a1, n1, c1, rfl⟩ := (unhide HSP).shape
      go_wp2
      go_returns
      rw [unhide ST]
      exact ⟨_, rfl, ⟨vs, unhide HSP⟩, unhide HNW, unhide HFD⟩
end
section
variable {w : World} {a : Option Addr} {cap : Nat} {t : List Nat}

set_option maxRecDepth 100000 in
set_option maxHeartbeats 2000000 in
theorem samelist_any (w : World) (a c : Option Addr) (ca cc : Nat) (ls : List (List Nat)) (ha : RAt w a ls) (hc : RAt w c ls) (hl : ls.length ≤ 9223372036854775807) (he : ∀ l ∈ ls, l.length ≤ 9223372036854775807) :
    Calls Try.prog 11 #[.slice a ls.length ca, .slice c ls.length cc] w fun e w' => e = .returned (.bool true) ∧ ∃ n, w' = w.drewN n := by
  have HA := hide ha
  have HC := hide hc
  clear ha hc
  go_enter Try.func11, Try.ntmps11
  go_wp2_with fail
  go_loopw [5] (fun i wr => ∃ (k n : Nat), k ≤ ls.length ∧ i = .int .i64 k ∧ wr = w.drewN n) (fun i _ => ls.length - (intOf i).toNat)
  case atStart => exact ⟨0, 0, Nat.zero_le _, rfl, rfl⟩
  case round =>
    obtain ⟨k, n, hk, rfl, hw⟩ := hrel
    have HW := hide hw
    by_cases hkl : k < ls.length
    · have hkl' : (k : Int) < (ls.length : Int) := by omega
      obtain ⟨b1, o1, x1, c1, rfl, _, h1', l1', _⟩ := (unhide HA).cell hkl
      obtain ⟨b2, o2, x2, c2, rfl, _, h2', l2', _⟩ := (unhide HC).cell hkl
      have h1 : wr.cell? ⟨b1, o1 + k, none⟩ = some (.slice x1 (ls.getD k []).length c1) := by rw [hw]; exact h1'
      have h2 : wr.cell? ⟨b2, o2 + k, none⟩ = some (.slice x2 (ls.getD k []).length c2) := by rw [hw]; exact h2'
      have l1 : LAt wr x1 (ls.getD k []) := by rw [hw]; exact l1'
      have l2 : LAt wr x2 (ls.getD k []) := by rw [hw]; exact l2'
      have SM : Hid (∀ n, Calls Try.prog 21 #[.slice x1 (ls.getD k []).length c1, .slice x2 (ls.getD k []).length c2] (wr.drewN n) fun e w' => e = .returned (.bool true) ∧ ∃ m, w' = (wr.drewN n).drewN m) := fun n => same_any (wr.drewN n) x1 x2 c1 c2 (ls.getD k []) l1 l2 (he _ (getD_mem_l hkl))
      clear l1 l2 h1' h2' l1' l2' hw
      generalize (ls.getD k []).length = L at *
      go_wp2_with fail
      go_quiet (first | (go_at_call 21; exact Calls.quiet_of (unhide SM _)))
      go_wp2
      go_roundw
      case rel => exact ⟨k + 1, n + nq, by omega, by go_num, by rw [unhide HW, World.drewN_drewN]⟩
      case measure => simp [intOf]; omega
    · have hkl' : ¬ (k : Int) < (ls.length : Int) := by omega
      clear hw
      go_wp2
      go_returns
      exact ⟨rfl, n, unhide HW⟩
end
end Go.Proofs.Ytfdpnfeaagijhaa
