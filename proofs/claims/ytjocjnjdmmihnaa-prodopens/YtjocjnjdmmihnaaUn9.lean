/-
  prod's Unstable, of any table. Conditions: none but the table's own.
-/
import Derived.Test.YtjocjnjdmmihnaaRn9
namespace Go.Proofs.Ytjocjnjdmmihnaa
open Go.RowKit Go.Maps
set_option linter.unusedVariables false

/-- A range under way over a map that may be none. -/
def PIT (w : World) (mv : Value) (r : Nat) (m todo : Pps) : Prop := (mv = .map none ∧ m = [] ∧ todo = [] ∧ w.heap[r]? = some (.mapIter none 0 #[] 0)) ∨ ∃ b, mv = .map (some b) ∧ PRG w b r m todo
def pleftM (mv : Value) (r : Nat) (w : World) : Nat :=
  match mv with
  | .map (some b) => w.rangeLeft b r
  | _ => 0
theorem PIT.lt {w : World} {mv : Value} {r : Nat} {m todo : Pps} (h : PIT w mv r m todo) : r < w.heap.size := by
  rcases h with ⟨_, _, _, h⟩ | ⟨b, _, h⟩
  · exact lt_of_heap h
  · exact h.lt
theorem PIT.later {w w' : World} {mv : Value} {r : Nat} {m todo : Pps} (h : PIT w mv r m todo) (hb : Below w.heap.size w w') : PIT w' mv r m todo ∧ pleftM mv r w' = pleftM mv r w := by
  have t : Touch (fun _ => False) w w' := Touch.of_below hb
  rcases h with ⟨e1, e2, e3, h⟩ | ⟨b, rfl, h⟩
  · exact ⟨.inl ⟨e1, e2, e3, t.keep h (fun h => h)⟩, by rw [e1]; rfl⟩
  · exact ⟨.inr ⟨b, rfl, h.keep t (fun h => h) (fun h => h)⟩, pleft_keep t h.pm.lt h.lt (fun h => h) (fun h => h)⟩
section
variable (w : World) {ops : Array Oper} {rest : List Oper} {o : Oper} {a : Act} {Q : Exit → Act → World → Prop}
theorem wpList_pitrange (hg : o.guard = none) (m : Operand) (hop : o.op = Op.range 46 m) (mv : Value) (ps : Pps) (hm : a.eval m = mv) (h : (mv = .map none ∧ ps = []) ∨ ∃ mb, mv = .map (some mb) ∧ PM w mb ps)
    (hK : ∀ w', PIT w' mv w.heap.size ps ps → Touch (fun _ => False) w w' → wpList Try.prog ops Q rest (a.put o.dst (.pointer (some ⟨w.heap.size, 0, none⟩))) w') : wpList Try.prog ops Q (o :: rest) a w := by
  refine wpList_plain hg fun K' hK' => ?_
  rcases h with ⟨rfl, rfl⟩ | ⟨b, rfl, h⟩
  · have hrun : (Instr.range 46 (.map none)).run Try.prog w = .ok (.pointer (some ⟨w.heap.size, 0, none⟩)) (w.alloc (.mapIter none 0 #[] 0)) := by
      simp [Instr.range, run_underlying Try.underlying46, Result.andThen]
    unfold Oper.wp
    simp [execOp, hop, hm, hrun, Result.andThen]
    exact hK' _ _ (hK _ (.inl ⟨rfl, rfl, rfl, heap_new _ _⟩) ((Touch.refl _ w).alloc _))
  · obtain ⟨w', hrun, r1, r2⟩ := h.range
    unfold Oper.wp
    simp [execOp, hop, hm, hrun, Result.andThen]
    exact hK' _ _ (hK w' (.inr ⟨b, rfl, r1⟩) r2)
theorem wpList_pitnext (hg : o.guard = none) (it : Operand) (hop : o.op = Op.next it false) (mv : Value) (r : Nat) (m todo : Pps) (hit : a.eval it = .pointer (some ⟨r, 0, none⟩)) (h : PIT w mv r m todo)
    (hDone : todo = [] → wpList Try.prog ops Q rest (a.put o.dst (.tuple #[.bool false])) w)
    (hMore : ∀ (p : Nat × Pd) (key : Value) (w' : World), p ∈ todo → p ∈ m → PIT w' mv r m (pdel todo p.1) → pleftM mv r w' < pleftM mv r w → Touch (· = r) w w' → (Instr.entry (.pointer (some ⟨r, 0, none⟩))).run Try.prog w' = .ok (.tuple #[key, pdV p.2]) w' →
      wpList Try.prog ops Q rest (a.put o.dst (.tuple #[.bool true, key, pdV p.2])) w') : wpList Try.prog ops Q (o :: rest) a w := by
  refine wpList_plain hg fun K' hK' => ?_
  unfold Oper.wp
  rcases h with ⟨rfl, rfl, rfl, h⟩ | ⟨b, rfl, h⟩
  · have hrun : (Instr.next (.pointer (some ⟨r, 0, none⟩)) false o.type).run Try.prog w = .ok (.tuple #[.bool false]) w := by
      simp only [Instr.next, getObj, Sem.run_bind, Sem.run, h, Result.andThen]
      rfl
    simp [execOp, hop, hit, hrun, Result.andThen]
    exact hK' _ _ (hDone rfl)
  · have hsub := h.sub
    rcases h.next o.type with ⟨h0, hrun⟩ | ⟨p, key, w', hp, hrun, r1, r2, r3, r4⟩
    · simp [execOp, hop, hit, hrun, Result.andThen]
      exact hK' _ _ (hDone h0)
    · simp [execOp, hop, hit, hrun, Result.andThen]
      exact hK' _ _ (hMore p key w' hp (hsub p hp) (.inr ⟨b, rfl, r1⟩) r2 r3 r4)
end
/-- What Unstable tells of the producers gone through. -/
def UnS (m todo : Pps) (fi : Int) (op : Bool) : Prop := (op = false ∧ fi = 0 ∧ ∀ p ∈ m, p ∉ todo → p.2.op = false) ∨ (op = true ∧ (∃ p ∈ m, p.2.op = true ∧ p.2.fi = fi) ∧ ∀ p ∈ m, p ∉ todo → p.2.op = true → fi ≤ p.2.fi)
theorem pm_one {m : Pps} (ha : m.Pairwise (fun p q => p.1 ≠ q.1)) {p q : Nat × Pd} (hp : p ∈ m) (hq : q ∈ m) (h : p.1 = q.1) : p = q := by
  obtain ⟨s, g⟩ := p
  obtain ⟨t, g'⟩ := q
  simp only at h
  subst h
  have h1 := pat_mem ha hp
  rw [pat_mem ha hq] at h1
  cases h1
  rfl
theorem UnS.step {m todo : Pps} {fi : Int} {op : Bool} (h : UnS m todo fi op) (ha : m.Pairwise (fun p q => p.1 ≠ q.1)) (hs : ∀ p ∈ todo, p ∈ m) {p : Nat × Pd} (hp : p ∈ todo) : UnS m (pdel todo p.1) (if p.2.op = true ∧ (op = false ∨ p.2.fi < fi) then p.2.fi else fi) (if p.2.op = true ∧ (op = false ∨ p.2.fi < fi) then true else op) := by
  have hnot : ∀ q ∈ m, q ∉ pdel todo p.1 → q ∉ todo ∨ q = p := fun q hq hn => by
    by_cases hqt : q ∈ todo
    · right
      by_cases he : q.1 = p.1
      · exact pm_one ha hq (hs p hp) he
      · exact absurd (by simpa [pdel] using And.intro hqt he) hn
    · exact .inl hqt
  by_cases hc : p.2.op = true ∧ (op = false ∨ p.2.fi < fi)
  · rw [if_pos hc, if_pos hc]
    refine .inr ⟨rfl, ⟨p, hs p hp, hc.1, rfl⟩, fun q hq hn hqo => ?_⟩
    rcases hnot q hq hn with e | e
    · rcases h with ⟨h1, h2, h3⟩ | ⟨h1, h2, h3⟩
      · rw [h3 q hq e] at hqo; cases hqo
      · have := h3 q hq e hqo
        rcases hc.2 with c | c
        · rw [c] at h1; cases h1
        · omega
    · rw [e]; exact Int.le_refl _
  · rw [if_neg hc, if_neg hc]
    rcases h with ⟨h1, h2, h3⟩ | ⟨h1, h2, h3⟩
    · refine .inl ⟨h1, h2, fun q hq hn => ?_⟩
      rcases hnot q hq hn with e | e
      · exact h3 q hq e
      · rw [e]
        cases ho : p.2.op
        · rfl
        · exact absurd ⟨ho, .inl h1⟩ hc
    · refine .inr ⟨h1, h2, fun q hq hn hqo => ?_⟩
      rcases hnot q hq hn with e | e
      · exact h3 q hq e hqo
      · rw [e] at hqo ⊢
        have : ¬ p.2.fi < fi := fun hh => hc ⟨hqo, .inr hh⟩
        omega
set_option maxRecDepth 100000 in
set_option maxHeartbeats 2000000 in
theorem unstable_tb {w : World} {tb n c : Nat} {mv av : Value} {m : Pps} {K : Nat → Option Kn} {R : Nat → Prop} (h : Tb w tb mv av m K n c R) :
    Calls Try.prog 9 #[.pointer (some ⟨tb, 0, none⟩)] w fun e w' => ∃ fi op, AnsPost w (.tuple #[.int .i64 fi, .bool op]) e w' ∧ UnS m [] fi op := by
  have c0 : w.cell? ⟨tb, 0, none⟩ = some mv := cell_of h.tab 0
  have HM : Hid ((mv = .map none ∧ m = []) ∨ ∃ mb, mv = .map (some mb) ∧ PM w mb m) := by
    rcases h.map with e | ⟨mb, e1, e2, _⟩
    · exact .inl e
    · exact .inr ⟨mb, e1, e2⟩
  have HAP : Hid (m.Pairwise (fun p q => p.1 ≠ q.1)) := by
    rcases h.map with ⟨_, e⟩ | ⟨mb, _, e2, _⟩
    · rw [e]; exact List.Pairwise.nil
    · exact e2.apart
  obtain ⟨mo, rfl⟩ := h.isMap
  clear h
  go_enter Try.func9, Try.ntmps9
  go_wp2_with (at_range; refine wpList_pitrange _ rfl _ rfl (.map mo) m rfl (unhide HM) ?_)
  intro w1 it1 t1
  have IT1 := hide it1
  have T1 := hide t1
  clear it1 t1
  go_wp2_with fail
  go_loopw [4, 5] (fun s4 s5 wr => ∃ fi op todo, s4 = .int .i64 fi ∧ s5 = .bool op ∧ UnS m todo fi op ∧ PIT wr (.map mo) w.heap.size m todo ∧ (∀ p ∈ todo, p ∈ m) ∧ Below w.heap.size w wr) (fun _ _ wr => pleftM (.map mo) w.heap.size wr)
  case atStart => exact ⟨0, false, m, rfl, rfl, .inl ⟨rfl, rfl, fun p hp hn => absurd hp hn⟩, unhide IT1, fun p hp => hp, ⟨(unhide T1).os, (unhide T1).tape, (unhide T1).output, (unhide T1).size, fun k hk => (unhide T1).block k hk (fun h => h)⟩⟩
  case round =>
    obtain ⟨fi, op, todo, rfl, rfl, us, it, hsub, br⟩ := hrel
    have US := hide us
    have PT := hide it
    have HSUB := hide hsub
    have BR := hide br
    clear us it hsub br IT1 T1 c0 HM
    go_wp2_with (at_next; refine wpList_pitnext _ rfl _ rfl (.map mo) w.heap.size m todo rfl (unhide PT) ?_ ?_)
    · intro htodo
      subst htodo
      have F : Hid (∃ f o, AnsPost w (.tuple #[.int .i64 f, .bool o]) (.returned (.tuple #[.int .i64 fi, .bool op])) wr ∧ UnS m [] f o) := ⟨fi, op, ⟨rfl, unhide BR⟩, unhide US⟩
      clear US PT HSUB BR HAP
      go_wp2
      go_returns
      exact unhide F
    · intro s pd key w3 hp hpm it3 hl3 t3 hen
      have st := (unhide US).step (unhide HAP) (unhide HSUB) hp
      have b3 : Below w.heap.size w w3 := below_touch (unhide BR) t3 (unhide BR).size (fun k hk => by omega)
      have sb : ∀ q ∈ pdel todo s, q ∈ m := fun q hq => unhide HSUB q (pdel_not hq).1
      obtain ⟨ep, nx, pg, sn, sc, po, pf⟩ := pd
      simp only [pdV, pdS] at hen st sb it3
      obtain ⟨sa, hsa⟩ : ∃ y, y = pg.map (fun g => (⟨g, 0, none⟩ : Addr)) := ⟨_, rfl⟩
      rw [← hsa] at hen
      simp only [pdV, pdS]
      rw [← hsa]
      have hA : Below w3.heap.size w3 (w3.alloc (.cells #[.int .i64 ep, .int .i64 nx, .slice sa sn sc, .bool po, .int .i64 pf] 44)) := (Below.refl _ _).alloc (Nat.le_refl _) _
      obtain ⟨it4, lm⟩ := it3.later hA
      have IT4 := hide it4
      have B4 := hide (b3.trans (hA.mono b3.size))
      have SB4 := hide sb
      have LM4 : Hid (pleftM (.map mo) w.heap.size (w3.alloc (.cells #[.int .i64 ep, .int .i64 nx, .slice sa sn sc, .bool po, .int .i64 pf] 44)) < pleftM (.map mo) w.heap.size wr) := by rw [lm]; exact hl3
      have G : (w3.alloc (.cells #[.int .i64 ep, .int .i64 nx, .slice sa sn sc, .bool po, .int .i64 pf] 44)).heap[w3.heap.size]? = some (.cells #[.int .i64 ep, .int .i64 nx, .slice sa sn sc, .bool po, .int .i64 pf] 44) := heap_new _ _
      have x3 : (w3.alloc (.cells #[.int .i64 ep, .int .i64 nx, .slice sa sn sc, .bool po, .int .i64 pf] 44)).cell? ⟨w3.heap.size, 3, none⟩ = some (.bool po) := cell_of G 3
      have x4 : (w3.alloc (.cells #[.int .i64 ep, .int .i64 nx, .slice sa sn sc, .bool po, .int .i64 pf] 44)).cell? ⟨w3.heap.size, 4, none⟩ = some (.int .i64 pf) := cell_of G 4
      clear it3 hl3 t3 hp hpm b3 sb hsa hA it4 lm G US PT HSUB BR HAP
      cases po with
      | false =>
        have ST : Hid (UnS m (pdel todo s) fi op) := by rw [if_neg (fun h => Bool.noConfusion h.1), if_neg (fun h => Bool.noConfusion h.1)] at st; exact st
        clear st
        go_wp2
        go_roundw
        case rel =>
          first
            | exact ⟨_, _, _, rfl, rfl, unhide ST, unhide IT4, unhide SB4, unhide B4⟩
            | ((repeat apply Exists.intro); refine ⟨?_, ?_⟩; rotate_left; · (repeat' (first | exact rfl | apply And.intro)); · exact ⟨_, _, _, rfl, rfl, unhide ST, unhide IT4, unhide SB4, unhide B4⟩)
        case measure => exact unhide LM4
      | true =>
        cases op with
        | false =>
          have ST : Hid (UnS m (pdel todo s) pf true) := by rw [if_pos ⟨rfl, .inl rfl⟩, if_pos ⟨rfl, .inl rfl⟩] at st; exact st
          clear st
          go_wp2
          go_roundw
          case rel =>
            first
              | exact ⟨_, _, _, rfl, rfl, unhide ST, unhide IT4, unhide SB4, unhide B4⟩
              | ((repeat apply Exists.intro); refine ⟨?_, ?_⟩; rotate_left; · (repeat' (first | exact rfl | apply And.intro)); · exact ⟨_, _, _, rfl, rfl, unhide ST, unhide IT4, unhide SB4, unhide B4⟩)
          case measure => exact unhide LM4
        | true =>
          by_cases hlt : pf < fi
          · have ST : Hid (UnS m (pdel todo s) pf true) := by rw [if_pos ⟨rfl, .inr hlt⟩, if_pos ⟨rfl, .inr hlt⟩] at st; exact st
            clear st
            go_wp2
            go_roundw
            case rel =>
              first
                | exact ⟨_, _, _, rfl, rfl, unhide ST, unhide IT4, unhide SB4, unhide B4⟩
                | ((repeat apply Exists.intro); refine ⟨?_, ?_⟩; rotate_left; · (repeat' (first | exact rfl | apply And.intro)); · exact ⟨_, _, _, rfl, rfl, unhide ST, unhide IT4, unhide SB4, unhide B4⟩)
            case measure => exact unhide LM4
          · have ST : Hid (UnS m (pdel todo s) fi true) := by
              rw [if_neg (fun h => h.2.elim (fun e => Bool.noConfusion e) hlt), if_neg (fun h => h.2.elim (fun e => Bool.noConfusion e) hlt)] at st
              exact st
            clear st
            go_wp2
            go_roundw
            case rel =>
              first
                | exact ⟨_, _, _, rfl, rfl, unhide ST, unhide IT4, unhide SB4, unhide B4⟩
                | ((repeat apply Exists.intro); refine ⟨?_, ?_⟩; rotate_left; · (repeat' (first | exact rfl | apply And.intro)); · exact ⟨_, _, _, rfl, rfl, unhide ST, unhide IT4, unhide SB4, unhide B4⟩)
            case measure => exact unhide LM4
end Go.Proofs.Ytjocjnjdmmihnaa
