/-
  wire's reader: takeAll at entries, batches and aborted transactions. Conditions: the reader as it lies.
-/
import Derived.Test.YtblmondkdcpkaaaZ20
import Derived.Test.YtblmondkdcpkaaaZ17
import Derived.Test.YtblmondkdcpkaaaZ21
import Derived.Test.YtblmondkdcpkaaaZ18

/-
  wire's reader: a batch, whatever its bytes are. Conditions: the reader as it lies.
-/
namespace Go.Proofs.Ytblmondkdcpkaaa
open Go.RowKit
set_option linter.unusedVariables false

theorem store_at {T : TypeId} {ops : Array Oper} {rest : List Oper} {op : Oper} {a : Act} {w : World} {Q : Exit → Act → World → Prop} (hgd : op.guard = none) (x y : Operand) (ho : op.op = .store T x y)
    (g : Nat) (L : List Value) (hx : a.eval x = .pointer (some ⟨g, 0, none⟩)) (hy : a.eval y = .agg L.toArray) {cs : Array Value}
    (hg : w.heap[g]? = some (.cells cs T)) (hi : (Try.prog.info? T).map (·.size) = some L.length) (hcs : cs.size = L.length) (h1 : L.toArray.all (·.oneCell') = true)
    (h : ∀ W, W.heap[g]? = some (.cells L.toArray T) → Touch (· = g) w W → wpList Try.prog ops Q rest (a.put op.dst undef) W) : wpList Try.prog ops Q (op :: rest) a w := by
  refine wpList_store_mid hgd T x y ho g 0 _ hx hy (there_of hg (by simp [hcs])) (by rw [hi]; simp) h1 ?_
  obtain ⟨q1, q2⟩ := heap_setCells L 0 w _ hg
  rw [lay_all hcs] at q1
  exact h _ q1 q2
theorem range_all {u : World} {g : Nat} {L : List Value} {T : TypeId} (h : u.heap[g]? = some (.cells L.toArray T)) : u.rangeAt g 0 L := range_of (o := 0) h (fun j v hv => by rw [Nat.zero_add]; exact hv)
def btL (B : Bt) (a : Option Addr) (c : Nat) : List Value := [.int .i64 B.base, .int .i64 B.epoch, .int .u64 (B.pid : Int), .int .i64 B.pep, .int .i64 B.seq, .bool B.txn, .bool B.ctl, .bool B.com, .slice a B.vs.length c]
theorem bt_one (B : Bt) (a : Option Addr) (c : Nat) : (btL B a c).toArray.all (·.oneCell') = true := by simp [btL, Value.oneCell']
theorem info_bt : (Try.prog.info? 38).map (·.size) = some 9 := by kernel_rfl
theorem zeroB_fits : zeroB.Fits := ⟨⟨by decide, by decide⟩, ⟨by decide, by decide⟩, by decide, ⟨by decide, by decide⟩, ⟨by decide, by decide⟩⟩
theorem decB_fits {t : List Nat} (hy : ∀ x ∈ t, x < 256) : (decB t).Fits := by
  unfold decB
  split
  · have hz : ∀ s, I64 (rI t s).1 := fun s => zag_fits (rU_fits hy)
    exact ⟨by show I64 (h1 t).1; rw [h1_eq]; exact hz _, by show I64 (h2 t).1; rw [h2_eq]; exact hz _, by show (h3 t).1 < _; rw [h3_eq]; exact rU_fits hy, by show I64 (h4 t).1; rw [h4_eq]; exact hz _, by show I64 (h5 t).1; rw [h5_eq]; exact hz _⟩
  · exact zeroB_fits
theorem rB_len {t : List Nat} {s : Rst} : (rB t s).1.length ≤ 4096 := by
  unfold rB
  split
  · split
    · simp
    · split
      · rw [List.length_take]
        omega
      · simp
  · simp
/-- What batch tells. -/
def BaV (w : World) (B : Bt) (v : Value) (W : World) : Prop := ∃ o : Ba, v = .agg (cellsBa o).toArray ∧ o.b = B ∧ Keeps w.heap.size W.heap.size W (fun W => BaIn W o)
section
variable {w : World} {b : Nat} {a : Option Addr} {cap : Nat} {t : List Nat} {s s' : Rst}
theorem res_bt {Y : World} {g : Nat} {L : List Value} {tmps : Array Value} (h : Y.heap[g]? = some (.cells L.toArray 38)) (hL : L.length = 9) (ht : tmps[2]?.getD undef = .pointer (some ⟨g, 0, none⟩)) :
    (results Try.f76 tmps).run Try.prog Y = .ok (.agg L.toArray) Y := by
  have hlv := run_loadVar_mid (P := Try.prog) Y g 0 38 L _ (range_all h) Try.underlying38 rfl (by rw [info_bt, hL])
  simp [results, Try.results76, ht, asAddr, hlv]
set_option maxRecDepth 100000 in
set_option maxHeartbeats 8000000 in
theorem batch_x {x : List Nat} (h : RdAt 97 w b a cap t s) (e0 : rB t s = (x, s')) :
    Calls Try.prog 76 #[.agg #[.pointer (some ⟨b, 0, none⟩)]] w fun e w' => RP w b a cap t (baE x) s' (BaV w (baB x)) e w' := by
  by_cases h0 : x.length = 0
  · have hx : x = [] := List.length_eq_zero_iff.1 h0
    subst hx
    refine (batch_r0 h e0).mono ?_
    rintro e w' ⟨rfl, r, tc⟩
    refine ⟨tc, fun _ => ⟨_, rfl, r, ⟨zeroB, none, 0⟩, rfl, rfl, ⟨Nat.le_refl _, fun S w'' _ _ => ⟨fun i hi => by simp [zeroB] at hi, zeroB_fits⟩⟩⟩, fun h => absurd rfl h⟩
  · have hB : baB x = decB x := by unfold baB; rw [if_neg h0]
    have hE : baE x = (decE x : Int) := by unfold baE; rw [if_neg h0]
    rw [hB, hE]
    have R0 := hide (Rg.start h zB 38)
    have HK := hide (rbytes_later (Rg.start h zB 38).rd e0)
    have hlx : x.length ≤ 140737488355328 := by
      have := rB_len (t := t) (s := s)
      rw [e0] at this
      simp only at this
      omega
    have hpos : (0 : Int) < (x.length : Int) := by omega
    clear h e0
    go_enter Try.func76, Try.ntmps76
    go_upto_region 1 with fail
    generalize (w.alloc (.cells #[.pointer (some ⟨b, 0, none⟩)] 84)).alloc (.cells zB 38) = W1 at *
    have z0 := (unhide R0).box
    go_wp2_with fail
    refine (unhide HK).mono ?_
    rintro e w2 ⟨v, rfl, r2, n2, rd2, t2⟩
    obtain ⟨va, vc, ev, l2, _, _, nn2, _⟩ := r2.parts
    subst ev
    have R2 := hide ((unhide R0).call rd2 (touch_new t2))
    have KD := hide (decode_any w2 l2 nn2 hlx)
    have HF := hide (decB_fits (t := x) l2.bytes)
    have hs0 := (unhide R0).sz
    have hs2 : W1.heap.size ≤ w2.heap.size := t2.size
    clear r2 n2 rd2 t2 l2 nn2 z0 HK R0 hB hE
    have hne : ¬ (x.length : Int) = 0 := by omega
    generalize x.length = nx at *
    go_wp2_with fail
    refine (unhide KD).mono ?_
    rintro e w3 ⟨ba, bc, rfl, p3, n3, b3⟩
    have R3 := hide ((unhide R2).call ((unhide R2).rd.later b3) (Touch.of_below b3))
    have HR3 : Hid (RAt w3 ba (decB x).vs) := hide (by obtain ⟨aa, cc, e, r, _⟩ := p3.parts; cases e; exact r)
    have Q3 : Hid (Keeps (w.heap.size + 2) w3.heap.size w3 (fun W => RAt W ba (decB x).vs)) := hide (((Keeps.paid p3 n3).wide (by omega) (Nat.le_refl _) (Nat.le_refl _)).imp (fun W h => by obtain ⟨aa, cc, e, r, _⟩ := h.parts; cases e; exact r))
    clear p3 n3 b3 KD HR3 R2
    generalize hBB : decB x = B at *
    have HBB := hide hBB
    clear hBB
    have A3 : Hid (∀ L : List Value, w3.heap.size = w3.heap.size) := hide (fun _ => rfl)
    have HB : Hid (∀ ob, Below w3.heap.size w3 (w3.alloc ob)) := hide (fun ob => (Below.refl w3.heap.size w3).alloc (Nat.le_refl _) ob)
    have HI : Hid ((Try.prog.info? 38).map (·.size) = some (btL B ba bc).length) := hide info_bt
    have HO := hide (bt_one B ba bc)
    have HC : Hid (zB.size = (btL B ba bc).length) := hide rfl
    have HV : Hid (bv B ba bc = .agg (btL B ba bc).toArray) := hide rfl
    have hsz3 := (unhide R3).sz
    obtain ⟨LL, hLL⟩ : ∃ LL, LL = btL B ba bc := ⟨_, rfl⟩
    rw [← hLL] at HI HO HC HV
    rw [unhide HV]
    have HLL := hide hLL
    clear hLL A3
    go_upto_region 5 with (with_reducible (show wpList _ _ _ (Oper.mk _ (Op.store _ _ _) _ _ _ _ :: _) _ _); refine store_at rfl (.tmp 4) (.tmp 16) rfl w3.heap.size LL rfl rfl (heap_new w3 _) (unhide HI) (unhide HC) (unhide HO) ?_; rintro W4 q1 q2; have Q1 := hide q1; have R4 := hide ((unhide R3).call (((unhide R3).rd.later (unhide HB _)).keep q2 (fun e => by have := (unhide R3).rd.lt; omega) (fun h0 x hx e => by have := (unhide R3).low h0 x hx; omega)) (((Touch.of_below (S := fun q => q = b ∨ w3.heap.size ≤ q) (unhide HB _))).trans (q2.mono (fun q hq => .inr (by omega))))); have K4 := hide (((unhide Q3).step (S := fun q => w3.heap.size ≤ q) (Touch.of_below (unhide HB _)) (fun k hk => .inr hk)).step q2 (fun k hk => .inr (by omega))); clear q1 q2)
    clear R3 Q3 HB HC
    generalize hEE : (decE x : Int) = E at *
    have HEE := hide hEE
    clear hEE
    by_cases hE : E = 0
    · subst hE
      have hs4 := (unhide R4).sz
      go_wp2_with fail
      refine (need_any 0 W4).mono ?_
      rintro e w5 ⟨rfl, he, _⟩
      obtain rfl := he rfl
      clear he
      have HRG := hide (range_all (unhide Q1))
      have HC : Hid (zB.size = LL.length) := hide (by rw [unhide HLL]; rfl)
      go_wp2_with (first
        | (with_reducible (show wpList _ _ _ (Oper.mk _ (Op.load _ _) _ _ _ _ :: _) _ _); refine wpList_load_mid rfl 38 (.tmp 4) rfl w3.heap.size 0 rfl LL _ (unhide HRG) Try.underlying38 rfl (unhide HI) ?_)
        | (with_reducible (show wpList _ _ _ (Oper.mk _ (Op.store _ _ _) _ _ _ _ :: _) _ _); refine store_at rfl (.tmp 2) (.tmp 20) rfl (w.heap.size + 1) LL rfl rfl (unhide R4).rs (unhide HI) (unhide HC) (unhide HO) ?_; rintro W6 q1 q2; have Q6 := hide q1; have R6 := hide (((unhide R4).rd.keep q2 (fun e => by have := (unhide R4).bl; omega) (fun h0 x hx e => by have := (unhide R4).low h0 x hx; omega))); have T6 := hide ((unhide R4).tc.trans (q2.mono (fun q hq => .inr (by omega)))); have K6 := hide ((unhide K4).step q2 (fun k hk => .inl (by omega))); clear q1 q2))
      have FF : Hid (RP w b a cap t (decE x : Int) s' (BaV w (decB x)) (.returned (.agg LL.toArray)) W6) := hide (by
        rw [unhide HEE, unhide HBB]
        refine ⟨unhide T6, fun _ => ⟨_, rfl, unhide R6, ⟨B, ba, bc⟩, by rw [unhide HLL]; rfl, rfl, ((unhide K6).wide (by omega) (unhide K6).old (Nat.le_refl _)).imp (fun W h => ⟨h, unhide HF⟩)⟩, fun h => absurd rfl h⟩)
      refine bodyPost_ret (res_bt (unhide Q6) (by rw [unhide HLL]; rfl) rfl) rfl ?_
      exact unhide FF
    · have hs4 := (unhide R4).sz
      go_wp2_with fail
      refine (need_any E W4).mono ?_
      rintro e w5 ⟨rfl, _, he⟩
      obtain rfl := he hE
      have T4 := hide (unhide R4).tc
      have HE := hide hE
      clear he hE
      go_wp2
      refine ⟨rfl, ?_⟩
      rw [unhide HEE]
      exact ⟨unhide T4, fun h => absurd h (unhide HE), fun _ => rfl⟩
end
end Go.Proofs.Ytblmondkdcpkaaa


/-
  What msg of wire's reader leaves; MgIn of a message that was told. Conditions: none.
-/
namespace Go.Proofs.Ytblmondkdcpkaaa
open Go.RowKit
set_option linter.unusedVariables false

/-- The first of two errors. -/
def oneE (E : Int) (t : List Nat) (s : Rst) : Int := if E ≠ 0 then E else (rE t s : Int)
theorem oneE_no {E : Int} {t : List Nat} {s : Rst} (h : E ≠ 0) : oneE E t s = E := by unfold oneE; rw [if_pos h]
theorem oneE_ok {E : Int} {t : List Nat} {s : Rst} (h : E = 0) : oneE E t s = (rE t s : Int) := by unfold oneE; rw [if_neg (by omega)]
/-- What msg leaves. -/
def MsQ (w : World) (b : Nat) (E : Int) (D : Mg → Prop) (e : Ending) (w' : World) : Prop :=
  Touch (fun q => q = b ∨ w.heap.size ≤ q) w w' ∧ (E = 0 → ∃ m : Mg, e = .returned (.agg (mgL m).toArray) ∧ D m ∧ Keeps w.heap.size w'.heap.size w' (fun W => MgIn W m)) ∧ (E ≠ 0 → e = gone E)
/-- A head alone. -/
theorem hd_in {W : World} {k1 k2 k3 k4 k5 : Int} (h : ∀ x ∈ [k1, k2, k3, k4, k5], I64 x) : MgIn W (hdM k1 k2 k3 k4 k5) := by
  have z : I64 0 := ⟨by decide, by decide⟩
  constructor
  all_goals first
    | exact h
    | (intro x hx; simp [hdM, mg0] at hx; unfold I64; omega)
    | (intro i hi; simp [hdM, mg0] at hi)
    | (simp [hdM, mg0]; done)
    | (exact ⟨by intro i hi; simp [hdM, mg0] at hi, by simp [hdM, mg0]⟩)
    | skip
  · exact ⟨z, z, z, z, z, fun x hx => by cases hx⟩
  · exact ⟨z, z, (show (0 : Nat) < 18446744073709551616 by decide), z, z⟩
end Go.Proofs.Ytblmondkdcpkaaa


namespace Go.Proofs.Ytblmondkdcpkaaa
open Go.RowKit
set_option linter.unusedVariables false

section
variable {α : Type} {cells : α → List Value} {In : World → α → Prop} {T : TypeId} {sz b : Nat} {w0 w w1 w2 w3 : World} {v v' : Value} {os : List α}
theorem flat_at {f : α → List Value} {m : Nat} (hm : ∀ x, (f x).length = m) : ∀ (l : List α) (i j : Nat) (hi : i < l.length), j < m → (l.flatMap f)[i * m + j]? = (f l[i])[j]? := by
  intro l
  induction l with
  | nil => intro i j hi; cases hi
  | cons x r ih =>
    intro i j hi hj
    rw [List.flatMap_cons]
    cases i with
    | zero => rw [Nat.zero_mul, Nat.zero_add, List.getElem?_append_left (by rw [hm]; exact hj)]; rfl
    | succ i =>
      have e : (i + 1) * m + j = (f x).length + (i * m + j) := by rw [hm, Nat.add_mul]; omega
      rw [e, List.getElem?_append_right (by omega), Nat.add_sub_cancel_left]
      exact ih i j (by simpa using hi) hj
/-- A list that is being taken. -/
structure Tk (cells : α → List Value) (In : World → α → Prop) (T : TypeId) (sz : Nat) (w0 w : World) (v : Value) (os : List α) : Prop where
  wide : Wide w T sz v os.length (os.flatMap cells)
  nw : ∀ k, v.ownBlock = some k → w0.heap.size < k
  els : ∀ o ∈ os, ∃ lo hi, Keeps lo hi w (fun W => In W o) ∧ w0.heap.size < lo ∧ ∀ g, v.ownBlock = some g → g < lo ∨ hi ≤ g
theorem Tk.nil (w0 w : World) : Tk cells In T sz w0 w (.slice none 0 0) [] := ⟨Wide.nil _ _ _, fun k hk => by simp [Value.ownBlock] at hk, fun o ho => by cases ho⟩
theorem Tk.read (h : Tk cells In T sz w0 w v os) (hb : b < w0.heap.size) (t : Touch (fun q => q = b ∨ w.heap.size ≤ q) w w1) : Tk cells In T sz w0 w1 v os := by
  refine ⟨h.wide.keep t (fun k hk hs => ?_), h.nw, fun o ho => ?_⟩
  · have h1 := h.nw k hk
    have h2 := h.wide.lt k hk
    rcases hs with e | e <;> omega
  · obtain ⟨lo, hi, k1, k2, k3⟩ := h.els o ho
    refine ⟨lo, hi, k1.step t (fun k hk => ?_), k2, k3⟩
    have := k1.old
    rcases hk with e | e
    · exact .inl (by omega)
    · exact .inr (by omega)
theorem Tk.app {o : α} {lo hi : Nat} (h : Tk cells In T sz w0 w v os) (hs : w0.heap.size < w.heap.size) (hk : Keeps lo hi w1 (fun W => In W o)) (hlo : w.heap.size ≤ lo) (hhi : hi ≤ w1.heap.size) (hww : w.heap.size ≤ w1.heap.size) (h1 : Tk cells In T sz w0 w1 v os)
    (hw : Wide w2 T sz v' (os.length + 1) (os.flatMap cells ++ cells o)) (t : Touch (fun k => v.ownBlock = some k) w1 w2) (m : Moved w1 v v') : Tk cells In T sz w0 w2 v' (os ++ [o]) := by
  refine ⟨by simpa using hw, fun k hk' => ?_, fun x hx => ?_⟩
  · rcases m k hk' with e | e
    · exact h.nw k e
    · omega
  · rcases List.mem_append.1 hx with e | e
    · obtain ⟨l', h', k1, k2, k3⟩ := h1.els x e
      refine ⟨l', h', k1.step t (fun k hk => k3 k hk), k2, fun g hg => ?_⟩
      rcases m g hg with e | e
      · exact k3 g e
      · exact .inr (Nat.le_trans k1.old e)
    · rw [List.mem_singleton] at e
      subst e
      have hv : ∀ g, v.ownBlock = some g → g < lo ∨ hi ≤ g := fun g hg => .inl (by have := h.wide.lt g hg; omega)
      refine ⟨lo, hi, hk.step t (fun k hk => hv k hk), by omega, fun g hg => ?_⟩
      rcases m g hg with e | e
      · exact hv g e
      · exact .inr (by omega)
/-- What a list tells. -/
def LsV (cells : α → List Value) (In : World → α → Prop) (sz : Nat) {β : Type} (vl : α → β) (w : World) (l : List β) (v : Value) (W : World) : Prop :=
  ∃ (os : List α) (a : Option Addr) (c : Nat), v = .slice a os.length c ∧ os.map vl = l ∧ os.length ≤ 512 ∧ Keeps w.heap.size W.heap.size W (fun W => RowsAt cells sz W a os ∧ ∀ o ∈ os, In W o)
theorem Tk.told {β : Type} {vl : α → β} {l : List β} (h : Tk cells In T sz w0 w v os) (hm : ∀ x, (cells x).length = sz) (hs : w0.heap.size ≤ w.heap.size) (hl : os.map vl = l) (hn : os.length ≤ 512) : LsV cells In sz vl w0 l v w := by
  obtain ⟨a, c, e, _⟩ := h.wide.parts
  refine ⟨os, a, c, e, hl, hn, Nat.le_refl _, fun S w' t hS => ⟨?_, fun o ho => ?_⟩⟩
  · have hw : Wide w' T sz v os.length (os.flatMap cells) := h.wide.keep t (fun k hk hs' => by
      have h1 := h.nw k hk
      have h2 := h.wide.lt k hk
      rcases hS k hs' with e | e <;> omega)
    intro i hi
    obtain ⟨a', c', e', _, _, _, _, hc⟩ := hw.parts
    rw [e] at e'
    cases e'
    obtain ⟨g, ea, hg, hcell, _⟩ := hc (by omega)
    refine ⟨g, 0, ea, hg, fun j hj => ?_⟩
    rw [Nat.zero_add, hcell (i * sz + j) (by
      have : (i + 1) * sz ≤ os.length * sz := Nat.mul_le_mul_right _ hi
      rw [Nat.add_mul] at this
      omega), flat_at hm os i j hi hj]
  · obtain ⟨lo, hi, k1, k2, k3⟩ := h.els o ho
    have := k1.old
    exact k1.all S w' t (fun k hk => by rcases hS k hk with e | e; exact .inl (by omega); exact .inr (by omega))
end
theorem info_tEn : ∃ i, Try.prog.info? 65 = some i ∧ i.zero = some (.agg #[.int .i64 0, .slice none 0 0]) ∧ i.size = 2 ∧ i.bytes = 32 := by
  have h : (Try.prog.info? 65).map (fun i => (i.zero, i.size, i.bytes)) = some (some (.agg #[.int .i64 0, .slice none 0 0]), 2, 32) := by kernel_rfl
  exact info_parts h
theorem En_one {w : World} {b : Nat} {a : Option Addr} {cap : Nat} {t : List Nat} {s : Rst} (h : RdAt 97 w b a cap t s) :
    Calls Try.prog 73 #[.agg #[.pointer (some ⟨b, 0, none⟩)]] w fun e w' => RP w b a cap t (rEn t s).1 (rEn t s).2.2 (fun v W => ∃ o : En, v = .agg (cellsEn o).toArray ∧ o.vl = (rEn t s).2.1 ∧ Keeps w.heap.size W.heap.size W (fun W => EnIn W o)) e w' := by
  refine (entry_x h rfl rfl).mono ?_
  rintro e w' ⟨t1, t2, t3⟩
  refine ⟨t1, fun h0 => ?_, fun h0 => absurd rfl h0⟩
  obtain ⟨v, e1, e2, o, e3, e4, e5, e6⟩ := t2 rfl
  exact ⟨v, e1, e2, o, e3, by unfold En.vl; rw [e4, e5]; rfl, e6⟩
set_option maxRecDepth 100000 in
set_option maxHeartbeats 8000000 in
theorem takeEn_x {w : World} {b : Nat} {a : Option Addr} {cap : Nat} {t : List Nat} {s : Rst} (h : RdAt 97 w b a cap t s) :
    Calls Try.prog 72 #[.agg #[.pointer (some ⟨b, 0, none⟩)], .func (.func 73) #[.agg #[.pointer (some ⟨b, 0, none⟩)]] #[]] w fun e w' => RP w b a cap t (rAll t (rEn t) s).1 (rAll t (rEn t) s).2.2 (LsV cellsEn EnIn 2 En.vl w (rAll t (rEn t) s).2.1) e w' := by
  have hb0 := (Below.refl w.heap.size w).alloc (Nat.le_refl _) (.cells #[.pointer (some ⟨b, 0, none⟩)] 84)
  have HX := hide (heap_new w (.cells #[.pointer (some ⟨b, 0, none⟩)] 84))
  have hbl := h.lt
  have hfit := rU_fits (t := t) (s := s) h.text.bytes
  have HB0 := hide hb0
  have LOW : Hid (0 < t.length → ∀ x, a = some x → x.block < w.heap.size) := hide (Rg.start h #[] 65).low
  have h1 := h.later hb0
  obtain ⟨n, s1, e1⟩ : ∃ n s1, rU t s = (n, s1) := ⟨_, _, rfl⟩
  have K := ruint_later h1 e1
  rw [e1] at hfit
  simp only at hfit
  have HK := hide K
  have hall : rAll t (rEn t) s = if 512 < n then (2, [], s1) else rN (rEn t) n s1 := by unfold rAll; rw [e1]
  have eg : ∀ args w, (callFunc 73 args).run Try.prog w = .ok (.enter 73 args) w := enters_of Try.func73 rfl rfl
  generalize rAll t (rEn t) s = R at *
  have HR := hide hall
  clear h hb0 h1 K e1 hall
  go_enter Try.func72, Try.ntmps72
  go_upto_region 1 with fail
  generalize w.alloc (.cells #[.pointer (some ⟨b, 0, none⟩)] 84) = W1 at *
  have z0 := cell_of (unhide HX) 0
  simp at z0
  go_wp2_with fail
  refine (unhide HK).mono ?_
  rintro e w2 ⟨rfl, rd2, t2⟩
  have R2 := hide rd2
  have T2 : Hid (Touch (fun q => q = b ∨ w.heap.size ≤ q) w w2) := hide ((Touch.of_below (unhide HB0)).trans (t2.mono (fun q hq => .inl hq)))
  have hs2 : w.heap.size + 1 ≤ w2.heap.size := Nat.le_trans (lt_of_heap (unhide HX)) t2.size
  clear rd2 t2 z0 HK HX HB0
  by_cases hn : 512 < n
  · have e2 := unhide HR
    rw [if_pos hn] at e2
    subst e2
    go_wp2_with fail
    refine (needCount_no w2 (n := n) (by unfold cntE; rw [if_pos hn]; decide)).mono ?_
    rintro e w3 ⟨rfl, rfl⟩
    go_wp2
    exact ⟨rfl, unhide T2, fun h => absurd h (by decide), fun _ => rfl⟩
  have e2 := unhide HR
  rw [if_neg hn] at e2
  have HR2 := hide e2.symm
  clear e2 HR
  go_wp2_with fail
  refine (needCount_ok w2 (n := n) (by unfold cntE; rw [if_neg hn])).mono ?_
  rintro e w3 ⟨rfl, rfl⟩
  have hcv : IntKind.i64.wrap (n : Int) = (n : Int) := by
    simp [IntKind.wrap, IntKind.bits, IntKind.signed]
    omega
  go_wp2
  go_loopg [6, 14] n (fun gg s6 s14 wr => ∃ (kk : Nat) (sk : Rst) (os : List En), kk ≤ n ∧ n - kk ≤ gg ∧ s14 = .int .i64 kk ∧ Hid (os.length = kk) ∧ Hid (RdAt 97 wr b a cap t sk) ∧ Hid (Touch (fun q => q = b ∨ w.heap.size ≤ q) w wr) ∧ Hid (Tk cellsEn EnIn 65 2 w wr s6 os) ∧ Hid (((rN (rEn t) (n - kk) sk).1, os.map En.vl ++ (rN (rEn t) (n - kk) sk).2.1, (rN (rEn t) (n - kk) sk).2.2) = R) ∧ w.heap.size + 1 ≤ wr.heap.size)
  case atStart => exact ⟨0, s1, [], Nat.zero_le _, by omega, rfl, hide rfl, R2, T2, hide (Tk.nil _ _), hide (by rw [Nat.sub_zero]; exact unhide HR2), hs2⟩
  case round =>
    obtain ⟨kk, sk, os, hkk, hg, rfl, HOL, RD, TC, TK, RR, hsw⟩ := hrel
    by_cases hlt : kk < n
    · have hltz : (kk : Int) < (n : Int) := by omega
      have hnk : n - kk = (n - (kk + 1)) + 1 := by omega
      obtain ⟨av, cv, ev⟩ := (unhide TK).wide.shape
      subst ev
      have KO := hide (En_one (unhide RD))
      by_cases hE : (rEn t sk).1 = 0
      · have RRn : Hid (((rN (rEn t) (n - (kk + 1)) (rEn t sk).2.2).1, (os.map En.vl ++ [(rEn t sk).2.1]) ++ (rN (rEn t) (n - (kk + 1)) (rEn t sk).2.2).2.1, (rN (rEn t) (n - (kk + 1)) (rEn t sk).2.2).2.2) = R) := hide (by
          have := unhide RR
          rw [hnk, rN_ok hE] at this
          rw [List.append_assoc]
          exact this)
        clear RR hnk
        rw [hE] at KO
        generalize (rEn t sk).2.2 = sn at *
        generalize (rEn t sk).2.1 = pv at *
        clear hE
        obtain ⟨ii, hi1, hi2, hi3, hi4⟩ := info_tEn
        have HI := hide (And.intro hi1 (And.intro hi2 (And.intro hi3 hi4)))
        clear hi1 hi2 hi3 hi4
        have h512 : os.length + 1 ≤ 512 := by have := unhide HOL; omega
        go_wp2_with (first
          | (go_at_fn 73; refine (unhide KO).mono ?_; rintro e w4 ⟨t4, h4, _⟩; obtain ⟨v4, rfl, r4, o, hv4, p4, k4⟩ := h4 rfl; rw [show (cellsEn o).toArray = #[.int .i64 o.t, .slice o.a o.d.length o.c] from rfl] at hv4; subst hv4; have bA := (Below.refl w4.heap.size w4).alloc (Nat.le_refl _) (.cells #[.int .i64 o.t, .slice o.a o.d.length o.c] 65); have TK4 := (unhide TK).read hbl t4; have TK5 := hide (TK4.read hbl (Touch.of_below bA)); have K5 := hide (k4.step (S := fun _ => False) (Touch.of_below bA) (fun _ h => h.elim)); have R5 := hide (r4.later bA); have T5 := hide ((unhide TC).trans ((t4.mono (fun q hq => by rcases hq with e | e; exact .inl e; exact .inr (by omega))).trans (Touch.of_below bA))); have P5 := hide p4; have NW := hide (range_all (heap_new w4 (.cells (cellsEn o).toArray 65))); have hsz4 := t4.size; have hsz5 : w4.heap.size ≤ (w4.alloc (.cells #[.int .i64 o.t, .slice o.a o.d.length o.c] 65)).heap.size := bA.size; clear t4 h4 r4 p4 k4 bA TK4)
          | (at_builtin; refine wpList_wide _ rfl (.tmp 16) (.tmp 19) 23 rfl 65 ii _ 2 32 Try.underlying23 (unhide HI).1 (unhide HI).2.1 (unhide HI).2.2.1 (unhide HI).2.2.2 rfl (by decide) (.slice av os.length cv) os.length (os.flatMap cellsEn) rfl (unhide TK5).wide w4.heap.size 0 1 (cellsEn o) rfl rfl (unhide NW) (by simp [cellsEn, Value.oneCell']) (by unfold maxLen; omega) (by omega) ?_; intro v6 w6 wd6 t6 m6; have TK6 := hide (Tk.app (unhide TK) (by omega) (unhide K5) (Nat.le_refl _) (unhide K5).old (by omega) (unhide TK5) wd6 t6 m6); have R6 := hide ((unhide R5).keep t6 (fun e => by have := (unhide TK5).nw b e; omega) (fun h0 x hx e => by have := (unhide TK5).nw _ e; have := unhide LOW h0 x hx; omega)); have T6 := hide ((unhide T5).trans (t6.mono (fun q hq => .inr (by have := (unhide TK5).nw q hq; omega)))); have hsz6 := t6.size; obtain ⟨a6, c6, e6⟩ := wd6.shape; subst e6; clear wd6 t6 m6))
        go_roundg (n - (kk + 1))
        case measure => omega
        case rel => exact ⟨kk + 1, sn, os ++ [o], by omega, by omega, by go_num, hide (by have := unhide HOL; simp [this]), R6, T6, TK6, hide (by rw [List.map_append]; simp only [List.map_cons, List.map_nil]; rw [unhide P5]; exact unhide RRn), by omega⟩
      · have HE : Hid (R.1 = (rEn t sk).1) := hide (by
          have := unhide RR
          rw [hnk, rN_no hE] at this
          rw [← this])
        have HQ := hide hE
        clear RR hnk hE
        go_wp2_with (go_at_fn 73; refine (unhide KO).mono ?_; rintro e w4 ⟨t4, _, h4⟩; obtain rfl := h4 (unhide HQ); have T4 := hide ((unhide TC).trans (t4.mono (fun q hq => by rcases hq with e | e; exact .inl e; exact .inr (by omega)))); clear t4 h4)
        refine ⟨rfl, ?_⟩
        rw [← unhide HE]
        exact ⟨unhide T4, fun h => absurd (unhide HE ▸ h) (unhide HQ), fun _ => rfl⟩
    · have hltz : ¬ (kk : Int) < (n : Int) := by omega
      have hkn : kk = n := by omega
      subst hkn
      have e3 := unhide RR
      rw [Nat.sub_self, rN_zero] at e3
      simp only [List.append_nil] at e3
      subst e3
      obtain ⟨av, cv, ev⟩ := (unhide TK).wide.shape
      subst ev
      have FF : Hid (RP w b a cap t 0 sk (LsV cellsEn EnIn 2 En.vl w (os.map En.vl)) (.returned (.slice av os.length cv)) wr) := hide ⟨unhide TC, fun _ => ⟨_, rfl, unhide RD, (unhide TK).told (fun x => rfl) (by omega) rfl (by have := unhide HOL; omega)⟩, fun h => absurd rfl h⟩
      go_wp2
      go_returns
      exact unhide FF
theorem info_tBa : ∃ i, Try.prog.info? 38 = some i ∧ i.zero = some (.agg #[.int .i64 0, .int .i64 0, .int .u64 0, .int .i64 0, .int .i64 0, .bool false, .bool false, .bool false, .slice none 0 0]) ∧ i.size = 9 ∧ i.bytes = 72 := by
  have h : (Try.prog.info? 38).map (fun i => (i.zero, i.size, i.bytes)) = some (some (.agg #[.int .i64 0, .int .i64 0, .int .u64 0, .int .i64 0, .int .i64 0, .bool false, .bool false, .bool false, .slice none 0 0]), 9, 72) := by kernel_rfl
  exact info_parts h
theorem Ba_one {w : World} {b : Nat} {a : Option Addr} {cap : Nat} {t : List Nat} {s : Rst} (h : RdAt 97 w b a cap t s) :
    Calls Try.prog 76 #[.agg #[.pointer (some ⟨b, 0, none⟩)]] w fun e w' => RP w b a cap t (rBa t s).1 (rBa t s).2.2 (fun v W => ∃ o : Ba, v = .agg (cellsBa o).toArray ∧ o.vl = (rBa t s).2.1 ∧ Keeps w.heap.size W.heap.size W (fun W => BaIn W o)) e w' := by
  exact (batch_x h rfl).mono fun e w' h => h
set_option maxRecDepth 100000 in
set_option maxHeartbeats 8000000 in
theorem takeBa_x {w : World} {b : Nat} {a : Option Addr} {cap : Nat} {t : List Nat} {s : Rst} (h : RdAt 97 w b a cap t s) :
    Calls Try.prog 75 #[.agg #[.pointer (some ⟨b, 0, none⟩)], .func (.func 76) #[.agg #[.pointer (some ⟨b, 0, none⟩)]] #[]] w fun e w' => RP w b a cap t (rAll t (rBa t) s).1 (rAll t (rBa t) s).2.2 (LsV cellsBa BaIn 9 Ba.vl w (rAll t (rBa t) s).2.1) e w' := by
  have hb0 := (Below.refl w.heap.size w).alloc (Nat.le_refl _) (.cells #[.pointer (some ⟨b, 0, none⟩)] 84)
  have HX := hide (heap_new w (.cells #[.pointer (some ⟨b, 0, none⟩)] 84))
  have hbl := h.lt
  have hfit := rU_fits (t := t) (s := s) h.text.bytes
  have HB0 := hide hb0
  have LOW : Hid (0 < t.length → ∀ x, a = some x → x.block < w.heap.size) := hide (Rg.start h #[] 38).low
  have h1 := h.later hb0
  obtain ⟨n, s1, e1⟩ : ∃ n s1, rU t s = (n, s1) := ⟨_, _, rfl⟩
  have K := ruint_later h1 e1
  rw [e1] at hfit
  simp only at hfit
  have HK := hide K
  have hall : rAll t (rBa t) s = if 512 < n then (2, [], s1) else rN (rBa t) n s1 := by unfold rAll; rw [e1]
  have eg : ∀ args w, (callFunc 76 args).run Try.prog w = .ok (.enter 76 args) w := enters_of Try.func76 rfl rfl
  generalize rAll t (rBa t) s = R at *
  have HR := hide hall
  clear h hb0 h1 K e1 hall
  go_enter Try.func75, Try.ntmps75
  go_upto_region 1 with fail
  generalize w.alloc (.cells #[.pointer (some ⟨b, 0, none⟩)] 84) = W1 at *
  have z0 := cell_of (unhide HX) 0
  simp at z0
  go_wp2_with fail
  refine (unhide HK).mono ?_
  rintro e w2 ⟨rfl, rd2, t2⟩
  have R2 := hide rd2
  have T2 : Hid (Touch (fun q => q = b ∨ w.heap.size ≤ q) w w2) := hide ((Touch.of_below (unhide HB0)).trans (t2.mono (fun q hq => .inl hq)))
  have hs2 : w.heap.size + 1 ≤ w2.heap.size := Nat.le_trans (lt_of_heap (unhide HX)) t2.size
  clear rd2 t2 z0 HK HX HB0
  by_cases hn : 512 < n
  · have e2 := unhide HR
    rw [if_pos hn] at e2
    subst e2
    go_wp2_with fail
    refine (needCount_no w2 (n := n) (by unfold cntE; rw [if_pos hn]; decide)).mono ?_
    rintro e w3 ⟨rfl, rfl⟩
    go_wp2
    exact ⟨rfl, unhide T2, fun h => absurd h (by decide), fun _ => rfl⟩
  have e2 := unhide HR
  rw [if_neg hn] at e2
  have HR2 := hide e2.symm
  clear e2 HR
  go_wp2_with fail
  refine (needCount_ok w2 (n := n) (by unfold cntE; rw [if_neg hn])).mono ?_
  rintro e w3 ⟨rfl, rfl⟩
  have hcv : IntKind.i64.wrap (n : Int) = (n : Int) := by
    simp [IntKind.wrap, IntKind.bits, IntKind.signed]
    omega
  go_wp2
  go_loopg [6, 14] n (fun gg s6 s14 wr => ∃ (kk : Nat) (sk : Rst) (os : List Ba), kk ≤ n ∧ n - kk ≤ gg ∧ s14 = .int .i64 kk ∧ Hid (os.length = kk) ∧ Hid (RdAt 97 wr b a cap t sk) ∧ Hid (Touch (fun q => q = b ∨ w.heap.size ≤ q) w wr) ∧ Hid (Tk cellsBa BaIn 38 9 w wr s6 os) ∧ Hid (((rN (rBa t) (n - kk) sk).1, os.map Ba.vl ++ (rN (rBa t) (n - kk) sk).2.1, (rN (rBa t) (n - kk) sk).2.2) = R) ∧ w.heap.size + 1 ≤ wr.heap.size)
  case atStart => exact ⟨0, s1, [], Nat.zero_le _, by omega, rfl, hide rfl, R2, T2, hide (Tk.nil _ _), hide (by rw [Nat.sub_zero]; exact unhide HR2), hs2⟩
  case round =>
    obtain ⟨kk, sk, os, hkk, hg, rfl, HOL, RD, TC, TK, RR, hsw⟩ := hrel
    by_cases hlt : kk < n
    · have hltz : (kk : Int) < (n : Int) := by omega
      have hnk : n - kk = (n - (kk + 1)) + 1 := by omega
      obtain ⟨av, cv, ev⟩ := (unhide TK).wide.shape
      subst ev
      have KO := hide (Ba_one (unhide RD))
      by_cases hE : (rBa t sk).1 = 0
      · have RRn : Hid (((rN (rBa t) (n - (kk + 1)) (rBa t sk).2.2).1, (os.map Ba.vl ++ [(rBa t sk).2.1]) ++ (rN (rBa t) (n - (kk + 1)) (rBa t sk).2.2).2.1, (rN (rBa t) (n - (kk + 1)) (rBa t sk).2.2).2.2) = R) := hide (by
          have := unhide RR
          rw [hnk, rN_ok hE] at this
          rw [List.append_assoc]
          exact this)
        clear RR hnk
        rw [hE] at KO
        generalize (rBa t sk).2.2 = sn at *
        generalize (rBa t sk).2.1 = pv at *
        clear hE
        obtain ⟨ii, hi1, hi2, hi3, hi4⟩ := info_tBa
        have HI := hide (And.intro hi1 (And.intro hi2 (And.intro hi3 hi4)))
        clear hi1 hi2 hi3 hi4
        have h512 : os.length + 1 ≤ 512 := by have := unhide HOL; omega
        go_wp2_with (first
          | (go_at_fn 76; refine (unhide KO).mono ?_; rintro e w4 ⟨t4, h4, _⟩; obtain ⟨v4, rfl, r4, o, hv4, p4, k4⟩ := h4 rfl; rw [show (cellsBa o).toArray = #[.int .i64 o.b.base, .int .i64 o.b.epoch, .int .u64 (o.b.pid : Int), .int .i64 o.b.pep, .int .i64 o.b.seq, .bool o.b.txn, .bool o.b.ctl, .bool o.b.com, .slice o.a o.b.vs.length o.c] from rfl] at hv4; subst hv4; have bA := (Below.refl w4.heap.size w4).alloc (Nat.le_refl _) (.cells #[.int .i64 o.b.base, .int .i64 o.b.epoch, .int .u64 (o.b.pid : Int), .int .i64 o.b.pep, .int .i64 o.b.seq, .bool o.b.txn, .bool o.b.ctl, .bool o.b.com, .slice o.a o.b.vs.length o.c] 38); have TK4 := (unhide TK).read hbl t4; have TK5 := hide (TK4.read hbl (Touch.of_below bA)); have K5 := hide (k4.step (S := fun _ => False) (Touch.of_below bA) (fun _ h => h.elim)); have R5 := hide (r4.later bA); have T5 := hide ((unhide TC).trans ((t4.mono (fun q hq => by rcases hq with e | e; exact .inl e; exact .inr (by omega))).trans (Touch.of_below bA))); have P5 := hide p4; have NW := hide (range_all (heap_new w4 (.cells (cellsBa o).toArray 38))); have hsz4 := t4.size; have hsz5 : w4.heap.size ≤ (w4.alloc (.cells #[.int .i64 o.b.base, .int .i64 o.b.epoch, .int .u64 (o.b.pid : Int), .int .i64 o.b.pep, .int .i64 o.b.seq, .bool o.b.txn, .bool o.b.ctl, .bool o.b.com, .slice o.a o.b.vs.length o.c] 38)).heap.size := bA.size; clear t4 h4 r4 p4 k4 bA TK4)
          | (at_builtin; refine wpList_wide _ rfl (.tmp 16) (.tmp 19) 29 rfl 38 ii _ 9 72 Try.underlying29 (unhide HI).1 (unhide HI).2.1 (unhide HI).2.2.1 (unhide HI).2.2.2 rfl (by decide) (.slice av os.length cv) os.length (os.flatMap cellsBa) rfl (unhide TK5).wide w4.heap.size 0 1 (cellsBa o) rfl rfl (unhide NW) (by simp [cellsBa, Value.oneCell']) (by unfold maxLen; omega) (by omega) ?_; intro v6 w6 wd6 t6 m6; have TK6 := hide (Tk.app (unhide TK) (by omega) (unhide K5) (Nat.le_refl _) (unhide K5).old (by omega) (unhide TK5) wd6 t6 m6); have R6 := hide ((unhide R5).keep t6 (fun e => by have := (unhide TK5).nw b e; omega) (fun h0 x hx e => by have := (unhide TK5).nw _ e; have := unhide LOW h0 x hx; omega)); have T6 := hide ((unhide T5).trans (t6.mono (fun q hq => .inr (by have := (unhide TK5).nw q hq; omega)))); have hsz6 := t6.size; obtain ⟨a6, c6, e6⟩ := wd6.shape; subst e6; clear wd6 t6 m6))
        go_roundg (n - (kk + 1))
        case measure => omega
        case rel => exact ⟨kk + 1, sn, os ++ [o], by omega, by omega, by go_num, hide (by have := unhide HOL; simp [this]), R6, T6, TK6, hide (by rw [List.map_append]; simp only [List.map_cons, List.map_nil]; rw [unhide P5]; exact unhide RRn), by omega⟩
      · have HE : Hid (R.1 = (rBa t sk).1) := hide (by
          have := unhide RR
          rw [hnk, rN_no hE] at this
          rw [← this])
        have HQ := hide hE
        clear RR hnk hE
        go_wp2_with (go_at_fn 76; refine (unhide KO).mono ?_; rintro e w4 ⟨t4, _, h4⟩; obtain rfl := h4 (unhide HQ); have T4 := hide ((unhide TC).trans (t4.mono (fun q hq => by rcases hq with e | e; exact .inl e; exact .inr (by omega)))); clear t4 h4)
        refine ⟨rfl, ?_⟩
        rw [← unhide HE]
        exact ⟨unhide T4, fun h => absurd (unhide HE ▸ h) (unhide HQ), fun _ => rfl⟩
    · have hltz : ¬ (kk : Int) < (n : Int) := by omega
      have hkn : kk = n := by omega
      subst hkn
      have e3 := unhide RR
      rw [Nat.sub_self, rN_zero] at e3
      simp only [List.append_nil] at e3
      subst e3
      obtain ⟨av, cv, ev⟩ := (unhide TK).wide.shape
      subst ev
      have FF : Hid (RP w b a cap t 0 sk (LsV cellsBa BaIn 9 Ba.vl w (os.map Ba.vl)) (.returned (.slice av os.length cv)) wr) := hide ⟨unhide TC, fun _ => ⟨_, rfl, unhide RD, (unhide TK).told (fun x => rfl) (by omega) rfl (by have := unhide HOL; omega)⟩, fun h => absurd rfl h⟩
      go_wp2
      go_returns
      exact unhide FF
theorem info_tAb : ∃ i, Try.prog.info? 73 = some i ∧ i.zero = some (.agg #[.int .u64 0, .int .i64 0, .int .i64 0]) ∧ i.size = 3 ∧ i.bytes = 24 := by
  have h : (Try.prog.info? 73).map (fun i => (i.zero, i.size, i.bytes)) = some (some (.agg #[.int .u64 0, .int .i64 0, .int .i64 0]), 3, 24) := by kernel_rfl
  exact info_parts h
theorem Ab_one {w : World} {b : Nat} {a : Option Addr} {cap : Nat} {t : List Nat} {s : Rst} (h : RdAt 97 w b a cap t s) :
    Calls Try.prog 81 #[.agg #[.pointer (some ⟨b, 0, none⟩)]] w fun e w' => RP w b a cap t (rAb t s).1 (rAb t s).2.2 (fun v W => ∃ o : Ab, v = .agg (cellsAb o).toArray ∧ o.vl = (rAb t s).2.1 ∧ Keeps w.heap.size W.heap.size W (fun W => AbIn W o)) e w' := by
  refine (abort_x h rfl rfl rfl).mono ?_
  rintro e w' ⟨t1, t2, t3⟩
  refine ⟨t1, fun h0 => ?_, fun h0 => absurd rfl h0⟩
  obtain ⟨v, e1, e2, o, e3, e4, e5, e6, e7⟩ := t2 rfl
  exact ⟨v, e1, e2, o, e3, by unfold Ab.vl; rw [e4, e5, e6]; rfl, Keeps.true _ _ (fun W => e7)⟩
set_option maxRecDepth 100000 in
set_option maxHeartbeats 8000000 in
theorem takeAb_x {w : World} {b : Nat} {a : Option Addr} {cap : Nat} {t : List Nat} {s : Rst} (h : RdAt 97 w b a cap t s) :
    Calls Try.prog 80 #[.agg #[.pointer (some ⟨b, 0, none⟩)], .func (.func 81) #[.agg #[.pointer (some ⟨b, 0, none⟩)]] #[]] w fun e w' => RP w b a cap t (rAll t (rAb t) s).1 (rAll t (rAb t) s).2.2 (LsV cellsAb AbIn 3 Ab.vl w (rAll t (rAb t) s).2.1) e w' := by
  have hb0 := (Below.refl w.heap.size w).alloc (Nat.le_refl _) (.cells #[.pointer (some ⟨b, 0, none⟩)] 84)
  have HX := hide (heap_new w (.cells #[.pointer (some ⟨b, 0, none⟩)] 84))
  have hbl := h.lt
  have hfit := rU_fits (t := t) (s := s) h.text.bytes
  have HB0 := hide hb0
  have LOW : Hid (0 < t.length → ∀ x, a = some x → x.block < w.heap.size) := hide (Rg.start h #[] 73).low
  have h1 := h.later hb0
  obtain ⟨n, s1, e1⟩ : ∃ n s1, rU t s = (n, s1) := ⟨_, _, rfl⟩
  have K := ruint_later h1 e1
  rw [e1] at hfit
  simp only at hfit
  have HK := hide K
  have hall : rAll t (rAb t) s = if 512 < n then (2, [], s1) else rN (rAb t) n s1 := by unfold rAll; rw [e1]
  have eg : ∀ args w, (callFunc 81 args).run Try.prog w = .ok (.enter 81 args) w := enters_of Try.func81 rfl rfl
  generalize rAll t (rAb t) s = R at *
  have HR := hide hall
  clear h hb0 h1 K e1 hall
  go_enter Try.func80, Try.ntmps80
  go_upto_region 1 with fail
  generalize w.alloc (.cells #[.pointer (some ⟨b, 0, none⟩)] 84) = W1 at *
  have z0 := cell_of (unhide HX) 0
  simp at z0
  go_wp2_with fail
  refine (unhide HK).mono ?_
  rintro e w2 ⟨rfl, rd2, t2⟩
  have R2 := hide rd2
  have T2 : Hid (Touch (fun q => q = b ∨ w.heap.size ≤ q) w w2) := hide ((Touch.of_below (unhide HB0)).trans (t2.mono (fun q hq => .inl hq)))
  have hs2 : w.heap.size + 1 ≤ w2.heap.size := Nat.le_trans (lt_of_heap (unhide HX)) t2.size
  clear rd2 t2 z0 HK HX HB0
  by_cases hn : 512 < n
  · have e2 := unhide HR
    rw [if_pos hn] at e2
    subst e2
    go_wp2_with fail
    refine (needCount_no w2 (n := n) (by unfold cntE; rw [if_pos hn]; decide)).mono ?_
    rintro e w3 ⟨rfl, rfl⟩
    go_wp2
    exact ⟨rfl, unhide T2, fun h => absurd h (by decide), fun _ => rfl⟩
  have e2 := unhide HR
  rw [if_neg hn] at e2
  have HR2 := hide e2.symm
  clear e2 HR
  go_wp2_with fail
  refine (needCount_ok w2 (n := n) (by unfold cntE; rw [if_neg hn])).mono ?_
  rintro e w3 ⟨rfl, rfl⟩
  have hcv : IntKind.i64.wrap (n : Int) = (n : Int) := by
    simp [IntKind.wrap, IntKind.bits, IntKind.signed]
    omega
  go_wp2
  go_loopg [6, 14] n (fun gg s6 s14 wr => ∃ (kk : Nat) (sk : Rst) (os : List Ab), kk ≤ n ∧ n - kk ≤ gg ∧ s14 = .int .i64 kk ∧ Hid (os.length = kk) ∧ Hid (RdAt 97 wr b a cap t sk) ∧ Hid (Touch (fun q => q = b ∨ w.heap.size ≤ q) w wr) ∧ Hid (Tk cellsAb AbIn 73 3 w wr s6 os) ∧ Hid (((rN (rAb t) (n - kk) sk).1, os.map Ab.vl ++ (rN (rAb t) (n - kk) sk).2.1, (rN (rAb t) (n - kk) sk).2.2) = R) ∧ w.heap.size + 1 ≤ wr.heap.size)
  case atStart => exact ⟨0, s1, [], Nat.zero_le _, by omega, rfl, hide rfl, R2, T2, hide (Tk.nil _ _), hide (by rw [Nat.sub_zero]; exact unhide HR2), hs2⟩
  case round =>
    obtain ⟨kk, sk, os, hkk, hg, rfl, HOL, RD, TC, TK, RR, hsw⟩ := hrel
    by_cases hlt : kk < n
    · have hltz : (kk : Int) < (n : Int) := by omega
      have hnk : n - kk = (n - (kk + 1)) + 1 := by omega
      obtain ⟨av, cv, ev⟩ := (unhide TK).wide.shape
      subst ev
      have KO := hide (Ab_one (unhide RD))
      by_cases hE : (rAb t sk).1 = 0
      · have RRn : Hid (((rN (rAb t) (n - (kk + 1)) (rAb t sk).2.2).1, (os.map Ab.vl ++ [(rAb t sk).2.1]) ++ (rN (rAb t) (n - (kk + 1)) (rAb t sk).2.2).2.1, (rN (rAb t) (n - (kk + 1)) (rAb t sk).2.2).2.2) = R) := hide (by
          have := unhide RR
          rw [hnk, rN_ok hE] at this
          rw [List.append_assoc]
          exact this)
        clear RR hnk
        rw [hE] at KO
        generalize (rAb t sk).2.2 = sn at *
        generalize (rAb t sk).2.1 = pv at *
        clear hE
        obtain ⟨ii, hi1, hi2, hi3, hi4⟩ := info_tAb
        have HI := hide (And.intro hi1 (And.intro hi2 (And.intro hi3 hi4)))
        clear hi1 hi2 hi3 hi4
        have h512 : os.length + 1 ≤ 512 := by have := unhide HOL; omega
        go_wp2_with (first
          | (go_at_fn 81; refine (unhide KO).mono ?_; rintro e w4 ⟨t4, h4, _⟩; obtain ⟨v4, rfl, r4, o, hv4, p4, k4⟩ := h4 rfl; rw [show (cellsAb o).toArray = #[.int .u64 (o.p : Int), .int .i64 o.f, .int .i64 o.l] from rfl] at hv4; subst hv4; have bA := (Below.refl w4.heap.size w4).alloc (Nat.le_refl _) (.cells #[.int .u64 (o.p : Int), .int .i64 o.f, .int .i64 o.l] 73); have TK4 := (unhide TK).read hbl t4; have TK5 := hide (TK4.read hbl (Touch.of_below bA)); have K5 := hide (k4.step (S := fun _ => False) (Touch.of_below bA) (fun _ h => h.elim)); have R5 := hide (r4.later bA); have T5 := hide ((unhide TC).trans ((t4.mono (fun q hq => by rcases hq with e | e; exact .inl e; exact .inr (by omega))).trans (Touch.of_below bA))); have P5 := hide p4; have NW := hide (range_all (heap_new w4 (.cells (cellsAb o).toArray 73))); have hsz4 := t4.size; have hsz5 : w4.heap.size ≤ (w4.alloc (.cells #[.int .u64 (o.p : Int), .int .i64 o.f, .int .i64 o.l] 73)).heap.size := bA.size; clear t4 h4 r4 p4 k4 bA TK4)
          | (at_builtin; refine wpList_wide _ rfl (.tmp 16) (.tmp 19) 39 rfl 73 ii _ 3 24 Try.underlying39 (unhide HI).1 (unhide HI).2.1 (unhide HI).2.2.1 (unhide HI).2.2.2 rfl (by decide) (.slice av os.length cv) os.length (os.flatMap cellsAb) rfl (unhide TK5).wide w4.heap.size 0 1 (cellsAb o) rfl rfl (unhide NW) (by simp [cellsAb, Value.oneCell']) (by unfold maxLen; omega) (by omega) ?_; intro v6 w6 wd6 t6 m6; have TK6 := hide (Tk.app (unhide TK) (by omega) (unhide K5) (Nat.le_refl _) (unhide K5).old (by omega) (unhide TK5) wd6 t6 m6); have R6 := hide ((unhide R5).keep t6 (fun e => by have := (unhide TK5).nw b e; omega) (fun h0 x hx e => by have := (unhide TK5).nw _ e; have := unhide LOW h0 x hx; omega)); have T6 := hide ((unhide T5).trans (t6.mono (fun q hq => .inr (by have := (unhide TK5).nw q hq; omega)))); have hsz6 := t6.size; obtain ⟨a6, c6, e6⟩ := wd6.shape; subst e6; clear wd6 t6 m6))
        go_roundg (n - (kk + 1))
        case measure => omega
        case rel => exact ⟨kk + 1, sn, os ++ [o], by omega, by omega, by go_num, hide (by have := unhide HOL; simp [this]), R6, T6, TK6, hide (by rw [List.map_append]; simp only [List.map_cons, List.map_nil]; rw [unhide P5]; exact unhide RRn), by omega⟩
      · have HE : Hid (R.1 = (rAb t sk).1) := hide (by
          have := unhide RR
          rw [hnk, rN_no hE] at this
          rw [← this])
        have HQ := hide hE
        clear RR hnk hE
        go_wp2_with (go_at_fn 81; refine (unhide KO).mono ?_; rintro e w4 ⟨t4, _, h4⟩; obtain rfl := h4 (unhide HQ); have T4 := hide ((unhide TC).trans (t4.mono (fun q hq => by rcases hq with e | e; exact .inl e; exact .inr (by omega)))); clear t4 h4)
        refine ⟨rfl, ?_⟩
        rw [← unhide HE]
        exact ⟨unhide T4, fun h => absurd (unhide HE ▸ h) (unhide HQ), fun _ => rfl⟩
    · have hltz : ¬ (kk : Int) < (n : Int) := by omega
      have hkn : kk = n := by omega
      subst hkn
      have e3 := unhide RR
      rw [Nat.sub_self, rN_zero] at e3
      simp only [List.append_nil] at e3
      subst e3
      obtain ⟨av, cv, ev⟩ := (unhide TK).wide.shape
      subst ev
      have FF : Hid (RP w b a cap t 0 sk (LsV cellsAb AbIn 3 Ab.vl w (os.map Ab.vl)) (.returned (.slice av os.length cv)) wr) := hide ⟨unhide TC, fun _ => ⟨_, rfl, unhide RD, (unhide TK).told (fun x => rfl) (by omega) rfl (by have := unhide HOL; omega)⟩, fun h => absurd rfl h⟩
      go_wp2
      go_returns
      exact unhide FF
end Go.Proofs.Ytblmondkdcpkaaa
