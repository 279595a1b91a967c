/-
  wire's writer: msg. Conditions: the message as it lies, what was laid so far at most 2^30 bytes.
-/
import Derived.Test.YtblmondkdcpkaaaZ12

namespace Go.Proofs.Ytblmondkdcpkaaa
open Go.RowKit
set_option linter.unusedVariables false

set_option maxRecDepth 100000 in
theorem info_msg : (Try.prog.info? 41).map (·.size) = some 59 := by kernel_rfl
set_option maxRecDepth 100000 in
theorem info_raft : (Try.prog.info? 26).map (·.size) = some 10 := by kernel_rfl
set_option maxRecDepth 100000 in
theorem info_fetch : (Try.prog.info? 28).map (·.size) = some 5 := by kernel_rfl
set_option maxRecDepth 100000 in
theorem info_fetched : (Try.prog.info? 31).map (·.size) = some 10 := by kernel_rfl
set_option maxRecDepth 100000 in
theorem info_cmd : (Try.prog.info? 34).map (·.size) = some 6 := by kernel_rfl
theorem info_mg (m : Mg) : (Try.prog.info? 41).map (·.size) = some (mgL m).length := info_msg
theorem range_of {w : World} {b o : Nat} {cs ds : List Value} {t : TypeId} (h : w.heap[b]? = some (.cells cs.toArray t)) (hd : ∀ j v, ds[j]? = some v → cs[o + j]? = some v) : w.rangeAt b o ds := by
  intro j v hv
  rw [cell_of h]
  simpa using hd j v hv
theorem load_msg {w : World} {b : Nat} {m : Mg} (h : w.heap[b]? = some (.cells (mgL m).toArray 41)) : (Instr.loadAt 41 (.pointer (some ⟨b, 0, none⟩))).run Try.prog w = .ok (.agg (mgL m).toArray) w :=
  run_loadAt_mid w b 0 41 (mgL m) _ (range_of h (fun j v hv => by rw [Nat.zero_add]; exact hv)) Try.underlying41 rfl info_msg
theorem load_raft {w : World} {b : Nat} {m : Mg} (h : w.heap[b]? = some (.cells (mgL m).toArray 41)) : (Instr.loadAt 26 (.pointer (some ⟨b, 5, none⟩))).run Try.prog w = .ok (.agg #[.int .i64 m.r1, .int .i64 m.r2, .int .i64 m.r3, .int .i64 m.r4, .int .i64 m.r5, .int .i64 m.r6, .int .i64 m.r7, .bool m.rj, .slice m.ea m.en.length m.ec, .slice m.sa m.sn.length m.sc]) w :=
  run_loadAt_mid w b 5 26 [.int .i64 m.r1, .int .i64 m.r2, .int .i64 m.r3, .int .i64 m.r4, .int .i64 m.r5, .int .i64 m.r6, .int .i64 m.r7, .bool m.rj, .slice m.ea m.en.length m.ec, .slice m.sa m.sn.length m.sc] _ (range_of h (fun j v hv => by
    have hj : j < 10 := by
      have := List.getElem?_eq_some_iff.1 hv
      obtain ⟨hj, _⟩ := this
      simpa using hj
    have e : ((mgL m).drop 5)[j]? = some v := by
      rw [show (mgL m).drop 5 = [.int .i64 m.r1, .int .i64 m.r2, .int .i64 m.r3, .int .i64 m.r4, .int .i64 m.r5, .int .i64 m.r6, .int .i64 m.r7, .bool m.rj, .slice m.ea m.en.length m.ec, .slice m.sa m.sn.length m.sc] ++ (mgL m).drop 15 by rfl, List.getElem?_append_left (by simpa using hj)]
      exact hv
    rw [List.getElem?_drop] at e
    exact e)) Try.underlying26 rfl info_raft
theorem load_fetch {w : World} {b : Nat} {m : Mg} (h : w.heap[b]? = some (.cells (mgL m).toArray 41)) : (Instr.loadAt 28 (.pointer (some ⟨b, 15, none⟩))).run Try.prog w = .ok (.agg #[.int .i64 m.f1, .int .i64 m.f2, .int .i64 m.f3, .int .i64 m.f4, .int .i64 m.f5]) w :=
  run_loadAt_mid w b 15 28 [.int .i64 m.f1, .int .i64 m.f2, .int .i64 m.f3, .int .i64 m.f4, .int .i64 m.f5] _ (range_of h (fun j v hv => by
    have hj : j < 5 := by
      have := List.getElem?_eq_some_iff.1 hv
      obtain ⟨hj, _⟩ := this
      simpa using hj
    have e : ((mgL m).drop 15)[j]? = some v := by
      rw [show (mgL m).drop 15 = [.int .i64 m.f1, .int .i64 m.f2, .int .i64 m.f3, .int .i64 m.f4, .int .i64 m.f5] ++ (mgL m).drop 20 by rfl, List.getElem?_append_left (by simpa using hj)]
      exact hv
    rw [List.getElem?_drop] at e
    exact e)) Try.underlying28 rfl info_fetch
theorem load_fetched {w : World} {b : Nat} {m : Mg} (h : w.heap[b]? = some (.cells (mgL m).toArray 41)) : (Instr.loadAt 31 (.pointer (some ⟨b, 20, none⟩))).run Try.prog w = .ok (.agg #[.int .i64 m.g1, .int .i64 m.g2, .int .i64 m.g3, .int .i64 m.g4, .bool m.gd, .int .i64 m.g5, .int .i64 m.g6, .int .i64 m.g7, .int .i64 m.g8, .slice m.ga m.gb.length m.gc]) w :=
  run_loadAt_mid w b 20 31 [.int .i64 m.g1, .int .i64 m.g2, .int .i64 m.g3, .int .i64 m.g4, .bool m.gd, .int .i64 m.g5, .int .i64 m.g6, .int .i64 m.g7, .int .i64 m.g8, .slice m.ga m.gb.length m.gc] _ (range_of h (fun j v hv => by
    have hj : j < 10 := by
      have := List.getElem?_eq_some_iff.1 hv
      obtain ⟨hj, _⟩ := this
      simpa using hj
    have e : ((mgL m).drop 20)[j]? = some v := by
      rw [show (mgL m).drop 20 = [.int .i64 m.g1, .int .i64 m.g2, .int .i64 m.g3, .int .i64 m.g4, .bool m.gd, .int .i64 m.g5, .int .i64 m.g6, .int .i64 m.g7, .int .i64 m.g8, .slice m.ga m.gb.length m.gc] ++ (mgL m).drop 30 by rfl, List.getElem?_append_left (by simpa using hj)]
      exact hv
    rw [List.getElem?_drop] at e
    exact e)) Try.underlying31 rfl info_fetched
theorem load_cmd {w : World} {b : Nat} {m : Mg} (h : w.heap[b]? = some (.cells (mgL m).toArray 41)) : (Instr.loadAt 34 (.pointer (some ⟨b, 30, none⟩))).run Try.prog w = .ok (.agg #[.int .i64 m.c.kd, .int .i64 m.c.nd, .int .i64 m.c.pt, .int .i64 m.c.ep, .int .i64 m.c.ve, .slice m.c.a m.c.l.length m.c.k]) w :=
  run_loadAt_mid w b 30 34 [.int .i64 m.c.kd, .int .i64 m.c.nd, .int .i64 m.c.pt, .int .i64 m.c.ep, .int .i64 m.c.ve, .slice m.c.a m.c.l.length m.c.k] _ (range_of h (fun j v hv => by
    have hj : j < 6 := by
      have := List.getElem?_eq_some_iff.1 hv
      obtain ⟨hj, _⟩ := this
      simpa using hj
    have e : ((mgL m).drop 30)[j]? = some v := by
      rw [show (mgL m).drop 30 = [.int .i64 m.c.kd, .int .i64 m.c.nd, .int .i64 m.c.pt, .int .i64 m.c.ep, .int .i64 m.c.ve, .slice m.c.a m.c.l.length m.c.k] ++ (mgL m).drop 36 by rfl, List.getElem?_append_left (by simpa using hj)]
      exact hv
    rw [List.getElem?_drop] at e
    exact e)) Try.underlying34 rfl info_cmd
def headS (s : Ws) (m : Mg) : Ws := wX s (encL [m.kd, m.fr, m.tt, m.co, m.er])
def raftS (s : Ws) (m : Mg) : Ws := wB (m.en.foldl stepEn (wX (wX (wX s (encL [m.r1, m.r2, m.r3, m.r4, m.r5, m.r6, m.r7])) [m.rj.toNat]) (enc m.en.length))) m.sn
def fetchS (s : Ws) (m : Mg) : Ws := wX s (encL [m.f1, m.f2, m.f3, m.f4, m.f5])
def fetchedS (s : Ws) (m : Mg) : Ws := m.gb.foldl stepBa (wX (wX (wX s (encL [m.g1, m.g2, m.g3, m.g4, m.g5, m.g6, m.g7, m.g8])) [m.gd.toNat]) (enc m.gb.length))
def othersS (s : Ws) (m : Mg) : Ws := m.ab.foldl stepAb (wX (m.bs.foldl stepBa (wX (batS (wX (wX (wX (wX s (encL [m.o1, m.o2, m.o3, m.o4, m.o5, m.o6, m.o7, m.o8, m.o9])) (enc m.pid)) [m.cm.toNat]) (enc m.ms.length ++ encL m.ms)) m.B) (enc m.bs.length))) (enc m.ab.length))
def restE (m : Mg) : Int :=
  if m.kd = 1 then fst0 [cntE m.en.length] else if m.kd = 2 then fst0 [] else if m.kd = 3 then fst0 [cntE m.gb.length, errs m.gb] else if m.kd = 4 then cmdE m.c else fst0 [cntE m.ms.length, batE m.B, cntE m.bs.length, errs m.bs, cntE m.ab.length]
def restS (s : Ws) (m : Mg) : Ws :=
  if m.kd = 1 then raftS s m else if m.kd = 2 then fetchS s m else if m.kd = 3 then fetchedS s m else if m.kd = 4 then wB s (encC m.c) else othersS s m
/-- What is wrong with a message first, pieces that are too long aside; and what is laid of it. -/
def msgE (m : Mg) : Int := if kndE m.kd ≠ 0 then 1 else restE m
def msgS (s : Ws) (m : Mg) : Ws := restS (headS s m) m
section
variable {w0 w : World} {N : Nat → Prop} {b : Nat} {s : Ws}
set_option maxHeartbeats 8000000 in
theorem msg_kind {m : Mg} (h : Wq w0 N w b s) (hm : MgIn w0 m) (hk : kndE m.kd ≠ 0) :
    Calls Try.prog 31 #[.agg #[.pointer (some ⟨b, 0, none⟩)], .agg (mgL m).toArray] w fun e w' => e = gone 1 ∧ Touch (Off N) w w' := by
  have hb0 := ((Below.refl w.heap.size w).alloc (Nat.le_refl _) (.cells #[.pointer (some ⟨b, 0, none⟩)] 77)).alloc (by simp) (.cells (mgL m).toArray 41)
  have Q0 := hide (h.grow hb0)
  have HX := hide (heap_old (.cells (mgL m).toArray 41) (heap_new w (.cells #[.pointer (some ⟨b, 0, none⟩)] 77)))
  have HB := hide (heap_new (w.alloc (.cells #[.pointer (some ⟨b, 0, none⟩)] 77)) (.cells (mgL m).toArray 41))
  have hsz : (w.alloc (.cells #[.pointer (some ⟨b, 0, none⟩)] 77)).heap.size = w.heap.size + 1 := by simp
  rw [hsz] at HB
  have HN := hide h.old
  have HL := hide h.low
  have HB0 := hide hb0
  have HM := hide hm
  have KK := hide (needKind_no ((w.alloc (.cells #[.pointer (some ⟨b, 0, none⟩)] 77)).alloc (.cells (mgL m).toArray 41)) hk)
  clear h hm hb0 hsz hk
  go_enter Try.func31, Try.ntmps31
  go_upto_region 1 with fail
  generalize (w.alloc (.cells #[.pointer (some ⟨b, 0, none⟩)] 77)).alloc (.cells (mgL m).toArray 41) = W1 at *
  have y0 : W1.cell? ⟨w.heap.size + 1, 0, none⟩ = some (.int .i64 m.kd) := cell_of (unhide HB) 0
  go_wp2_with fail
  refine (unhide KK).mono ?_
  rintro e wz ⟨rfl, rfl⟩
  have TF : Hid (Touch (Off N) w wz) := hide (Touch.of_below (unhide HB0))
  go_wp2
  exact ⟨rfl, rfl, unhide TF⟩
set_option maxRecDepth 100000 in
set_option maxHeartbeats 8000000 in
theorem msg_raft {m : Mg} {E : Int} {s' : Ws} (h : Wq w0 N w b s) (hm : MgIn w0 m) (hk : m.kd = 1) (hE : fst0 [cntE m.en.length] = E) (hS : raftS (headS s m) m = s') (hl : s.1.length ≤ 1073741824) :
    Calls Try.prog 31 #[.agg #[.pointer (some ⟨b, 0, none⟩)], .agg (mgL m).toArray] w fun e w' => WP w0 N w b E s' e w' := by
  have hb0 := ((Below.refl w.heap.size w).alloc (Nat.le_refl _) (.cells #[.pointer (some ⟨b, 0, none⟩)] 77)).alloc (by simp) (.cells (mgL m).toArray 41)
  have Q0 := hide (h.grow hb0)
  have HX := hide (heap_old (.cells (mgL m).toArray 41) (heap_new w (.cells #[.pointer (some ⟨b, 0, none⟩)] 77)))
  have HB := hide (heap_new (w.alloc (.cells #[.pointer (some ⟨b, 0, none⟩)] 77)) (.cells (mgL m).toArray 41))
  have hsz : (w.alloc (.cells #[.pointer (some ⟨b, 0, none⟩)] 77)).heap.size = w.heap.size + 1 := by simp
  rw [hsz] at HB
  have HN := hide h.old
  have HL := hide h.low
  have HB0 := hide hb0
  have HM := hide hm
  have KK := hide (needKind_ok ((w.alloc (.cells #[.pointer (some ⟨b, 0, none⟩)] 77)).alloc (.cells (mgL m).toArray 41)) (k := m.kd) (by unfold kndE; rw [if_neg (by omega)]))
  have HS := hide hS
  have HE := hide hE
  obtain ⟨sh, hsh⟩ : ∃ sh, headS s m = sh := ⟨_, rfl⟩
  have hlh : sh.1.length ≤ s.1.length + 50 := by
    rw [← hsh]
    unfold headS
    have h1 := wX_len s (encL [m.kd, m.fr, m.tt, m.co, m.er])
    have h2 := encL_len [m.kd, m.fr, m.tt, m.co, m.er] hm.hd
    simp only [List.length_cons, List.length_nil] at h2
    omega
  have HSH := hide hsh
  have HKD := hide hk
  clear hk
  clear h hm hb0 hsz hE hS hsh
  go_enter Try.func31, Try.ntmps31
  go_upto_region 1 with fail
  generalize (w.alloc (.cells #[.pointer (some ⟨b, 0, none⟩)] 77)).alloc (.cells (mgL m).toArray 41) = W1 at *
  have y0 : W1.cell? ⟨w.heap.size + 1, 0, none⟩ = some (.int .i64 m.kd) := cell_of (unhide HB) 0
  go_wp2_with fail
  refine (unhide KK).mono ?_
  rintro e wz ⟨rfl, rfl⟩
  have y1 : wz.cell? ⟨w.heap.size + 1, 1, none⟩ = some (.int .i64 m.fr) := cell_of (unhide HB) 1
  have y2 : wz.cell? ⟨w.heap.size + 1, 2, none⟩ = some (.int .i64 m.tt) := cell_of (unhide HB) 2
  have y3 : wz.cell? ⟨w.heap.size + 1, 3, none⟩ = some (.int .i64 m.co) := cell_of (unhide HB) 3
  have y4 : wz.cell? ⟨w.heap.size + 1, 4, none⟩ = some (.int .i64 m.er) := cell_of (unhide HB) 4
  have z0 := cell_of (unhide HX) 0
  simp at z0
  have K := wints_lit [m.kd, m.fr, m.tt, m.co, m.er] (vs := #[.int .i64 m.kd, .int .i64 m.fr, .int .i64 m.tt, .int .i64 m.co, .int .i64 m.er]) rfl (unhide Q0) (unhide HM).hd (by simp) (by omega)
  have HK := hide K
  clear K KK
  go_wp2_with fail
  refine (unhide HK).mono ?_
  rintro e w3 ⟨rfl, q3, t3⟩
  have eh : wX s (encL [m.kd, m.fr, m.tt, m.co, m.er]) = sh := unhide HSH
  rw [eh] at q3
  have Q3 := hide q3
  have T3 := hide t3
  clear q3 t3 eh y0 y1 y2 y3 y4 z0 HK
  have HB3 := hide (Gr.keep (unhide T3) (unhide HB) (by omega))
  have y0 : w3.cell? ⟨w.heap.size + 1, 0, none⟩ = some (.int .i64 m.kd) := cell_of (unhide HB3) 0
  have z0 := cell_of (Gr.keep (unhide T3) (unhide HX) (Nat.le_refl _)) 0
  simp at z0
  rw [unhide HKD] at y0
  have x5 : w3.cell? ⟨w.heap.size + 1, 5, none⟩ = some (.int .i64 m.r1) := cell_of (unhide HB3) 5
  have x6 : w3.cell? ⟨w.heap.size + 1, 6, none⟩ = some (.int .i64 m.r2) := cell_of (unhide HB3) 6
  have x7 : w3.cell? ⟨w.heap.size + 1, 7, none⟩ = some (.int .i64 m.r3) := cell_of (unhide HB3) 7
  have x8 : w3.cell? ⟨w.heap.size + 1, 8, none⟩ = some (.int .i64 m.r4) := cell_of (unhide HB3) 8
  have x9 : w3.cell? ⟨w.heap.size + 1, 9, none⟩ = some (.int .i64 m.r5) := cell_of (unhide HB3) 9
  have x10 : w3.cell? ⟨w.heap.size + 1, 10, none⟩ = some (.int .i64 m.r6) := cell_of (unhide HB3) 10
  have x11 : w3.cell? ⟨w.heap.size + 1, 11, none⟩ = some (.int .i64 m.r7) := cell_of (unhide HB3) 11
  have x12 : w3.cell? ⟨w.heap.size + 1, 12, none⟩ = some (.bool m.rj) := cell_of (unhide HB3) 12
  have x13 : w3.cell? ⟨w.heap.size + 1, 13, none⟩ = some (.slice m.ea m.en.length m.ec) := cell_of (unhide HB3) 13
  have x14 : w3.cell? ⟨w.heap.size + 1, 14, none⟩ = some (.slice m.sa m.sn.length m.sc) := cell_of (unhide HB3) 14
  have K := raft_w (rj := m.rj) (ec := m.ec) (unhide Q3) (unhide HM).rf (unhide HM).en (unhide HM).ein (unhide HM).em (unhide HM).sn (unhide HM).sc rfl rfl rfl rfl rfl (by omega)
  have KA : Hid (Calls Try.prog 42 #[.agg #[.pointer (some ⟨b, 0, none⟩)], .agg #[.int .i64 m.r1, .int .i64 m.r2, .int .i64 m.r3, .int .i64 m.r4, .int .i64 m.r5, .int .i64 m.r6, .int .i64 m.r7, .bool m.rj, .slice m.ea m.en.length m.ec, .slice m.sa m.sn.length m.sc]] w3 fun e w' => WP w0 (Gr N w wz) w3 b E s' e w') := hide (by
    rw [← unhide HE, ← unhide HS, unhide HSH]
    exact K)
  clear K
  by_cases hz : E = 0
  · have HK := hide ((unhide KA).mono (R' := fun e w' => WD w0 (Gr N w wz) w3 b s' e w') (fun e w' h => ⟨(h.2.1 hz).1, (h.2.1 hz).2, h.1⟩))
    have HZ := hide hz
    clear KA hz
    go_wp2_with fail
    refine (unhide HK).mono ?_
    rintro e w4 ⟨rfl, q4, t4⟩
    have FF := hide (Wq.leave q4 (unhide HB0) (unhide HN) (unhide HL) ((unhide T3).trans t4))
    clear q4 t4 HK
    go_wp2
    go_returns
    exact ⟨(unhide FF).2, fun _ => ⟨rfl, (unhide FF).1⟩, fun h => absurd (unhide HZ) h⟩
  · have HK := hide ((unhide KA).mono (R' := fun e w' => e = gone E ∧ Touch (Off (Gr N w wz)) w3 w') (fun e w' h => ⟨h.2.2 hz, h.1⟩))
    have HZ := hide hz
    clear KA hz
    go_wp2_with fail
    refine (unhide HK).mono ?_
    rintro e w4 ⟨rfl, t4⟩
    have TF := hide (Off.leave (unhide HB0) ((unhide T3).trans t4))
    clear t4 HK
    go_wp2
    exact ⟨rfl, unhide TF, fun h => absurd h (unhide HZ), fun _ => rfl⟩
set_option maxRecDepth 100000 in
set_option maxHeartbeats 8000000 in
theorem msg_fetch {m : Mg} {E : Int} {s' : Ws} (h : Wq w0 N w b s) (hm : MgIn w0 m) (hk : m.kd = 2) (hE : fst0 [] = E) (hS : fetchS (headS s m) m = s') (hl : s.1.length ≤ 1073741824) :
    Calls Try.prog 31 #[.agg #[.pointer (some ⟨b, 0, none⟩)], .agg (mgL m).toArray] w fun e w' => WP w0 N w b E s' e w' := by
  have hb0 := ((Below.refl w.heap.size w).alloc (Nat.le_refl _) (.cells #[.pointer (some ⟨b, 0, none⟩)] 77)).alloc (by simp) (.cells (mgL m).toArray 41)
  have Q0 := hide (h.grow hb0)
  have HX := hide (heap_old (.cells (mgL m).toArray 41) (heap_new w (.cells #[.pointer (some ⟨b, 0, none⟩)] 77)))
  have HB := hide (heap_new (w.alloc (.cells #[.pointer (some ⟨b, 0, none⟩)] 77)) (.cells (mgL m).toArray 41))
  have hsz : (w.alloc (.cells #[.pointer (some ⟨b, 0, none⟩)] 77)).heap.size = w.heap.size + 1 := by simp
  rw [hsz] at HB
  have HN := hide h.old
  have HL := hide h.low
  have HB0 := hide hb0
  have HM := hide hm
  have KK := hide (needKind_ok ((w.alloc (.cells #[.pointer (some ⟨b, 0, none⟩)] 77)).alloc (.cells (mgL m).toArray 41)) (k := m.kd) (by unfold kndE; rw [if_neg (by omega)]))
  have HS := hide hS
  have HE := hide hE
  obtain ⟨sh, hsh⟩ : ∃ sh, headS s m = sh := ⟨_, rfl⟩
  have hlh : sh.1.length ≤ s.1.length + 50 := by
    rw [← hsh]
    unfold headS
    have h1 := wX_len s (encL [m.kd, m.fr, m.tt, m.co, m.er])
    have h2 := encL_len [m.kd, m.fr, m.tt, m.co, m.er] hm.hd
    simp only [List.length_cons, List.length_nil] at h2
    omega
  have HSH := hide hsh
  have HKD := hide hk
  clear hk
  clear h hm hb0 hsz hE hS hsh
  go_enter Try.func31, Try.ntmps31
  go_upto_region 1 with fail
  generalize (w.alloc (.cells #[.pointer (some ⟨b, 0, none⟩)] 77)).alloc (.cells (mgL m).toArray 41) = W1 at *
  have y0 : W1.cell? ⟨w.heap.size + 1, 0, none⟩ = some (.int .i64 m.kd) := cell_of (unhide HB) 0
  go_wp2_with fail
  refine (unhide KK).mono ?_
  rintro e wz ⟨rfl, rfl⟩
  have y1 : wz.cell? ⟨w.heap.size + 1, 1, none⟩ = some (.int .i64 m.fr) := cell_of (unhide HB) 1
  have y2 : wz.cell? ⟨w.heap.size + 1, 2, none⟩ = some (.int .i64 m.tt) := cell_of (unhide HB) 2
  have y3 : wz.cell? ⟨w.heap.size + 1, 3, none⟩ = some (.int .i64 m.co) := cell_of (unhide HB) 3
  have y4 : wz.cell? ⟨w.heap.size + 1, 4, none⟩ = some (.int .i64 m.er) := cell_of (unhide HB) 4
  have z0 := cell_of (unhide HX) 0
  simp at z0
  have K := wints_lit [m.kd, m.fr, m.tt, m.co, m.er] (vs := #[.int .i64 m.kd, .int .i64 m.fr, .int .i64 m.tt, .int .i64 m.co, .int .i64 m.er]) rfl (unhide Q0) (unhide HM).hd (by simp) (by omega)
  have HK := hide K
  clear K KK
  go_wp2_with fail
  refine (unhide HK).mono ?_
  rintro e w3 ⟨rfl, q3, t3⟩
  have eh : wX s (encL [m.kd, m.fr, m.tt, m.co, m.er]) = sh := unhide HSH
  rw [eh] at q3
  have Q3 := hide q3
  have T3 := hide t3
  clear q3 t3 eh y0 y1 y2 y3 y4 z0 HK
  have HB3 := hide (Gr.keep (unhide T3) (unhide HB) (by omega))
  have y0 : w3.cell? ⟨w.heap.size + 1, 0, none⟩ = some (.int .i64 m.kd) := cell_of (unhide HB3) 0
  have z0 := cell_of (Gr.keep (unhide T3) (unhide HX) (Nat.le_refl _)) 0
  simp at z0
  rw [unhide HKD] at y0
  have x15 : w3.cell? ⟨w.heap.size + 1, 15, none⟩ = some (.int .i64 m.f1) := cell_of (unhide HB3) 15
  have x16 : w3.cell? ⟨w.heap.size + 1, 16, none⟩ = some (.int .i64 m.f2) := cell_of (unhide HB3) 16
  have x17 : w3.cell? ⟨w.heap.size + 1, 17, none⟩ = some (.int .i64 m.f3) := cell_of (unhide HB3) 17
  have x18 : w3.cell? ⟨w.heap.size + 1, 18, none⟩ = some (.int .i64 m.f4) := cell_of (unhide HB3) 18
  have x19 : w3.cell? ⟨w.heap.size + 1, 19, none⟩ = some (.int .i64 m.f5) := cell_of (unhide HB3) 19
  have K := fetch_w (unhide Q3) (unhide HM).fe rfl rfl (by omega)
  have KA : Hid (Calls Try.prog 43 #[.agg #[.pointer (some ⟨b, 0, none⟩)], .agg #[.int .i64 m.f1, .int .i64 m.f2, .int .i64 m.f3, .int .i64 m.f4, .int .i64 m.f5]] w3 fun e w' => WP w0 (Gr N w wz) w3 b E s' e w') := hide (by
    rw [← unhide HE, ← unhide HS, unhide HSH]
    exact K)
  clear K
  by_cases hz : E = 0
  · have HK := hide ((unhide KA).mono (R' := fun e w' => WD w0 (Gr N w wz) w3 b s' e w') (fun e w' h => ⟨(h.2.1 hz).1, (h.2.1 hz).2, h.1⟩))
    have HZ := hide hz
    clear KA hz
    go_wp2_with fail
    refine (unhide HK).mono ?_
    rintro e w4 ⟨rfl, q4, t4⟩
    have FF := hide (Wq.leave q4 (unhide HB0) (unhide HN) (unhide HL) ((unhide T3).trans t4))
    clear q4 t4 HK
    go_wp2
    go_returns
    exact ⟨(unhide FF).2, fun _ => ⟨rfl, (unhide FF).1⟩, fun h => absurd (unhide HZ) h⟩
  · have HK := hide ((unhide KA).mono (R' := fun e w' => e = gone E ∧ Touch (Off (Gr N w wz)) w3 w') (fun e w' h => ⟨h.2.2 hz, h.1⟩))
    have HZ := hide hz
    clear KA hz
    go_wp2_with fail
    refine (unhide HK).mono ?_
    rintro e w4 ⟨rfl, t4⟩
    have TF := hide (Off.leave (unhide HB0) ((unhide T3).trans t4))
    clear t4 HK
    go_wp2
    exact ⟨rfl, unhide TF, fun h => absurd h (unhide HZ), fun _ => rfl⟩
set_option maxRecDepth 100000 in
set_option maxHeartbeats 8000000 in
theorem msg_fetched {m : Mg} {E : Int} {s' : Ws} (h : Wq w0 N w b s) (hm : MgIn w0 m) (hk : m.kd = 3) (hE : fst0 [cntE m.gb.length, errs m.gb] = E) (hS : fetchedS (headS s m) m = s') (hl : s.1.length ≤ 1073741824) :
    Calls Try.prog 31 #[.agg #[.pointer (some ⟨b, 0, none⟩)], .agg (mgL m).toArray] w fun e w' => WP w0 N w b E s' e w' := by
  have hb0 := ((Below.refl w.heap.size w).alloc (Nat.le_refl _) (.cells #[.pointer (some ⟨b, 0, none⟩)] 77)).alloc (by simp) (.cells (mgL m).toArray 41)
  have Q0 := hide (h.grow hb0)
  have HX := hide (heap_old (.cells (mgL m).toArray 41) (heap_new w (.cells #[.pointer (some ⟨b, 0, none⟩)] 77)))
  have HB := hide (heap_new (w.alloc (.cells #[.pointer (some ⟨b, 0, none⟩)] 77)) (.cells (mgL m).toArray 41))
  have hsz : (w.alloc (.cells #[.pointer (some ⟨b, 0, none⟩)] 77)).heap.size = w.heap.size + 1 := by simp
  rw [hsz] at HB
  have HN := hide h.old
  have HL := hide h.low
  have HB0 := hide hb0
  have HM := hide hm
  have KK := hide (needKind_ok ((w.alloc (.cells #[.pointer (some ⟨b, 0, none⟩)] 77)).alloc (.cells (mgL m).toArray 41)) (k := m.kd) (by unfold kndE; rw [if_neg (by omega)]))
  have HS := hide hS
  have HE := hide hE
  obtain ⟨sh, hsh⟩ : ∃ sh, headS s m = sh := ⟨_, rfl⟩
  have hlh : sh.1.length ≤ s.1.length + 50 := by
    rw [← hsh]
    unfold headS
    have h1 := wX_len s (encL [m.kd, m.fr, m.tt, m.co, m.er])
    have h2 := encL_len [m.kd, m.fr, m.tt, m.co, m.er] hm.hd
    simp only [List.length_cons, List.length_nil] at h2
    omega
  have HSH := hide hsh
  have HKD := hide hk
  clear hk
  clear h hm hb0 hsz hE hS hsh
  go_enter Try.func31, Try.ntmps31
  go_upto_region 1 with fail
  generalize (w.alloc (.cells #[.pointer (some ⟨b, 0, none⟩)] 77)).alloc (.cells (mgL m).toArray 41) = W1 at *
  have y0 : W1.cell? ⟨w.heap.size + 1, 0, none⟩ = some (.int .i64 m.kd) := cell_of (unhide HB) 0
  go_wp2_with fail
  refine (unhide KK).mono ?_
  rintro e wz ⟨rfl, rfl⟩
  have y1 : wz.cell? ⟨w.heap.size + 1, 1, none⟩ = some (.int .i64 m.fr) := cell_of (unhide HB) 1
  have y2 : wz.cell? ⟨w.heap.size + 1, 2, none⟩ = some (.int .i64 m.tt) := cell_of (unhide HB) 2
  have y3 : wz.cell? ⟨w.heap.size + 1, 3, none⟩ = some (.int .i64 m.co) := cell_of (unhide HB) 3
  have y4 : wz.cell? ⟨w.heap.size + 1, 4, none⟩ = some (.int .i64 m.er) := cell_of (unhide HB) 4
  have z0 := cell_of (unhide HX) 0
  simp at z0
  have K := wints_lit [m.kd, m.fr, m.tt, m.co, m.er] (vs := #[.int .i64 m.kd, .int .i64 m.fr, .int .i64 m.tt, .int .i64 m.co, .int .i64 m.er]) rfl (unhide Q0) (unhide HM).hd (by simp) (by omega)
  have HK := hide K
  clear K KK
  go_wp2_with fail
  refine (unhide HK).mono ?_
  rintro e w3 ⟨rfl, q3, t3⟩
  have eh : wX s (encL [m.kd, m.fr, m.tt, m.co, m.er]) = sh := unhide HSH
  rw [eh] at q3
  have Q3 := hide q3
  have T3 := hide t3
  clear q3 t3 eh y0 y1 y2 y3 y4 z0 HK
  have HB3 := hide (Gr.keep (unhide T3) (unhide HB) (by omega))
  have y0 : w3.cell? ⟨w.heap.size + 1, 0, none⟩ = some (.int .i64 m.kd) := cell_of (unhide HB3) 0
  have z0 := cell_of (Gr.keep (unhide T3) (unhide HX) (Nat.le_refl _)) 0
  simp at z0
  rw [unhide HKD] at y0
  have x20 : w3.cell? ⟨w.heap.size + 1, 20, none⟩ = some (.int .i64 m.g1) := cell_of (unhide HB3) 20
  have x21 : w3.cell? ⟨w.heap.size + 1, 21, none⟩ = some (.int .i64 m.g2) := cell_of (unhide HB3) 21
  have x22 : w3.cell? ⟨w.heap.size + 1, 22, none⟩ = some (.int .i64 m.g3) := cell_of (unhide HB3) 22
  have x23 : w3.cell? ⟨w.heap.size + 1, 23, none⟩ = some (.int .i64 m.g4) := cell_of (unhide HB3) 23
  have x24 : w3.cell? ⟨w.heap.size + 1, 24, none⟩ = some (.bool m.gd) := cell_of (unhide HB3) 24
  have x25 : w3.cell? ⟨w.heap.size + 1, 25, none⟩ = some (.int .i64 m.g5) := cell_of (unhide HB3) 25
  have x26 : w3.cell? ⟨w.heap.size + 1, 26, none⟩ = some (.int .i64 m.g6) := cell_of (unhide HB3) 26
  have x27 : w3.cell? ⟨w.heap.size + 1, 27, none⟩ = some (.int .i64 m.g7) := cell_of (unhide HB3) 27
  have x28 : w3.cell? ⟨w.heap.size + 1, 28, none⟩ = some (.int .i64 m.g8) := cell_of (unhide HB3) 28
  have x29 : w3.cell? ⟨w.heap.size + 1, 29, none⟩ = some (.slice m.ga m.gb.length m.gc) := cell_of (unhide HB3) 29
  have K := fetched_w (gd := m.gd) (gc := m.gc) (unhide Q3) (unhide HM).ge (unhide HM).gb (unhide HM).gin (unhide HM).gm rfl rfl rfl rfl (by omega)
  have KA : Hid (Calls Try.prog 44 #[.agg #[.pointer (some ⟨b, 0, none⟩)], .agg #[.int .i64 m.g1, .int .i64 m.g2, .int .i64 m.g3, .int .i64 m.g4, .bool m.gd, .int .i64 m.g5, .int .i64 m.g6, .int .i64 m.g7, .int .i64 m.g8, .slice m.ga m.gb.length m.gc]] w3 fun e w' => WP w0 (Gr N w wz) w3 b E s' e w') := hide (by
    rw [← unhide HE, ← unhide HS, unhide HSH]
    exact K)
  clear K
  by_cases hz : E = 0
  · have HK := hide ((unhide KA).mono (R' := fun e w' => WD w0 (Gr N w wz) w3 b s' e w') (fun e w' h => ⟨(h.2.1 hz).1, (h.2.1 hz).2, h.1⟩))
    have HZ := hide hz
    clear KA hz
    go_wp2_with fail
    refine (unhide HK).mono ?_
    rintro e w4 ⟨rfl, q4, t4⟩
    have FF := hide (Wq.leave q4 (unhide HB0) (unhide HN) (unhide HL) ((unhide T3).trans t4))
    clear q4 t4 HK
    go_wp2
    go_returns
    exact ⟨(unhide FF).2, fun _ => ⟨rfl, (unhide FF).1⟩, fun h => absurd (unhide HZ) h⟩
  · have HK := hide ((unhide KA).mono (R' := fun e w' => e = gone E ∧ Touch (Off (Gr N w wz)) w3 w') (fun e w' h => ⟨h.2.2 hz, h.1⟩))
    have HZ := hide hz
    clear KA hz
    go_wp2_with fail
    refine (unhide HK).mono ?_
    rintro e w4 ⟨rfl, t4⟩
    have TF := hide (Off.leave (unhide HB0) ((unhide T3).trans t4))
    clear t4 HK
    go_wp2
    exact ⟨rfl, unhide TF, fun h => absurd h (unhide HZ), fun _ => rfl⟩
set_option maxRecDepth 100000 in
set_option maxHeartbeats 8000000 in
theorem msg_cmd {m : Mg} {E : Int} {s' : Ws} (h : Wq w0 N w b s) (hm : MgIn w0 m) (hk : m.kd = 4) (hE : cmdE m.c = E) (hS : wB (headS s m) (encC m.c) = s') (hl : s.1.length ≤ 1073741824) :
    Calls Try.prog 31 #[.agg #[.pointer (some ⟨b, 0, none⟩)], .agg (mgL m).toArray] w fun e w' => WP w0 N w b E s' e w' := by
  have hb0 := ((Below.refl w.heap.size w).alloc (Nat.le_refl _) (.cells #[.pointer (some ⟨b, 0, none⟩)] 77)).alloc (by simp) (.cells (mgL m).toArray 41)
  have Q0 := hide (h.grow hb0)
  have HX := hide (heap_old (.cells (mgL m).toArray 41) (heap_new w (.cells #[.pointer (some ⟨b, 0, none⟩)] 77)))
  have HB := hide (heap_new (w.alloc (.cells #[.pointer (some ⟨b, 0, none⟩)] 77)) (.cells (mgL m).toArray 41))
  have hsz : (w.alloc (.cells #[.pointer (some ⟨b, 0, none⟩)] 77)).heap.size = w.heap.size + 1 := by simp
  rw [hsz] at HB
  have HN := hide h.old
  have HL := hide h.low
  have HB0 := hide hb0
  have HM := hide hm
  have KK := hide (needKind_ok ((w.alloc (.cells #[.pointer (some ⟨b, 0, none⟩)] 77)).alloc (.cells (mgL m).toArray 41)) (k := m.kd) (by unfold kndE; rw [if_neg (by omega)]))
  have HS := hide hS
  have HE := hide hE
  obtain ⟨sh, hsh⟩ : ∃ sh, headS s m = sh := ⟨_, rfl⟩
  have hlh : sh.1.length ≤ s.1.length + 50 := by
    rw [← hsh]
    unfold headS
    have h1 := wX_len s (encL [m.kd, m.fr, m.tt, m.co, m.er])
    have h2 := encL_len [m.kd, m.fr, m.tt, m.co, m.er] hm.hd
    simp only [List.length_cons, List.length_nil] at h2
    omega
  have HSH := hide hsh
  have HKD := hide hk
  clear hk
  clear h hm hb0 hsz hE hS hsh
  go_enter Try.func31, Try.ntmps31
  go_upto_region 1 with fail
  generalize (w.alloc (.cells #[.pointer (some ⟨b, 0, none⟩)] 77)).alloc (.cells (mgL m).toArray 41) = W1 at *
  have y0 : W1.cell? ⟨w.heap.size + 1, 0, none⟩ = some (.int .i64 m.kd) := cell_of (unhide HB) 0
  go_wp2_with fail
  refine (unhide KK).mono ?_
  rintro e wz ⟨rfl, rfl⟩
  have y1 : wz.cell? ⟨w.heap.size + 1, 1, none⟩ = some (.int .i64 m.fr) := cell_of (unhide HB) 1
  have y2 : wz.cell? ⟨w.heap.size + 1, 2, none⟩ = some (.int .i64 m.tt) := cell_of (unhide HB) 2
  have y3 : wz.cell? ⟨w.heap.size + 1, 3, none⟩ = some (.int .i64 m.co) := cell_of (unhide HB) 3
  have y4 : wz.cell? ⟨w.heap.size + 1, 4, none⟩ = some (.int .i64 m.er) := cell_of (unhide HB) 4
  have z0 := cell_of (unhide HX) 0
  simp at z0
  have K := wints_lit [m.kd, m.fr, m.tt, m.co, m.er] (vs := #[.int .i64 m.kd, .int .i64 m.fr, .int .i64 m.tt, .int .i64 m.co, .int .i64 m.er]) rfl (unhide Q0) (unhide HM).hd (by simp) (by omega)
  have HK := hide K
  clear K KK
  go_wp2_with fail
  refine (unhide HK).mono ?_
  rintro e w3 ⟨rfl, q3, t3⟩
  have eh : wX s (encL [m.kd, m.fr, m.tt, m.co, m.er]) = sh := unhide HSH
  rw [eh] at q3
  have Q3 := hide q3
  have T3 := hide t3
  clear q3 t3 eh y0 y1 y2 y3 y4 z0 HK
  have HB3 := hide (Gr.keep (unhide T3) (unhide HB) (by omega))
  have y0 : w3.cell? ⟨w.heap.size + 1, 0, none⟩ = some (.int .i64 m.kd) := cell_of (unhide HB3) 0
  have z0 := cell_of (Gr.keep (unhide T3) (unhide HX) (Nat.le_refl _)) 0
  simp at z0
  rw [unhide HKD] at y0
  have x30 : w3.cell? ⟨w.heap.size + 1, 30, none⟩ = some (.int .i64 m.c.kd) := cell_of (unhide HB3) 30
  have x31 : w3.cell? ⟨w.heap.size + 1, 31, none⟩ = some (.int .i64 m.c.nd) := cell_of (unhide HB3) 31
  have x32 : w3.cell? ⟨w.heap.size + 1, 32, none⟩ = some (.int .i64 m.c.pt) := cell_of (unhide HB3) 32
  have x33 : w3.cell? ⟨w.heap.size + 1, 33, none⟩ = some (.int .i64 m.c.ep) := cell_of (unhide HB3) 33
  have x34 : w3.cell? ⟨w.heap.size + 1, 34, none⟩ = some (.int .i64 m.c.ve) := cell_of (unhide HB3) 34
  have x35 : w3.cell? ⟨w.heap.size + 1, 35, none⟩ = some (.slice m.c.a m.c.l.length m.c.k) := cell_of (unhide HB3) 35
  have K := cmd_w (unhide Q3) (unhide HM).c (unhide HM).cf (by omega)
  have KA : Hid (Calls Try.prog 45 #[.agg #[.pointer (some ⟨b, 0, none⟩)], .agg #[.int .i64 m.c.kd, .int .i64 m.c.nd, .int .i64 m.c.pt, .int .i64 m.c.ep, .int .i64 m.c.ve, .slice m.c.a m.c.l.length m.c.k]] w3 fun e w' => WP w0 (Gr N w wz) w3 b E s' e w') := hide (by
    rw [← unhide HE, ← unhide HS, unhide HSH]
    exact K)
  clear K
  by_cases hz : E = 0
  · have HK := hide ((unhide KA).mono (R' := fun e w' => WD w0 (Gr N w wz) w3 b s' e w') (fun e w' h => ⟨(h.2.1 hz).1, (h.2.1 hz).2, h.1⟩))
    have HZ := hide hz
    clear KA hz
    go_wp2_with fail
    refine (unhide HK).mono ?_
    rintro e w4 ⟨rfl, q4, t4⟩
    have FF := hide (Wq.leave q4 (unhide HB0) (unhide HN) (unhide HL) ((unhide T3).trans t4))
    clear q4 t4 HK
    go_wp2
    go_returns
    exact ⟨(unhide FF).2, fun _ => ⟨rfl, (unhide FF).1⟩, fun h => absurd (unhide HZ) h⟩
  · have HK := hide ((unhide KA).mono (R' := fun e w' => e = gone E ∧ Touch (Off (Gr N w wz)) w3 w') (fun e w' h => ⟨h.2.2 hz, h.1⟩))
    have HZ := hide hz
    clear KA hz
    go_wp2_with fail
    refine (unhide HK).mono ?_
    rintro e w4 ⟨rfl, t4⟩
    have TF := hide (Off.leave (unhide HB0) ((unhide T3).trans t4))
    clear t4 HK
    go_wp2
    exact ⟨rfl, unhide TF, fun h => absurd h (unhide HZ), fun _ => rfl⟩
set_option maxRecDepth 100000 in
set_option maxHeartbeats 8000000 in
theorem msg_others {m : Mg} {E : Int} {s' : Ws} (h : Wq w0 N w b s) (hm : MgIn w0 m) (hk : 4 < m.kd) (hk2 : m.kd ≤ 15) (hE : fst0 [cntE m.ms.length, batE m.B, cntE m.bs.length, errs m.bs, cntE m.ab.length] = E) (hS : othersS (headS s m) m = s') (hl : s.1.length ≤ 1073741824) :
    Calls Try.prog 31 #[.agg #[.pointer (some ⟨b, 0, none⟩)], .agg (mgL m).toArray] w fun e w' => WP w0 N w b E s' e w' := by
  have hb0 := ((Below.refl w.heap.size w).alloc (Nat.le_refl _) (.cells #[.pointer (some ⟨b, 0, none⟩)] 77)).alloc (by simp) (.cells (mgL m).toArray 41)
  have Q0 := hide (h.grow hb0)
  have HX := hide (heap_old (.cells (mgL m).toArray 41) (heap_new w (.cells #[.pointer (some ⟨b, 0, none⟩)] 77)))
  have HB := hide (heap_new (w.alloc (.cells #[.pointer (some ⟨b, 0, none⟩)] 77)) (.cells (mgL m).toArray 41))
  have hsz : (w.alloc (.cells #[.pointer (some ⟨b, 0, none⟩)] 77)).heap.size = w.heap.size + 1 := by simp
  rw [hsz] at HB
  have HN := hide h.old
  have HL := hide h.low
  have HB0 := hide hb0
  have HM := hide hm
  have KK := hide (needKind_ok ((w.alloc (.cells #[.pointer (some ⟨b, 0, none⟩)] 77)).alloc (.cells (mgL m).toArray 41)) (k := m.kd) (by unfold kndE; rw [if_neg (by omega)]))
  have HS := hide hS
  have HE := hide hE
  obtain ⟨sh, hsh⟩ : ∃ sh, headS s m = sh := ⟨_, rfl⟩
  have hlh : sh.1.length ≤ s.1.length + 50 := by
    rw [← hsh]
    unfold headS
    have h1 := wX_len s (encL [m.kd, m.fr, m.tt, m.co, m.er])
    have h2 := encL_len [m.kd, m.fr, m.tt, m.co, m.er] hm.hd
    simp only [List.length_cons, List.length_nil] at h2
    omega
  have HSH := hide hsh
  have q1 : (m.kd == 1) = false := beq_eq_false_iff_ne.2 (by omega)
  have q2 : (m.kd == 2) = false := beq_eq_false_iff_ne.2 (by omega)
  have q3_ : (m.kd == 3) = false := beq_eq_false_iff_ne.2 (by omega)
  have q4_ : (m.kd == 4) = false := beq_eq_false_iff_ne.2 (by omega)
  clear hk hk2
  clear h hm hb0 hsz hE hS hsh
  go_enter Try.func31, Try.ntmps31
  go_upto_region 1 with fail
  generalize (w.alloc (.cells #[.pointer (some ⟨b, 0, none⟩)] 77)).alloc (.cells (mgL m).toArray 41) = W1 at *
  have y0 : W1.cell? ⟨w.heap.size + 1, 0, none⟩ = some (.int .i64 m.kd) := cell_of (unhide HB) 0
  go_wp2_with fail
  refine (unhide KK).mono ?_
  rintro e wz ⟨rfl, rfl⟩
  have y1 : wz.cell? ⟨w.heap.size + 1, 1, none⟩ = some (.int .i64 m.fr) := cell_of (unhide HB) 1
  have y2 : wz.cell? ⟨w.heap.size + 1, 2, none⟩ = some (.int .i64 m.tt) := cell_of (unhide HB) 2
  have y3 : wz.cell? ⟨w.heap.size + 1, 3, none⟩ = some (.int .i64 m.co) := cell_of (unhide HB) 3
  have y4 : wz.cell? ⟨w.heap.size + 1, 4, none⟩ = some (.int .i64 m.er) := cell_of (unhide HB) 4
  have z0 := cell_of (unhide HX) 0
  simp at z0
  have K := wints_lit [m.kd, m.fr, m.tt, m.co, m.er] (vs := #[.int .i64 m.kd, .int .i64 m.fr, .int .i64 m.tt, .int .i64 m.co, .int .i64 m.er]) rfl (unhide Q0) (unhide HM).hd (by simp) (by omega)
  have HK := hide K
  clear K KK
  go_wp2_with fail
  refine (unhide HK).mono ?_
  rintro e w3 ⟨rfl, q3, t3⟩
  have eh : wX s (encL [m.kd, m.fr, m.tt, m.co, m.er]) = sh := unhide HSH
  rw [eh] at q3
  have Q3 := hide q3
  have T3 := hide t3
  clear q3 t3 eh y0 y1 y2 y3 y4 z0 HK
  have HB3 := hide (Gr.keep (unhide T3) (unhide HB) (by omega))
  have y0 : w3.cell? ⟨w.heap.size + 1, 0, none⟩ = some (.int .i64 m.kd) := cell_of (unhide HB3) 0
  have z0 := cell_of (Gr.keep (unhide T3) (unhide HX) (Nat.le_refl _)) 0
  simp at z0
  have HRG := hide (range_of (o := 0) (ds := mgL m) (unhide HB3) (fun j v hv => by rw [Nat.zero_add]; exact hv))
  have K := others_w (unhide Q3) (unhide HM) rfl rfl rfl rfl rfl rfl rfl rfl (by omega)
  have KA : Hid (Calls Try.prog 46 #[.agg #[.pointer (some ⟨b, 0, none⟩)], .agg (mgL m).toArray] w3 fun e w' => WP w0 (Gr N w wz) w3 b E s' e w') := hide (by
    rw [← unhide HE, ← unhide HS, unhide HSH]
    exact K)
  clear K
  by_cases hz : E = 0
  · have HK := hide ((unhide KA).mono (R' := fun e w' => WD w0 (Gr N w wz) w3 b s' e w') (fun e w' h => ⟨(h.2.1 hz).1, (h.2.1 hz).2, h.1⟩))
    have HZ := hide hz
    clear KA hz
    go_wp2_with (with_reducible (show wpList _ _ _ (Oper.mk _ (Op.load _ _) _ _ _ _ :: _) _ _); refine wpList_load_mid rfl 41 (.tmp 3) rfl (w.heap.size + 1) 0 rfl (mgL m) _ (unhide HRG) Try.underlying41 rfl (info_mg m) ?_)
    refine (unhide HK).mono ?_
    rintro e w4 ⟨rfl, q4, t4⟩
    have FF := hide (Wq.leave q4 (unhide HB0) (unhide HN) (unhide HL) ((unhide T3).trans t4))
    clear q4 t4 HK
    go_wp2
    go_returns
    exact ⟨(unhide FF).2, fun _ => ⟨rfl, (unhide FF).1⟩, fun h => absurd (unhide HZ) h⟩
  · have HK := hide ((unhide KA).mono (R' := fun e w' => e = gone E ∧ Touch (Off (Gr N w wz)) w3 w') (fun e w' h => ⟨h.2.2 hz, h.1⟩))
    have HZ := hide hz
    clear KA hz
    go_wp2_with (with_reducible (show wpList _ _ _ (Oper.mk _ (Op.load _ _) _ _ _ _ :: _) _ _); refine wpList_load_mid rfl 41 (.tmp 3) rfl (w.heap.size + 1) 0 rfl (mgL m) _ (unhide HRG) Try.underlying41 rfl (info_mg m) ?_)
    refine (unhide HK).mono ?_
    rintro e w4 ⟨rfl, t4⟩
    have TF := hide (Off.leave (unhide HB0) ((unhide T3).trans t4))
    clear t4 HK
    go_wp2
    exact ⟨rfl, unhide TF, fun h => absurd h (unhide HZ), fun _ => rfl⟩
theorem msg_w {m : Mg} (h : Wq w0 N w b s) (hm : MgIn w0 m) (hl : s.1.length ≤ 1073741824) :
    Calls Try.prog 31 #[.agg #[.pointer (some ⟨b, 0, none⟩)], .agg (mgL m).toArray] w fun e w' => WP w0 N w b (msgE m) (msgS s m) e w' := by
  by_cases hk : kndE m.kd ≠ 0
  · have e : msgE m = 1 := by unfold msgE; rw [if_pos hk]
    rw [e]
    exact (msg_kind h hm hk).mono fun _ _ hp => WP.no (by decide) hp
  · have e : msgE m = restE m := by unfold msgE; rw [if_neg hk]
    have hr : 1 ≤ m.kd ∧ m.kd ≤ 15 := by
      unfold kndE at hk
      split at hk
      · exact absurd (by decide) hk
      · omega
    rw [e]
    unfold msgS restE restS
    by_cases h1 : m.kd = 1
    · rw [if_pos h1, if_pos h1]; exact msg_raft h hm h1 rfl rfl hl
    rw [if_neg h1, if_neg h1]
    by_cases h2 : m.kd = 2
    · rw [if_pos h2, if_pos h2]; exact msg_fetch h hm h2 rfl rfl hl
    rw [if_neg h2, if_neg h2]
    by_cases h3 : m.kd = 3
    · rw [if_pos h3, if_pos h3]; exact msg_fetched h hm h3 rfl rfl hl
    rw [if_neg h3, if_neg h3]
    by_cases h4 : m.kd = 4
    · rw [if_pos h4, if_pos h4]; exact msg_cmd h hm h4 rfl rfl hl
    rw [if_neg h4, if_neg h4]
    exact msg_others h hm (by omega) hr.2 rfl rfl hl
end
end Go.Proofs.Ytblmondkdcpkaaa
