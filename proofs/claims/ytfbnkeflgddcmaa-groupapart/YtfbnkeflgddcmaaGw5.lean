/-
  hold in one; the end of a transaction of which one record waits. Conditions: the record is one of group 1.
-/
import Derived.Test.YtfbnkeflgddcmaaGw4
namespace Go.Proofs.Ytfbnkeflgddcmaa
open Go.RowKit Go.Maps
set_option linter.unusedVariables false

theorem hold_any {B : Nat} {w : World} {sb : Nat} {mv1 mv2 : Value} {m1 : List (Int × Tm)} {W : List (Int × Sl)} {gen off : Int} {v : Value} {kk : Nat} (h : GS B w sb mv1 mv2 m1 W) (hv : OneR B w v ⟨2, 1, gen, [], (kk : Int), off⟩) (hk : kk < 4) (hB : B ≤ w.heap.size) :
    Calls Try.prog 18 #[.pointer (some ⟨sb, 0, none⟩), v] w fun e w' => HdP B w sb mv2 m1 W kk off e w' := by
  have hg := h.g
  rcases hg with ⟨rfl, _⟩ | ⟨b, rfl, _⟩
  · match kk, hk, hv with
    | 0, _, hv => exact hold_none0 h hv hB
    | 1, _, hv => exact hold_none1 h hv hB
    | 2, _, hv => exact hold_none2 h hv hB
    | 3, _, hv => exact hold_none3 h hv hB
    | n + 4, hk, _ => exact absurd hk (by omega)
  · match kk, hk, hv with
    | 0, _, hv => exact hold_some0 h hv hB
    | 1, _, hv => exact hold_some1 h hv hB
    | 2, _, hv => exact hold_some2 h hv hB
    | 3, _, hv => exact hold_some3 h hv hB
    | n + 4, hk, _ => exact absurd hk (by omega)
/-- What the end of a transaction leaves. -/
def EdP (B : Nat) (w : World) (sb : Nat) (m1 : List (Int × Tm)) (kk : Nat) (off : Int) (yes : Bool) (e : Ending) (w' : World) : Prop := e = .returned (.tuple #[]) ∧ ∃ mv1' mv2' m1', GS B w' sb mv1' mv2' m1' [] ∧ tOf m1' = (if yes = true then tPut kk off (tOf m1) else tOf m1) ∧ Touch (fun k => B ≤ k) w w'
set_option maxRecDepth 100000 in
set_option maxHeartbeats 4000000 in
theorem gend_any {B : Nat} {w : World} {sb mb : Nat} {mv1 : Value} {m1 : List (Int × Tm)} {gen off pid : Int} {p : Sl} {kk : Nat} (yes : Bool) (h : GS B w sb mv1 (.map (some mb)) m1 [(pid, p)]) (hv : OneR B w (slV p) ⟨2, 1, gen, [], (kk : Int), off⟩) (hk : kk < 4) (hp : pid = 1 ∨ pid = 2) (hB : B ≤ w.heap.size) :
    Calls Try.prog 15 #[.pointer (some ⟨sb, 0, none⟩), .int .u64 pid, .bool yes] w fun e w' => EdP B w sb m1 kk off yes e w' := by
  have hv' := hv
  obtain ⟨g, c, a, k, ev, hw, _, hg⟩ := hv'
  have y1 : w.cell? ⟨sb, 1, none⟩ = some (.map (some mb)) := cell_of h.obj 1
  have lk : (Instr.lookup 50 (.map (some mb)) (.int .u64 pid) false).run Try.prog w = .ok (.slice (some ⟨g, 0, none⟩) 1 c) w := by
    have := (h.map2 rfl).1.look1 (M := wK) (s := pid) (wf_pid hp)
    rw [show mgot wK (matx [(pid, p)] pid) = p by simp [matx, mgot]] at this
    rw [← ev]
    exact this
  obtain ⟨w2, hdr, hm2, ht2⟩ := (h.map2 rfl).1.drop (M := wK) (s := pid) (wf_pid hp) 0
  have hdr' : (Builtin.delete_ #[50, 31] 0 #[.map (some mb), .int .u64 pid]).run Try.prog w = .ok (.tuple #[]) w2 := hdr
  rw [show mdel [(pid, p)] pid = [] by simp [mdel]] at hm2
  have nsb : sb ≠ mb := fun e => by
    obtain ⟨es, ck, h1⟩ := (h.map2 rfl).1.block
    rw [← e, h.obj] at h1
    cases h1
  have H2 : Hid (GS B w2 sb mv1 (.map (some mb)) m1 []) := hide ⟨ht2.keep h.obj nsb, by
    rcases h.g with ⟨e, e2⟩ | ⟨b, e, m, hb⟩
    · exact .inl ⟨e, e2⟩
    · exact .inr ⟨b, e, m.keep ht2 (fun e2 => h.ne b e (by rw [e2])), hb⟩, .inr ⟨mb, rfl, hm2, (h.map2 rfl).2⟩, h.ne, h.few, h.hb⟩
  have V2 : Hid (OneR B w2 (.slice (some ⟨g, 0, none⟩) 1 c) ⟨2, 1, gen, [], (kk : Int), off⟩) := hide (by
    have := hv.keep rfl ht2 (fun q hq e => by
      obtain ⟨cs, h1⟩ := hw.heap hq
      obtain ⟨es, ck, h2⟩ := (h.map2 rfl).1.block
      rw [e, h2] at h1
      cases h1)
    rw [ev] at this
    exact this)
  have T2 : Hid (Touch (fun k => B ≤ k) w w2) := hide (ht2.mono (fun q hq => by rw [hq]; exact (h.map2 rfl).2))
  have HB2 : Hid (B ≤ w2.heap.size) := hide (Nat.le_trans hB ht2.size)
  have HK := hide hk
  have C2 : w2.cell? ⟨sb, 1, none⟩ = some (.map (some mb)) := cell_of (unhide H2).obj 1
  clear h hv hw hg hdr hm2 ht2 nsb hk hB
  go_enter Try.func15, Try.ntmps15
  cases yes
  · have FF : Hid (EdP B w sb m1 kk off false (.returned (.tuple #[])) w2) := hide ⟨rfl, mv1, _, m1, unhide H2, rfl, unhide T2⟩
    clear H2 V2 T2 HB2 C2
    go_wp2
    go_returns
    exact unhide FF
  · have KH := hide (hold_any (unhide H2) (unhide V2) (unhide HK) (unhide HB2))
    go_wp2_with fail
    refine (unhide KH).mono ?_
    rintro e w3 ⟨rfl, b, m1', h3, e3, t3⟩
    have FF : Hid (EdP B w sb m1 kk off true (.returned (.tuple #[])) w3) := hide ⟨rfl, _, _, m1', h3, e3, (unhide T2).trans t3⟩
    clear h3 e3 t3 KH H2 V2 T2 HB2 C2
    go_wp2
    go_returns
    exact unhide FF
end Go.Proofs.Ytfbnkeflgddcmaa
