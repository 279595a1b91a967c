/-
  The calls that the statements of layer 2 make on one new table, each told in one form: the table stays ready, nothing old turns, and what the call's own bytes hold stays. Conditions: as in the texts on the table and the helpers.
-/
import Derived.Test.YtbojiafnapcgnabCrcOwn
namespace Go.Proofs.Ytbojiafnapcgnab
open Go.RowKit

/-- The table that was made first of all is ready, and nothing that was there has turned. -/
structure Cx (w x : World) : Prop where
  ready : Ready x w.heap.size
  below : Below w.heap.size w x
theorem Cx.lt {w x : World} (h : Cx w x) : w.heap.size < x.heap.size := h.ready.lt
theorem Cx.drew {w x : World} (h : Cx w x) : Cx w x.drew := ⟨h.ready.drew, h.below.drew⟩

/-- What lies in blocks of the call's own behind the table stays. -/
def Stays (w x x' : World) : Prop := ∀ c n g, w.heap.size < c → OwnAt x c n g → OwnAt x' c n g
theorem Stays.trans {w x y z : World} (h : Stays w x y) (k : Stays w y z) : Stays w x z := fun c n g hc ho => k c n g hc (h c n g hc ho)

theorem arg_later {w x : World} {a : Option Addr} {len : Nat} {g : Nat → Nat} (hg : BytesAt w a len g) (hb : Below w.heap.size w x) : BytesAt x a len g := fun i hi => by
  obtain ⟨b, off, h1, h2, h3, h4⟩ := hg i hi
  exact ⟨b, off, h1, Nat.lt_of_lt_of_le h2 hb.size, (hb.cell (p := ⟨b, off + i, none⟩) h2).trans h3, h4⟩

theorem awake_step (w x : World) (hc : Cx w x) :
    Calls Try.prog 21 #[] x fun e x' => e = .returned (.bool true) ∧ Cx w x' ∧ Stays w x x' := by
  refine (tawake_any x).mono ?_
  rintro e x' ⟨rfl, b⟩
  exact ⟨rfl, ⟨hc.ready.keep (Touch.of_below (S := fun _ => False) b) (fun h => h), hc.below.trans (b.mono hc.below.size)⟩, fun c n g _ ho => ho.keep (Touch.of_below (S := fun _ => False) b) (fun h => h)⟩

theorem own_step (w x : World) (a : Option Addr) (len cap : Nat) (g : Nat → Nat) (hc : Cx w x) (hg : BytesAt w a len g) (hlen : len ≤ 140737488351232) :
    Calls Try.prog 22 #[.slice a len cap] x fun e x' => e = .returned (.slice (some ⟨x.heap.size, 0, none⟩) len (len + 9)) ∧ Cx w x' ∧ OwnAt x' x.heap.size len g ∧ Stays w x x' := by
  refine (own_any a len cap g x (arg_later hg hc.below) hlen).mono ?_
  rintro e x' ⟨rfl, o, b⟩
  exact ⟨rfl, ⟨hc.ready.keep (Touch.of_below (S := fun _ => False) b) (fun h => h), hc.below.trans (b.mono hc.below.size)⟩, o, fun c n g _ ho => ho.keep (Touch.of_below (S := fun _ => False) b) (fun h => h)⟩

theorem sum_step (w x : World) (cb n m : Nat) (g : Nat → Nat) (hc : Cx w x) (ho : OwnAt x cb n g) (hb : w.heap.size < cb) (hn : n ≤ 140737488355328) :
    Calls Try.prog 24 #[.pointer (some ⟨w.heap.size, 0, none⟩), .slice (some ⟨cb, 0, none⟩) n m] x fun e x' => e = .returned (.int .u32 (mor g 0 n)) ∧ Cx w x' ∧ Stays w x x' := by
  refine (sum_any w.heap.size (some ⟨cb, 0, none⟩) n m g x hc.ready ho.bytes (fun _ y hy => by simp at hy; subst hy; simp; omega) (by omega)).mono ?_
  rintro e x' ⟨rfl, h1, t1⟩
  exact ⟨rfl, ⟨.inr h1, below_touch hc.below t1 hc.below.size (fun k hk => by omega)⟩, fun c n g hc ho => ho.keep t1 (by omega)⟩

theorem more_step (w x : World) (s cb n m : Nat) (g : Nat → Nat) (hc : Cx w x) (hs : s < 4294967296) (ho : OwnAt x cb n g) (hb : w.heap.size < cb) (hn : n ≤ 140737488355328) :
    Calls Try.prog 25 #[.pointer (some ⟨w.heap.size, 0, none⟩), .int .u32 s, .slice (some ⟨cb, 0, none⟩) n m] x fun e x' => e = .returned (.int .u32 (mor g s n)) ∧ Cx w x' ∧ Stays w x x' := by
  refine (more_any w.heap.size s (some ⟨cb, 0, none⟩) n m g x hc.ready hs ho.bytes (fun _ y hy => by simp at hy; subst hy; simp; omega) (by omega)).mono ?_
  rintro e x' ⟨rfl, h1, t1⟩
  exact ⟨rfl, ⟨.inr h1, below_touch hc.below t1 hc.below.size (fun k hk => by omega)⟩, fun c n g hc ho => ho.keep t1 (by omega)⟩

theorem more_arg (w x : World) (s : Nat) (a : Option Addr) (n m : Nat) (g : Nat → Nat) (hc : Cx w x) (hs : s < 4294967296) (hg : BytesAt w a n g) (hn : n ≤ 140737488355328) :
    Calls Try.prog 25 #[.pointer (some ⟨w.heap.size, 0, none⟩), .int .u32 s, .slice a n m] x fun e x' => e = .returned (.int .u32 (mor g s n)) ∧ Cx w x' ∧ Stays w x x' := by
  refine (more_any w.heap.size s a n m g x hc.ready hs (arg_later hg hc.below) (fun h0 y hy => by
    obtain ⟨b, off, ha, hb, _⟩ := hg 0 h0
    rw [ha] at hy; cases hy; simp; omega) (by omega)).mono ?_
  rintro e x' ⟨rfl, h1, t1⟩
  exact ⟨rfl, ⟨.inr h1, below_touch hc.below t1 hc.below.size (fun k hk => by omega)⟩, fun c n g hc ho => ho.keep t1 (by omega)⟩

/-- b[k:]. -/
def cut (a : Option Addr) (k cap : Nat) : Option Addr := if cap = k then a else a.map (·.add k)
theorem slice_h (a : Option Addr) (len cap k : Nat) (hk : k ≤ cap) (w : World) : (Instr.slice 38 (.slice a len cap) none (some (.int .i64 (k : Int))) none).run Try.prog w = .ok (.slice a k cap) w := by
  have hel : Try.prog.underlying 38 = some (.slice (Try.prog.elem 38)) := by kernel_rfl
  have hsz : ∀ w, (sizeOf (Try.prog.elem 38)).run Try.prog w = .ok 1 w := fun _ => by kernel_rfl
  rw [run_slice_h w 38 a len cap hel .i64 (k : Int) (by omega) (by omega), hsz]
  have e : ∀ a : Option Addr, a.map (fun x => x.add 0) = a := fun a => by cases a <;> simp [Addr.add]
  simp [Result.andThen, sliced, e]
theorem slice_l (a : Option Addr) (len cap k : Nat) (hk : k ≤ len) (w : World) : (Instr.slice 38 (.slice a len cap) (some (.int .i64 (k : Int))) none none).run Try.prog w = .ok (.slice (cut a k cap) (len - k) (cap - k)) w := by
  have hel : Try.prog.underlying 38 = some (.slice (Try.prog.elem 38)) := by kernel_rfl
  have hsz : ∀ w, (sizeOf (Try.prog.elem 38)).run Try.prog w = .ok 1 w := fun _ => by kernel_rfl
  rw [run_slice_l w 38 a len cap hel .i64 (k : Int) (by omega) (by omega), hsz]
  simp [Result.andThen, sliced, cut]
theorem cut_bytes {w : World} {a : Option Addr} {len cap k : Nat} {g : Nat → Nat} (h : BytesAt w a len g) (hc : len ≤ cap) : BytesAt w (cut a k cap) (len - k) (fun i => g (k + i)) := by
  intro i hi
  obtain ⟨b, off, h1, h2, h3, h4⟩ := h (k + i) (by omega)
  refine ⟨b, off + k, ?_, h2, by rw [Nat.add_assoc]; exact h3, h4⟩
  unfold cut
  rw [if_neg (by omega), h1]
  simp only [Option.map_some]
  congr 1
  unfold Addr.add
  split
  · rename_i h0; subst h0; rfl
  · rfl
theorem head_bytes {w : World} {a : Option Addr} {len k : Nat} {g : Nat → Nat} (h : BytesAt w a len g) (hk : k ≤ len) : BytesAt w a k g := fun i hi => h i (by omega)
end Go.Proofs.Ytbojiafnapcgnab
