/-
  The road of ImageBlocks. No conditions beyond the reading of its list.
-/
import Derived.Test.YtlildelmeeojlabAw13
namespace Go.Proofs.Ytlildelmeeojlab
open Go.RowKit Go.Maps
set_option linter.unusedVariables false

/-- An image of three nodes and one partition behind i commands, n of which gave a block. -/
structure BS (w wr : World) (mb n i : Nat) : Prop where
  ex : ∃ m, INew w wr mb m ∧ m.ns.length = 3 ∧ m.ps.length = 1 ∧ m.nx = 1 + 10 * (n : Int) ∧ m.ct = (i : Int)
structure BN (w wr : World) (mb n i x : Nat) (b : Int) : Prop where
  ex : ∃ m, INew w wr mb m ∧ m.ns.length = 3 ∧ m.ps.length = 1 ∧ m.nx = 1 + 10 * (n : Int) ∧ m.ct = (i : Int) ∧ ∃ h : x < m.ns.length, (m.ns[x]).bk = b
theorem INew.to {w w1 w2 : World} {mb : Nat} {m m' : Im} (h : INew w w1 mb m) (t : ImTo w1 mb m w2 m') : INew w w2 mb m' :=
  ⟨t.at_, fun k hk => by
    rcases t.moved k hk with e | e
    · exact h.new k e
    · exact Nat.le_trans h.below.size e, below_touch h.below t.touch h.below.size (fun k hk => h.new k hk)⟩
theorem INew.later {w w1 w2 : World} {mb : Nat} {m : Im} (h : INew w w1 mb m) (b : Below w1.heap.size w1 w2) : INew w w2 mb m :=
  ⟨h.at_.later b, h.new, h.below.trans (b.mono h.below.size)⟩
theorem INew.quiet {w w1 w2 : World} {mb : Nat} {m : Im} (h : INew w w1 mb m) (t : Touch (fun _ => False) w1 w2) : INew w w2 mb m :=
  ⟨h.at_.quiet t, h.new, below_touch h.below t h.below.size (fun _ h => h.elim)⟩
def cm5 (x : Nat) : Cm := ⟨5, (x : Int), 0, 0, 0, none, 0, []⟩
theorem cm5_fits {x : Nat} (hx : x < 3) : fitsB 3 1 (cm5 x) = true := by
  have : x = 0 ∨ x = 1 ∨ x = 2 := by omega
  rcases this with rfl | rfl | rfl <;> rfl
theorem bs_gives {w wr : World} {mb n i x : Nat} (h : BS w wr mb n i) (hx : x < 3) (hn : n < 100) (hi : i ≤ 4611686018427387904) :
    Calls Try.prog 8 #[.pointer (some ⟨mb, 0, none⟩), .agg #[.int .i64 5, .int .i64 (x : Int), .int .i64 0, .int .i64 0, .int .i64 0, .slice none 0 0]] wr fun e w2 => e = .returned (.int .i64 0) ∧ BN w w2 mb (n + 1) (i + 1) x (1 + 10 * (n : Int)) := by
  obtain ⟨m, h1, h2, h3, h4, h5⟩ := h.ex
  have K := does_block (c := cm5 x) (x := x) h1.at_ (cin_none _ _ rfl) (far_none _ _ _ rfl) (by omega) (by omega) (by rw [h2, h3]; exact cm5_fits hx) rfl rfl (by omega)
  refine K.mono ?_
  rintro e w2 ⟨v, rfl, k1, _⟩
  obtain ⟨rfl, m', t2, e2⟩ := k1 (by omega)
  have q1 : m'.ns = m.ns.set x ⟨(m.ns[x]'(by omega)).th, (m.ns[x]'(by omega)).tm, m.nx⟩ := congrArg Img.ns e2
  have q2 : m'.ps.map Pm.q = m.ps.map Pm.q := congrArg Img.ps e2
  have q3 : m'.nx = m.nx + 10 := congrArg Img.nx e2
  have q4 : m'.ct = m.ct + 1 := congrArg Img.ct e2
  have l1 : m'.ns.length = 3 := by rw [q1]; simp [h2]
  refine ⟨rfl, ⟨m', h1.to t2, l1, by have := congrArg List.length q2; simpa [h3] using this, by rw [q3, h4]; omega, by rw [q4, h5]; omega, by omega, ?_⟩⟩
  have : m'.ns[x]? = some ⟨(m.ns[x]'(by omega)).th, (m.ns[x]'(by omega)).tm, m.nx⟩ := by rw [q1, List.getElem?_set]; simp [h2, hx]
  rw [List.getElem?_eq_getElem (by omega)] at this
  have := Option.some.inj this
  rw [this]; exact h4
theorem bs_full {w wr : World} {mb n i x : Nat} (h : BS w wr mb n i) (hx : x < 3) (hn : n = 100) (hi : i ≤ 4611686018427387904) :
    Calls Try.prog 8 #[.pointer (some ⟨mb, 0, none⟩), .agg #[.int .i64 5, .int .i64 (x : Int), .int .i64 0, .int .i64 0, .int .i64 0, .slice none 0 0]] wr fun e w2 => e = .returned (.int .i64 17) ∧ BS w w2 mb n (i + 1) := by
  obtain ⟨m, h1, h2, h3, h4, h5⟩ := h.ex
  have K := does_block (c := cm5 x) (x := x) h1.at_ (cin_none _ _ rfl) (far_none _ _ _ rfl) (by omega) (by omega) (by rw [h2, h3]; exact cm5_fits hx) rfl rfl (by omega)
  refine K.mono ?_
  rintro e w2 ⟨v, rfl, _, k1⟩
  obtain ⟨rfl, m', t2, e2⟩ := k1 (by omega)
  have q1 : m'.ns = m.ns := congrArg Img.ns e2
  have q2 : m'.ps.map Pm.q = m.ps.map Pm.q := congrArg Img.ps e2
  have q3 : m'.nx = m.nx := congrArg Img.nx e2
  have q4 : m'.ct = m.ct + 1 := congrArg Img.ct e2
  exact ⟨rfl, ⟨m', h1.to t2, by rw [q1]; exact h2, by have := congrArg List.length q2; simpa [h3] using this, by rw [q3, h4], by rw [q4, h5]; omega⟩⟩
theorem bn_node {w wr : World} {mb n i x : Nat} {b : Int} (h : BN w wr mb n i x b) :
    Calls Try.prog 9 #[.pointer (some ⟨mb, 0, none⟩), .int .i64 (x : Int)] wr fun e w2 => ∃ t u, e = .returned (.tuple #[.bool t, .int .i64 u, .int .u64 b]) ∧ BS w w2 mb n i := by
  obtain ⟨m, h1, h2, h3, h4, h5, h6, h7⟩ := h.ex
  refine (node_any h1.at_ h6).mono ?_
  rintro e w2 ⟨rfl, b2⟩
  rw [h7]
  exact ⟨_, _, rfl, ⟨m, h1.later b2, h2, h3, h4, h5⟩⟩
theorem bs_pids {w wr : World} {mb n i : Nat} (h : BS w wr mb n i) :
    Calls Try.prog 10 #[.pointer (some ⟨mb, 0, none⟩)] wr fun e w2 => e = .returned (.tuple #[.int .u64 (1 + 10 * (n : Int)), .int .u64 (1000 - 10 * (n : Int))]) ∧ Below w.heap.size w w2 := by
  obtain ⟨m, h1, h2, h3, h4, h5⟩ := h.ex
  refine (pids_any h1.at_).mono ?_
  rintro e w2 ⟨rfl, t2⟩
  rw [h4, show (1001 - (1 + 10 * (n : Int))) = 1000 - 10 * (n : Int) by omega]
  exact ⟨rfl, (h1.quiet t2).below⟩
theorem bs_new (w : World) : Calls Try.prog 6 #[.int .i64 3, .int .i64 1, .int .i64 1] w fun e w' => ∃ mb, e = .returned (.tuple #[.pointer (some ⟨mb, 0, none⟩), .int .i64 0]) ∧ BS w w' mb 0 0 := by
  refine (inew_any (w := w) (n := 3) (p := 1) (c := 1) (by omega) (by omega) (by omega) (by omega) (by omega) (by omega)).mono ?_
  rintro e w' ⟨mb, m, rfl, h1, h2⟩
  have q1 : m.ns = List.replicate 3 ⟨false, 0, 0⟩ := congrArg Img.ns h2
  have q2 : m.ps.map Pm.q = (List.range 1).map (newP 3 1) := congrArg Img.ps h2
  have q3 : m.nx = 1 := congrArg Img.nx h2
  have q4 : m.ct = 0 := congrArg Img.ct h2
  exact ⟨mb, rfl, ⟨m, h1, by rw [q1]; rfl, by have := congrArg List.length q2; simpa using this, by rw [q3]; rfl, by rw [q4]; rfl⟩⟩
theorem BS.later {w w1 w2 : World} {mb n i : Nat} (h : BS w w1 mb n i) (b : Below w1.heap.size w1 w2) : BS w w2 mb n i := by
  obtain ⟨m, h1, h2⟩ := h.ex
  exact ⟨m, h1.later b, h2⟩
theorem BS.below {w w1 : World} {mb n i : Nat} (h : BS w w1 mb n i) : Below w.heap.size w w1 := by
  obtain ⟨m, h1, h2⟩ := h.ex
  exact h1.below
set_option maxHeartbeats 2000000 in
theorem imageBlocks_walk (w : World) (a : Option Addr) (cap : Nat) (l : List Nat) (hl : LAt w a l) (hlen : l.length ≤ 140737488355328) :
    Calls Try.prog 3 #[.slice a l.length cap] w fun e w' => e = .returned (.bool true) ∧ Below w.heap.size w w' := by
  have K0 := hide (bs_new w)
  have HLL := hide hl
  generalize hln : l.length = len at *
  have HLN := hide hln
  clear hl hln
  go_enter Try.func3, Try.ntmps3
  go_wp2_with (first
    | (go_at_call 6; refine (unhide K0).mono ?_; rintro e w1 ⟨mb, rfl, q1⟩; have Q1 := hide q1; clear q1 K0)
    | (go_at_call 7; refine (awake13 _).mono ?_; rintro e w2 ⟨rfl, b2⟩; have Q2 := hide ((unhide Q1).later b2); clear b2 Q1))
  go_loopg [5, 7, 31] len (fun gg s5 _ s31 wr => ∃ i n : Nat, i ≤ len ∧ len - i ≤ gg ∧ n ≤ 100 ∧ s31 = .int .i64 i ∧ s5 = .int .i64 n ∧ Hid (BS w wr mb n i))
  case atStart => exact ⟨0, 0, Nat.zero_le _, by omega, by omega, rfl, rfl, Q2⟩
  case round =>
    clear Q2
    obtain ⟨i, n, hi, hg, hn, rfl, rfl, T⟩ := hrel
    have m1 : wrap64 (10 * (n : Int)) = 10 * (n : Int) := wrap64_low (by omega) (by omega)
    have m2 : IntKind.i64.wrap (10 * (n : Int)) = 10 * (n : Int) := wrap_low (by omega) (by omega)
    have m3 : wrap64 (1 + 10 * (n : Int)) = 1 + 10 * (n : Int) := wrap64_low (by omega) (by omega)
    have m4 : IntKind.i64.wrap (1 + 10 * (n : Int)) = 1 + 10 * (n : Int) := wrap_low (by omega) (by omega)
    have m5 : IntKind.u64.wrap (1 + 10 * (n : Int)) = 1 + 10 * (n : Int) := by simp [IntKind.wrap, IntKind.bits, IntKind.signed]; omega
    by_cases hlt : i < len
    · have hltz : (i : Int) < (len : Int) := by omega
      obtain ⟨b, off, ea, _, hcell, hx256⟩ := ((unhide HLL).later (unhide T).below).cell (i := i) (by rw [unhide HLN]; exact hlt)
      subst ea
      generalize l.getD i 0 = x at *
      have hx3 : x % 3 < 3 := Nat.mod_lt _ (by omega)
      have KG := fun hn' => hide (bs_gives (unhide T) hx3 hn' (by omega))
      have KF := fun hn' => hide (bs_full (unhide T) hx3 hn' (by omega))
      have x3 : ((x % 3 : Nat) : Int) = (x : Int) % 3 := by omega
      have x8 : IntKind.u8.wrap ((x : Int) % 3) = (x : Int) % 3 := by simp [IntKind.wrap, IntKind.bits, IntKind.signed]; omega
      have x9 : IntKind.i64.wrap ((x : Int) % 3) = (x : Int) % 3 := wrap_low (by omega) (by omega)
      by_cases hn1 : n < 100
      · have hnz : (n : Int) < 100 := by omega
        have KG := KG hn1
        rw [x3] at KG
        clear KF
        have KN := fun (w3 : World) (h : BN w w3 mb (n + 1) (i + 1) (x % 3) (1 + 10 * (n : Int))) => hide (bn_node h)
        rw [x3] at KN
        clear x3
        have nw : IntKind.i64.wrap ((n : Int) + 1) = (n : Int) + 1 := wrap_low (by omega) (by omega)
        have nw2 : wrap64 ((n : Int) + 1) = (n : Int) + 1 := wrap64_low (by omega) (by omega)
        go_wp2_with fail
        refine (unhide KG).mono ?_
        rintro e w3 ⟨rfl, q3⟩
        have KN3 := KN w3 q3
        clear q3 KG KN
        go_wp2_with fail
        refine (unhide KN3).mono ?_
        rintro e w4 ⟨tz, bz, rfl, q4⟩
        have Q4 := hide q4
        clear q4 KN3
        go_upto_region 17 with fail
        clear nw nw2 m1 m2 m3 m4 m5 x8 x9 hnz
        go_wp2
        go_roundg (len - (i + 1))
        case measure => omega
        case rel => exact ⟨i + 1, n + 1, by omega, by omega, by omega, congrArg (Value.int .i64) (by omega), congrArg (Value.int .i64) (by omega), Q4⟩
      · have hnz : ¬ (n : Int) < 100 := by omega
        have e100 : n = 100 := by omega
        have KF := KF e100
        rw [x3] at KF
        clear e100 KG x3
        go_wp2_with (go_at_call 8; refine (unhide KF).mono ?_; rintro e w3 ⟨rfl, q3⟩; have Q3 := hide q3; clear q3)
        go_roundg (len - (i + 1))
        case measure => omega
        case rel => exact ⟨i + 1, n, by omega, by omega, by omega, by go_num, rfl, Q3⟩
    · have hltz : ¬ (i : Int) < (len : Int) := by omega
      have KP := hide (bs_pids (unhide T))
      have m6 : wrap64 (1000 - 10 * (n : Int)) = 1000 - 10 * (n : Int) := wrap64_low (by omega) (by omega)
      have m7 : IntKind.i64.wrap (1000 - 10 * (n : Int)) = 1000 - 10 * (n : Int) := wrap_low (by omega) (by omega)
      have m8 : IntKind.u64.wrap (1000 - 10 * (n : Int)) = 1000 - 10 * (n : Int) := by simp [IntKind.wrap, IntKind.bits, IntKind.signed]; omega
      go_wp2_with (go_at_call 10; refine (unhide KP).mono ?_; rintro e w3 ⟨rfl, b3⟩; have B3 := hide b3; clear b3)
      go_returns
      exact ⟨rfl, unhide B3⟩
end Go.Proofs.Ytlildelmeeojlab
