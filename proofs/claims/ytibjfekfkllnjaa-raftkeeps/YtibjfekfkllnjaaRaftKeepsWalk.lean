/-
  RaftKeeps's walk: a node that is begun has what was kept, and is refused just where the document says. Conditions: what is kept is handed in whole; a log of at most 2^42 - 128 entries.
-/
import Derived.Test.YtibjfekfkllnjaaRk2
import Derived.Test.YtibjfekfkllnjaaRk3
namespace Go.Proofs.Ytibjfekfkllnjaa
open Go.RowKit Go.Maps
set_option linter.unusedVariables false

theorem raftKeeps_walk {w : World} {i n : Int} {h : Hd} (x : HIn w h) (hb0 : h.base ≤ 9223372036854775807) : Calls Try.prog 5 #[.int .i64 i, .int .i64 n, hdV h] w fun e w' => e = .returned (.bool true) ∧ Below w.heap.size w w' := by
  rcases bad12_or i n h.T h.vo h.base with hb | ⟨h1, h2, h3, h4, h5, h6, h7, h8⟩
  · exact raftKeeps_bad x hb
  · exact raftKeeps_good x hb0 h1 h2 h3 h4 h5 h6 h7 h8
end Go.Proofs.Ytibjfekfkllnjaa
