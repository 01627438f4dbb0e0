/-
  The statements of bough that have no loop.
-/
import Derived.Test.YtmmgekchfgmcdaaBoughAwake
import Derived.Test.YtmmgekchfgmcdaaBoughLen

namespace Go.Proofs.Ytmmgekchfgmcdaa
open Go.RowKit Go.Lib

theorem Kept.next {w w1 w2 : World} (h : Kept w.heap.size w.heap.size w w1) (k : Kept w1.heap.size w1.heap.size w1 w2) : Kept w.heap.size w.heap.size w w2 :=
  h.trans (k.mono h.size (fun _ hi _ => Nat.ne_of_lt (Nat.lt_of_lt_of_le hi h.size)))
theorem Bo.direct_length (n leaf : Int) : (Bo.Direct n leaf).length ≤ 66 := by
  rw [Bo.Direct]
  split
  · exact Bo.chain_length _ _
  · simp

end Go.Proofs.Ytmmgekchfgmcdaa
