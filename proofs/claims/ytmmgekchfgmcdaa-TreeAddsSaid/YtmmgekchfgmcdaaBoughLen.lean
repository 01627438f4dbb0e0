/-
  What math/bits.Len answers, off the shelf.
-/
import Derived.Test.YtmmgekchfgmcdaaBoughSide
import Derived.Test.YtmmgekchfgmcdaaShelf

namespace Go.Proofs.Ytmmgekchfgmcdaa
theorem lenIs : LenIs := fun x w h0 h1 => Try.bits_Len x w h0 h1
end Go.Proofs.Ytmmgekchfgmcdaa
