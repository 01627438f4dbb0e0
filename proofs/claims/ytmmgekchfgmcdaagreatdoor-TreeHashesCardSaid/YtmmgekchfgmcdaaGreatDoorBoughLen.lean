/-
  What math/bits.Len answers, off the shelf.
-/
import Derived.Test.YtmmgekchfgmcdaaGreatDoorBoughSide
import Derived.Test.YtmmgekchfgmcdaaGreatDoorShelf

namespace Go.Proofs.YtmmgekchfgmcdaaGreatDoor
theorem lenIs : LenIs := fun x w h0 h1 => Tryz.bits_Len x w h0 h1
end Go.Proofs.YtmmgekchfgmcdaaGreatDoor
