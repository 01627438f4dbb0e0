/-
  The document's example.
-/
import Derived.Test.YtmmgekchfgmcdaaGreatDoorBoughSame
import Derived.Test.YtmmgekchfgmcdaaGreatDoorBoughWays
import Derived.Test.YtmmgekchfgmcdaaGreatDoorBoughRCom

namespace Go.Proofs.YtmmgekchfgmcdaaGreatDoor
open Go.RowKit Go.Lib

theorem aw_root : Bo.Root 5 = 7 := by decide +kernel
theorem aw_left : Bo.Left 5 7 = 3 := by decide +kernel
theorem aw_right : Bo.Right 5 7 = 8 := by decide +kernel
theorem aw_direct : Bo.Direct 5 2 = [5, 3, 7] := by decide +kernel
theorem aw_common : Bo.Common 5 0 3 = 3 := by decide +kernel

end Go.Proofs.YtmmgekchfgmcdaaGreatDoor
