/-
  Common as it landed; the document's Direct, Common, Same.
-/
import Derived.Test.YtmmgekchfgmcdaaGreatDoorBoughLow
import Derived.Test.YtmmgekchfgmcdaaGreatDoorBoughRefs
import Derived.Deep.RegionWith

namespace Go.Proofs.YtmmgekchfgmcdaaGreatDoor
open Go.RowKit Go.Lib

end Go.Proofs.YtmmgekchfgmcdaaGreatDoor
