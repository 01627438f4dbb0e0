/-
  The document's Common.
-/
import Derived.Test.YtmmgekchfgmcdaaGreatDoorBoughLow
import Derived.Test.YtmmgekchfgmcdaaGreatDoorBoughRefs
import Derived.Deep.RegionWith

namespace Go.Proofs.YtmmgekchfgmcdaaGreatDoor
open Go.RowKit Go.Lib

/-! ## The document's Common -/
theorem Bo.scan (n b x : Int) (h : Bo.Holds n x b = false) (hx : 0 ≤ Bo.Above n x) : ((x :: Bo.ups n x).find? (fun z => Bo.Holds n z b)) = ((Bo.Above n x :: Bo.ups n (Bo.Above n x)).find? (fun z => Bo.Holds n z b)) := by
  rw [List.find?_cons, h, Bo.ups, Bo.chain_step (by omega)]
  rfl

end Go.Proofs.YtmmgekchfgmcdaaGreatDoor
