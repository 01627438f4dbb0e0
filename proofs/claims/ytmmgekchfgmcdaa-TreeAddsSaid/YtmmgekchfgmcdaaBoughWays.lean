/-
  Common as it landed; the document's Direct, Common, Same.
-/
import Derived.Test.YtmmgekchfgmcdaaBoughLow
import Derived.Test.YtmmgekchfgmcdaaBoughRefs
import Derived.Deep.RegionWith

namespace Go.Proofs.Ytmmgekchfgmcdaa
open Go.RowKit Go.Lib

end Go.Proofs.Ytmmgekchfgmcdaa
