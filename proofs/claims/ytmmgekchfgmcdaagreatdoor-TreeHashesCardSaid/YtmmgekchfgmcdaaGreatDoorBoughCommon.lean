/-
  The lowest node over two leaves.
-/
import Derived.Test.YtmmgekchfgmcdaaGreatDoorBoughDirect

namespace Go.Proofs.YtmmgekchfgmcdaaGreatDoor
open Go.RowKit Go.Shelf Go.Lib

attribute [local go_sem] Oper.semAt_some

def Bo.lowest (n a b : Int) : Int := ((Bo.ups n (2 * a)).find? (fun x => Bo.Holds n x b)).getD (-1)
def Bo.Common (n a b : Int) : Int := if Bo.leaf n a then (if a = b then 2 * a else Bo.lowest n a b) else -1

end Go.Proofs.YtmmgekchfgmcdaaGreatDoor
