/-
 ShaRefWords; ShaTurned; ShaSum: several texts in one.
-/
import Derived.Test.YtaobiofngnfdiaaGreatDoorGB
import Derived.Deep.QuietTactic
import Derived.BigQuiet
import Derived.Deep.RegionHeld3
import Derived.Deep.Cut
import Derived.StillTailTactics
import Derived.Laws.Tables
namespace Go.Proofs.YtaobiofngnfdiaaGreatDoor
open Go.RowKit
def zeros8:Array Value:=(wcells (List.replicate 8 0)).toArray
end Go.Proofs.YtaobiofngnfdiaaGreatDoor
