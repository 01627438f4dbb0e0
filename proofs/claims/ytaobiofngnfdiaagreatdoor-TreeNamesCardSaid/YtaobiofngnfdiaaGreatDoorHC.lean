/-
 TreeRefBlank; TreeRefRenew; TreeRefRemove: several texts in one.
-/
import Derived.Test.YtaobiofngnfdiaaGreatDoorHA
import Derived.Test.YtaobiofngnfdiaaGreatDoorHB
import Derived.Test.YtaobiofngnfdiaaGreatDoorHK
namespace Go.Proofs.YtaobiofngnfdiaaGreatDoor
open Go.RowKit Go.Lib
open List renaming setIfInBounds_toArray → sA, set_cons_zero → sB, set_cons_succ → sC
open BigFrame renaming wpList_want → wQ
def lenAt (w:World)(b:Nat):Nat:=
 match w.heap[b]? with
 | some (Obj.cells cs _ _)=>(match cs[0]? with | some (Value.slice _ n _)=>n | _=>0)
 | _=>0
end Go.Proofs.YtaobiofngnfdiaaGreatDoor
