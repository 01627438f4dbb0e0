/-
 The document's Right.
-/
import Derived.Test.YtaobiofngnfdiaaGreatDoorTreeFew
namespace Go.Proofs.YtaobiofngnfdiaaGreatDoor
open Go.RowKit Go.Lib
open List renaming setIfInBounds_toArray → sA, set_cons_zero → sB, set_cons_succ → sC
open BigFrame renaming wpList_want → wQ
namespace Tt
end Tt
end Go.Proofs.YtaobiofngnfdiaaGreatDoor
