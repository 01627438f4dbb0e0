/-
 The document's Add, where a leaf is put in.
-/
import Derived.Test.YtaobiofngnfdiaaGreatDoorTreeAddBad
import Derived.Test.YtaobiofngnfdiaaGreatDoorHD
namespace Go.Proofs.YtaobiofngnfdiaaGreatDoor
open Go.RowKit Go.Lib
open List renaming setIfInBounds_toArray → sA, set_cons_zero → sB, set_cons_succ → sC
open BigFrame renaming wpList_want → wQ
end Go.Proofs.YtaobiofngnfdiaaGreatDoor
