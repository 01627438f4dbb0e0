/-
 Is a proposal right, by the document?
-/
import Derived.Test.YtinebhdilnndaaaGreatDoorChgRight
namespace Go.Proofs.YtinebhdilnndaaaGreatDoor
open Go.RowKit Go.Lib
open List renaming setIfInBounds_toArray -> sA, set_cons_zero -> sB, set_cons_succ -> sC
open BigFrame renaming wpList_want -> wQ
end Go.Proofs.YtinebhdilnndaaaGreatDoor
