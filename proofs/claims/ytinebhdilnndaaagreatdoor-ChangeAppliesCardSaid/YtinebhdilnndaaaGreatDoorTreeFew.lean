/-
 The laws' look at a tree's size.
-/
import Derived.Test.YtinebhdilnndaaaGreatDoorTreeRight
namespace Go.Proofs.YtinebhdilnndaaaGreatDoor
open Go.RowKit Go.Lib
open List renaming setIfInBounds_toArray -> sA, set_cons_zero -> sB, set_cons_succ -> sC
open BigFrame renaming wpList_want -> wQ
namespace Tt
def fewp (P:List Pr):Bool:=P.all λp=>decide (p.loose.length<=100)
def few (L:List Lf)(P:List Pr):Bool:=decide (L.length<=100) && (decide (P.length<=100) && fewp P)
end Tt
end Go.Proofs.YtinebhdilnndaaaGreatDoor
