/-
 What a right tree's parts are like.
-/
import Derived.Test.YtnlbgggnpoeleaaGreatDoorTreeRight
namespace Go.Proofs.YtnlbgggnpoeleaaGreatDoor
open Go.RowKit Go.Lib
open List renaming setIfInBounds_toArray -> sA, set_cons_zero -> sB, set_cons_succ -> sC
open BigFrame renaming wpList_want -> wQ
namespace Tt
theorem right_parts {L:List Lf}{P:List Pr}(h:right L P=true):L.length<=64/\P.length=L.length-1/\parentsOk L 0 P=true:=by
 simp only[right,Bool.and_eq_true,decide_eq_true_eq] at h;exact⟨h.1,h.2.1,h.2.2.2.2⟩
end Tt
end Go.Proofs.YtnlbgggnpoeleaaGreatDoor
