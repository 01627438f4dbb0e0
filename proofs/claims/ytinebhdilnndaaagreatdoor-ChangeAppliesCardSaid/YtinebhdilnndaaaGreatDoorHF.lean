/-
 The hash of a node: hashOf and the document's HashAt, of a node by its number; the landed HashAt of a right tree.
-/
import Derived.Test.YtinebhdilnndaaaGreatDoorHI
namespace Go.Proofs.YtinebhdilnndaaaGreatDoor
open Go.RowKit Go.Lib
open List renaming setIfInBounds_toArray -> sA, set_cons_zero -> sB, set_cons_succ -> sC
open BigFrame renaming wpList_want -> wQ
namespace Tt
def hashNode (L:List Lf)(P:List Pr)(x:Nat):List UInt8:=hashSeg L P L.length (Bo.part L.length x).1 (Bo.part L.length x).2.1
def nodeHash (L:List Lf)(P:List Pr)(x:Int):List UInt8:=if 0<=x/\x<=2 * (L.length:Int) - 2 then hashNode L P x.toNat else List.replicate 32 0
end Tt
section
variable (lv pv:Value) (L:List Lf) (P:List Pr) (hF:Tt.Fine L P) (x:Nat) (hx:Bo.In 0 L.length x) (w:World) (hL:Lvs w lv L) (hP:Pts w pv P)
include hF hx hL hP
end
end Go.Proofs.YtinebhdilnndaaaGreatDoor
