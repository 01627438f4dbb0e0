/-
 TreeText; TreePut; TreeHashMath; TreeRefText; TreeRefHash; TreeHashOf; TreeHash: several texts in one.
-/
import Derived.Test.YtinebhdilnndaaaGreatDoorGX
import Derived.Test.YtinebhdilnndaaaGreatDoorGV
import Derived.Test.YtinebhdilnndaaaGreatDoorIC
import Derived.Test.YtinebhdilnndaaaGreatDoorGB
import Derived.Test.YtinebhdilnndaaaGreatDoorHK
import Derived.Test.YtinebhdilnndaaaGreatDoorHeldEx
import Derived.Test.YtinebhdilnndaaaGreatDoorGY
import Derived.Test.YtinebhdilnndaaaGreatDoorGJ
import Derived.Test.YtinebhdilnndaaaGreatDoorGA
import Derived.Test.YtinebhdilnndaaaGreatDoorGC
import Derived.Test.YtinebhdilnndaaaGreatDoorTreeRight
import Derived.Test.YtinebhdilnndaaaGreatDoorTreeJoinMath
namespace Go.Proofs.YtinebhdilnndaaaGreatDoor
open Go.RowKit Go.Lib
open List renaming setIfInBounds_toArray -> sA, set_cons_zero -> sB, set_cons_succ -> sC
open BigFrame renaming wpList_want -> wQ
namespace Tt
def leafText (l:Lf):List UInt8:=if 0 < l.name then [1] ++ Wm.enc l.name.toNat ++ l.pub ++ l.ver ++ l.abv else [0]
def looseText (l:List Int):List UInt8:=(l.map λy=>Wm.enc y.toNat).flatten
def parentText (p:Pr):List UInt8:=if p.set then [1] ++ p.pub ++ p.abv ++ Wm.enc p.loose.length ++ looseText p.loose else [0]
end Tt
section
variable {w:World} {b:Nat} {l:Lf} {t:TypeId}
end
namespace Tt
def leafB:List UInt8:=[108,101,97,102]
def nodeB:List UInt8:=[110,111,100,101]
def hashSeg (L:List Lf)(P:List Pr):Nat->Nat->Nat->List UInt8
 | 0,_,_=>[]
 | k + 1,a,m=>if m = 1 then Sm.sum (leafB ++ leafText (L.getD a Lf.zero)) else Sm.sum (nodeB ++ parentText (P.getD (Bo.root a m / 2) Pr.zero) ++ hashSeg L P k a (Bo.half m) ++ hashSeg L P k (a + Bo.half m) (m - Bo.half m))
end Tt
structure Tt.Fine (L:List Lf) (P:List Pr):Prop where
 n64:L.length<=64
 par:P.length = L.length - 1
 nms:∀ l∈L,0<=l.name/\l.name<=64
 len:∀ p∈P,p.loose.length<=1000
 lse:∀ p∈P,∀ y∈p.loose,0<=y/\y<=64
namespace Tt
def noneB:List UInt8:=[110,111,110,101]
def treeHash (L:List Lf)(P:List Pr):List UInt8:=if L.length = 0 then Sm.sum noneB else hashSeg L P L.length 0 L.length
end Tt
end Go.Proofs.YtinebhdilnndaaaGreatDoor
