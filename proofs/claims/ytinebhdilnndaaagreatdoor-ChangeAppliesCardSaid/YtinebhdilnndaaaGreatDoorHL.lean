/-
 TreeSaid; TreeRefSaid; TreePathMath; TreeParBuild: several texts in one.
-/
import Derived.Test.YtinebhdilnndaaaGreatDoorHI
import Derived.Test.YtinebhdilnndaaaGreatDoorGD
import Derived.Test.YtinebhdilnndaaaGreatDoorHD
import Derived.Test.YtinebhdilnndaaaGreatDoorHF
import Derived.Test.YtinebhdilnndaaaGreatDoorTreeJoin
import Derived.Test.YtinebhdilnndaaaGreatDoorGY
namespace Go.Proofs.YtinebhdilnndaaaGreatDoor
open Go.RowKit Go.Lib
open List renaming setIfInBounds_toArray -> sA, set_cons_zero -> sB, set_cons_succ -> sC
open BigFrame renaming wpList_want -> wQ
namespace Tt
def aboveB:List UInt8:=[97,98,111,118,101]
def saidOf (k s h:List UInt8):List UInt8:=Sm.sum (aboveB ++ k ++ s ++ h)
end Tt
namespace Tt
def said (ks:List (List UInt8))(H:Nat->List UInt8):Nat->Nat->List UInt8
 | 0,_=>List.replicate 32 0
 | d + 1,j=>saidOf (ks.getD j []) (said ks H d (j + 1)) (H j)
end Tt
namespace Tt
def setAll (I:List (Nat × Pr))(P:List Pr):List Pr:=I.foldl (λQ x=>Q.set x.1 x.2) P
def pitem (ws:List Int)(ks:List (List UInt8))(H:Nat->List UInt8)(i:Nat):Nat × Pr:=((ws.getD i 0).toNat / 2,⟨true,ks.getD i [],said ks H (ws.length - 1 - i) (i + 1),[]⟩)
def pitems (ws:List Int)(ks:List (List UInt8))(H:Nat->List UInt8):List (Nat × Pr):=(List.range ws.length).map (pitem ws ks H)
def down (ws:List Int)(ks:List (List UInt8))(H:Nat->List UInt8)(P:List Pr)(k:Nat):List Pr:=setAll ((pitems ws ks H).drop k).reverse P
def upto (ws:List Int)(ks:List (List UInt8))(H:Nat->List UInt8)(P:List Pr)(k:Nat):List Pr:=setAll ((pitems ws ks H).take k) P
section
variable (ws:List Int) (ks:List (List UInt8)) (H:Nat->List UInt8) (P:List Pr)
end
def wayX (ws:List Int)(place:Int):Nat->Int
 | 0=>2 * place
 | j + 1=>ws.getD j 0
def sideH (L:List Lf)(P:List Pr)(ws:List Int)(place:Int)(j:Nat):List UInt8:=hashNode L P (Bo.Beside L.length (wayX ws place j)).toNat
def pathWay (L:List Lf)(x:Int):List Int:=Bo.Direct L.length x
def pathErr (L:List Lf)(x:Int)(kn:Nat):Int:=if none L x then 7 else if (pathWay L x).length = kn then 0 else 16
def pathL (L:List Lf)(P:List Pr)(x:Int)(pub:List UInt8)(ks:List (List UInt8)):List Lf:=
 if pathErr L x ks.length = 0 then (match L[x.toNat]? with | some l=>L.set x.toNat { l with pub:=pub,abv:=said ks (sideH L P (pathWay L x) x) (pathWay L x).length 0 } | _=>[]) else []
def pathP (L:List Lf)(P:List Pr)(x:Int)(ks:List (List UInt8)):List Pr:=
 if pathErr L x ks.length = 0 then upto (pathWay L x) ks (sideH L P (pathWay L x) x) P (pathWay L x).length else []
end Tt
theorem list32_8 {p:List UInt8->Prop}(h:∀ b0 b1 b2 b3 b4 b5 b6 b7 b8 b9 b10 b11 b12 b13 b14 b15 b16 b17 b18 b19 b20 b21 b22 b23 b24 b25 b26 b27 b28 b29 b30 b31,p [b0,b1,b2,b3,b4,b5,b6,b7,b8,b9,b10,b11,b12,b13,b14,b15,b16,b17,b18,b19,b20,b21,b22,b23,b24,b25,b26,b27,b28,b29,b30,b31]):∀ l:List UInt8,l.length = 32->p l:=λl hl=>
 match l,hl with
 | [b0,b1,b2,b3,b4,b5,b6,b7,b8,b9,b10,b11,b12,b13,b14,b15,b16,b17,b18,b19,b20,b21,b22,b23,b24,b25,b26,b27,b28,b29,b30,b31],_=>h b0 b1 b2 b3 b4 b5 b6 b7 b8 b9 b10 b11 b12 b13 b14 b15 b16 b17 b18 b19 b20 b21 b22 b23 b24 b25 b26 b27 b28 b29 b30 b31
end Go.Proofs.YtinebhdilnndaaaGreatDoor
