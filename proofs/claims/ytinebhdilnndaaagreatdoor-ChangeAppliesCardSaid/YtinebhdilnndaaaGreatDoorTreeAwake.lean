/-
 The document's example of a tree.
-/
import Derived.Test.YtinebhdilnndaaaGreatDoorTreeRemove
namespace Go.Proofs.YtinebhdilnndaaaGreatDoor
open Go.RowKit Go.Lib
open List renaming setIfInBounds_toArray -> sA, set_cons_zero -> sB, set_cons_succ -> sC
open BigFrame renaming wpList_want -> wQ
namespace Tt
def lf (n:Int):Lf:=⟨n,z32,z32,z32⟩
end Tt
section
variable {P:Program} {ops:Array Oper} {rest:List Oper} {o:Oper} {a:Act} {w w':World} {Q:Exit->Act->World->Prop}
end
theorem Mine.none (B:Nat->Prop)(w:World)(hb:∀ k,B k->k < w.heap.size):Mine B w (.slice none 0 0) (.slice none 0 0) [] [] []:=
 { lok:=λ_ h=>nomatch h
   pok:=λ_ h=>nomatch h
   lo:=OwnC.nil _ _ _ _
   len:=rfl
   po:=OwnC.nil _ _ _ _
   so:=λ_ _ _ h=>by simp at h
   dlp:=.inl rfl
   dls:=λ_ h=>nomatch h
   dps:=λ_ h=>nomatch h
   dss:=λ_ _ _ _ _ h=>by simp at h
   ol:=λ_ h=>nomatch h
   op:=λ_ h=>nomatch h
   os:=λ_ h=>nomatch h
   bnd:=hb }
namespace Tt
def trees:Nat->List Lf × List Pr
 | 0=>([],[])
 | 1=>([lf 5],[])
 | 2=>([lf 5,lf 2],[Pr.zero])
 | 3=>([lf 5,lf 2,lf 9],[Pr.zero,Pr.zero])
 | 4=>([lf 5,Lf.zero,lf 9],[Pr.zero,Pr.zero])
 | 5=>([lf 5,lf 7,lf 9],[Pr.zero,Pr.zero])
 | _=>([lf 5,lf 7],[Pr.zero])
end Tt
end Go.Proofs.YtinebhdilnndaaaGreatDoor
