/-
 Renew and Remove of a right tree: what is made, and the error's number, by the program and by the document alike.
-/
import Derived.Test.YtinebhdilnndaaaGreatDoorHC
import Derived.Test.YtinebhdilnndaaaGreatDoorTreeAwake
import Derived.Test.YtinebhdilnndaaaGreatDoorTreeRefRight
import Derived.Test.YtinebhdilnndaaaGreatDoorTreeJoinMath
namespace Go.Proofs.YtinebhdilnndaaaGreatDoor
open Go.RowKit Go.Lib
open List renaming setIfInBounds_toArray -> sA, set_cons_zero -> sB, set_cons_succ -> sC
open BigFrame renaming wpList_want -> wQ
namespace Tt
def noneErr (L:List Lf)(x:Int):Int:=if none L x then 7 else 0
def renL (L:List Lf)(x:Int)(pub:List UInt8):List Lf:=if none L x then [] else (match L[x.toNat]? with | some l=>L.set x.toNat (renewed l pub) | _=>[])
def renP (L:List Lf)(P:List Pr)(x:Int):List Pr:=if none L x then [] else blanks (Bo.Direct L.length x) P
def outL (L:List Lf)(x:Int):List Lf:=if none L x then [] else remL L x.toNat
def outP (L:List Lf)(P:List Pr)(x:Int):List Pr:=if none L x then [] else remP L P x.toNat
theorem none_lacks {L:List Lf}{P:List Pr}(h:right L P = true)(x:Int):lacks L P x = noneErr L x:=by
 unfold lacks noneErr none;rw [if_pos h]
 by_cases h1:x < 0
 ·rw [if_neg (by omega),decide_eq_true h1,Bool.true_or,if_pos rfl]
 ·rw [decide_eq_false h1,Bool.false_or]
  by_cases h2:(L.length:Int)<=x
  ·rw [if_neg (by omega),decide_eq_true h2,Bool.true_or,if_pos rfl]
  ·rw [decide_eq_false h2,Bool.false_or]
   by_cases h3:nameAt L x = 0
   ·rw [if_neg (λh=>h.2.2 h3),h3]; rfl
   ·rw [if_pos ⟨by omega,by omega,h3⟩,if_neg (by rw [beq_iff_eq]; exact h3)]
theorem none_not {L:List Lf}{x:Int}(h:none L x = false):∃ k:Nat,x = (k:Int)/\k < L.length:=by
 unfold none at h;rw [Bool.or_eq_false_iff,Bool.or_eq_false_iff,decide_eq_false_iff_not,decide_eq_false_iff_not] at h;exact⟨x.toNat,by omega,by omega⟩
end Tt
section
variable (lv pv:Value) (L:List Lf) (P:List Pr) (x:Int) (w:World) (hL:Lvs w lv L) (hP:Pts w pv P) (hpl:∀ p∈P,p.loose.length<=1000) (hr:Tt.right L P = true)
include hL hP hpl hr
theorem renew_any (pub:List UInt8)(hpub:pub.length = 32):Calls Tryz.prog 56 #[.agg #[lv,pv],.int .i64 x,.agg (bcells pub).toArray] w λe w'=>∃ lv' pv',e = .returned (.tuple #[.agg #[lv',pv'],.int .i64 (Tt.noneErr L x)])/\Kept w.heap.size w.heap.size w w'/\∃ SL,Mine (λk=>k < w.heap.size) w' lv' pv' (Tt.renL L x pub) (Tt.renP L P x) SL:=by
 obtain⟨h64,hpe,_⟩:=Tt.right_parts hr;have hn:L.length<=1000:=by omega
 have hp:P.length<=1000:=by omega
 cases hno:Tt.none L x with
 | true=>
  refine(renew_none lv pv L P x pub hpub w hL hP hn hp hpl (by rw [Tt.none_lacks hr,Tt.noneErr,hno]; rfl)).mono ?_
  rintro e w' ⟨rfl,k⟩;refine⟨_,_,by unfold Tt.noneErr; rw [hno]; rfl,k,[],?_⟩
  have hm:=Mine.empty (λk=>k < w.heap.size) w' (λj hj=>Nat.lt_of_lt_of_le hj k.size)
  unfold Tt.renL Tt.renP;rw [hno];exact hm
 | false=>
  obtain⟨k,rfl,hk⟩:=Tt.none_not hno;refine(renew_ok lv pv L P k pub hpub w hL hP hn hp hpl hk hpe (by rw [Tt.none_lacks hr,Tt.noneErr,hno]; rfl)).mono ?_
  rintro e w' ⟨lv',pv',rfl,hkk,SL,hm⟩;refine⟨lv',pv',by unfold Tt.noneErr; rw [hno]; rfl,hkk,SL,?_⟩
  unfold Tt.renL Tt.renP;rw [hno,Int.toNat_natCast];rw [List.getElem?_eq_getElem hk];exact hm
theorem refrenew_any (pub:List UInt8)(hpub:pub.length = 32):Calls Tryz.prog 37 #[.agg #[lv,pv],.int .i64 x,.agg (bcells pub).toArray] w λe w'=>∃ lv' pv',e = .returned (.tuple #[.agg #[lv',pv'],.int .i64 (Tt.noneErr L x)])/\Kept w.heap.size w.heap.size w w'/\∃ SL,Mine (λk=>k < w.heap.size) w' lv' pv' (Tt.renL L x pub) (Tt.renP L P x) SL:=by
 obtain⟨h64,hpe,_⟩:=Tt.right_parts hr;have hn:L.length<=1000:=by omega
 have hp:P.length<=1000:=by omega
 cases hno:Tt.none L x with
 | true=>
  refine(refrenew_none lv pv L P x pub hpub w hL hP hn hno).mono ?_;rintro e w' ⟨rfl,k⟩;refine⟨_,_,by unfold Tt.noneErr; rw [hno]; rfl,k,[],?_⟩
  have hm:=Mine.empty (λk=>k < w.heap.size) w' (λj hj=>Nat.lt_of_lt_of_le hj k.size)
  unfold Tt.renL Tt.renP;rw [hno];exact hm
 | false=>
  obtain⟨k,rfl,hk⟩:=Tt.none_not hno;refine(refrenew_ok lv pv L P k pub hpub w hL hP hn hp hpl h64 hk hpe hno).mono ?_;rintro e w' ⟨lv',pv',rfl,hkk,SL,hm⟩;refine⟨lv',pv',by unfold Tt.noneErr; rw [hno]; rfl,hkk,SL,?_⟩
  unfold Tt.renL Tt.renP;rw [hno,Int.toNat_natCast];rw [List.getElem?_eq_getElem hk];exact hm
theorem remove_any:Calls Tryz.prog 57 #[.agg #[lv,pv],.int .i64 x] w λe w'=>∃ lv' pv',e = .returned (.tuple #[.agg #[lv',pv'],.int .i64 (Tt.noneErr L x)])/\Kept w.heap.size w.heap.size w w'/\∃ SL,Mine (λk=>k < w.heap.size) w' lv' pv' (Tt.outL L x) (Tt.outP L P x) SL:=by
 obtain⟨h64,hpe,_⟩:=Tt.right_parts hr;have hn:L.length<=1000:=by omega
 have hp:P.length<=1000:=by omega
 cases hno:Tt.none L x with
 | true=>
  refine(remove_none lv pv L P x w hL hP hn hp hpl (by rw [Tt.none_lacks hr,Tt.noneErr,hno]; rfl)).mono ?_
  rintro e w' ⟨rfl,k⟩;refine⟨_,_,by unfold Tt.noneErr; rw [hno]; rfl,k,[],?_⟩
  have hm:=Mine.empty (λk=>k < w.heap.size) w' (λj hj=>Nat.lt_of_lt_of_le hj k.size)
  unfold Tt.outL Tt.outP;rw [hno];exact hm
 | false=>
  obtain⟨k,rfl,hk⟩:=Tt.none_not hno;refine(remove_ok lv pv L P k w hL hP hn hp hpl hk hpe (by rw [Tt.none_lacks hr,Tt.noneErr,hno]; rfl)).mono ?_
  rintro e w' ⟨lv',pv',rfl,hkk,SL,hm⟩;refine⟨lv',pv',by unfold Tt.noneErr; rw [hno]; rfl,hkk,SL,?_⟩
  unfold Tt.outL Tt.outP;rw [hno,Int.toNat_natCast];exact hm
theorem refremove_any:Calls Tryz.prog 39 #[.agg #[lv,pv],.int .i64 x] w λe w'=>∃ lv' pv',e = .returned (.tuple #[.agg #[lv',pv'],.int .i64 (Tt.noneErr L x)])/\Kept w.heap.size w.heap.size w w'/\∃ SL,Mine (λk=>k < w.heap.size) w' lv' pv' (Tt.outL L x) (Tt.outP L P x) SL:=by
 obtain⟨h64,hpe,_⟩:=Tt.right_parts hr;have hn:L.length<=1000:=by omega
 have hp:P.length<=1000:=by omega
 cases hno:Tt.none L x with
 | true=>
  refine(refremove_none lv pv L P x w hL hP hn hno).mono ?_;rintro e w' ⟨rfl,k⟩;refine⟨_,_,by unfold Tt.noneErr; rw [hno]; rfl,k,[],?_⟩
  have hm:=Mine.empty (λk=>k < w.heap.size) w' (λj hj=>Nat.lt_of_lt_of_le hj k.size)
  unfold Tt.outL Tt.outP;rw [hno];exact hm
 | false=>
  obtain⟨k,rfl,hk⟩:=Tt.none_not hno;refine(refremove_ok lv pv L P k w hL hP hn hp hpl h64 hk hpe hno).mono ?_;rintro e w' ⟨lv',pv',rfl,hkk,SL,hm⟩;refine⟨lv',pv',by unfold Tt.noneErr; rw [hno]; rfl,hkk,SL,?_⟩
  unfold Tt.outL Tt.outP;rw [hno,Int.toNat_natCast];exact hm
end
end Go.Proofs.YtinebhdilnndaaaGreatDoor
