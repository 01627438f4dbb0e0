/-
 Renew and Remove of a right tree: what is made, and the error's number, by the program and by the document alike.
-/
import Derived.Test.YtlpabcnhcbgfjaaHC
import Derived.Test.YtlpabcnhcbgfjaaTreeAwake
import Derived.Test.YtlpabcnhcbgfjaaTreeRefRight
import Derived.Test.YtlpabcnhcbgfjaaTreeJoinMath
namespace Go.Proofs.Ytlpabcnhcbgfjaa
open Go.RowKit Go.Lib
open List renaming setIfInBounds_toArray → sA, set_cons_zero → sB, set_cons_succ → sC
open BigFrame renaming wpList_want → wQ
namespace Tt
def noneErr (L:List Lf)(x:Int):Int:=if none L x then 7 else 0
def renL (L:List Lf)(x:Int)(pub:List UInt8):List Lf:=if none L x then [] else (match L[x.toNat]? with | some l=>L.set x.toNat (renewed l pub) | _=>[])
def renP (L:List Lf)(P:List Pr)(x:Int):List Pr:=if none L x then [] else blanks (Bo.Direct L.length x) P
def outL (L:List Lf)(x:Int):List Lf:=if none L x then [] else remL L x.toNat
def outP (L:List Lf)(P:List Pr)(x:Int):List Pr:=if none L x then [] else remP L P x.toNat
theorem none_not {L:List Lf}{x:Int}(h:none L x = false):∃ k:Nat,x = (k:Int)∧k < L.length:=by
 unfold none at h;rw [Bool.or_eq_false_iff,Bool.or_eq_false_iff,decide_eq_false_iff_not,decide_eq_false_iff_not] at h;exact⟨x.toNat,by omega,by omega⟩
end Tt
section
variable (lv pv:Value) (L:List Lf) (P:List Pr) (x:Int) (w:World) (hL:Lvs w lv L) (hP:Pts w pv P) (hpl:∀ p∈P,p.loose.length≤1000) (hr:Tt.right L P = true)
include hL hP hpl hr
theorem refrenew_any (pub:List UInt8)(hpub:pub.length = 32):Calls Try.prog 14 #[.agg #[lv,pv],.int .i64 x,.agg (bcells pub).toArray] w fun e w'=>∃ lv' pv',e = .returned (.tuple #[.agg #[lv',pv'],.int .i64 (Tt.noneErr L x)])∧Kept w.heap.size w.heap.size w w'∧∃ SL,Mine (fun k=>k < w.heap.size) w' lv' pv' (Tt.renL L x pub) (Tt.renP L P x) SL:=by
 obtain⟨h64,hpe,_⟩:=Tt.right_parts hr;have hn:L.length≤1000:=by omega
 have hp:P.length≤1000:=by omega
 cases hno:Tt.none L x with
 | true=>
  refine(refrenew_none lv pv L P x pub hpub w hL hP hn hno).mono ?_;rintro e w' ⟨rfl,k⟩;refine⟨_,_,by unfold Tt.noneErr; rw [hno]; rfl,k,[],?_⟩
  have hm:=Mine.empty (fun k=>k < w.heap.size) w' (fun j hj=>Nat.lt_of_lt_of_le hj k.size)
  unfold Tt.renL Tt.renP;rw [hno];exact hm
 | false=>
  obtain⟨k,rfl,hk⟩:=Tt.none_not hno;refine(refrenew_ok lv pv L P k pub hpub w hL hP hn hp hpl h64 hk hpe hno).mono ?_;rintro e w' ⟨lv',pv',rfl,hkk,SL,hm⟩;refine⟨lv',pv',by unfold Tt.noneErr; rw [hno]; rfl,hkk,SL,?_⟩
  unfold Tt.renL Tt.renP;rw [hno,Int.toNat_natCast];rw [List.getElem?_eq_getElem hk];exact hm
theorem refremove_any:Calls Try.prog 15 #[.agg #[lv,pv],.int .i64 x] w fun e w'=>∃ lv' pv',e = .returned (.tuple #[.agg #[lv',pv'],.int .i64 (Tt.noneErr L x)])∧Kept w.heap.size w.heap.size w w'∧∃ SL,Mine (fun k=>k < w.heap.size) w' lv' pv' (Tt.outL L x) (Tt.outP L P x) SL:=by
 obtain⟨h64,hpe,_⟩:=Tt.right_parts hr;have hn:L.length≤1000:=by omega
 have hp:P.length≤1000:=by omega
 cases hno:Tt.none L x with
 | true=>
  refine(refremove_none lv pv L P x w hL hP hn hno).mono ?_;rintro e w' ⟨rfl,k⟩;refine⟨_,_,by unfold Tt.noneErr; rw [hno]; rfl,k,[],?_⟩
  have hm:=Mine.empty (fun k=>k < w.heap.size) w' (fun j hj=>Nat.lt_of_lt_of_le hj k.size)
  unfold Tt.outL Tt.outP;rw [hno];exact hm
 | false=>
  obtain⟨k,rfl,hk⟩:=Tt.none_not hno;refine(refremove_ok lv pv L P k w hL hP hn hp hpl h64 hk hpe hno).mono ?_;rintro e w' ⟨lv',pv',rfl,hkk,SL,hm⟩;refine⟨lv',pv',by unfold Tt.noneErr; rw [hno]; rfl,hkk,SL,?_⟩
  unfold Tt.outL Tt.outP;rw [hno,Int.toNat_natCast];exact hm
end
end Go.Proofs.Ytlpabcnhcbgfjaa
