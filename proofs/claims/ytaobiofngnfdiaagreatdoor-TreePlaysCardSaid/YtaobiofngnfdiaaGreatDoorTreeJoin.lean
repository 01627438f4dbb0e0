/-
 Renew and Remove of a right tree: what is made, and the error's number, by the program and by the document alike.
-/
import Derived.Test.YtaobiofngnfdiaaGreatDoorHC
import Derived.Test.YtaobiofngnfdiaaGreatDoorTreeAwake
import Derived.Test.YtaobiofngnfdiaaGreatDoorTreeRefRight
import Derived.Test.YtaobiofngnfdiaaGreatDoorTreeJoinMath
namespace Go.Proofs.YtaobiofngnfdiaaGreatDoor
open Go.RowKit Go.Lib
open List renaming setIfInBounds_toArray → sA, set_cons_zero → sB, set_cons_succ → sC
open BigFrame renaming wpList_want → wQ
namespace Tt
def noneErr (L:List Lf)(x:Int):Int:=if none L x then 7 else 0
def renL (L:List Lf)(x:Int)(pub:List UInt8):List Lf:=if none L x then [] else (match L[x.toNat]? with | some l=>L.set x.toNat (renewed l pub) | _=>[])
def renP (L:List Lf)(P:List Pr)(x:Int):List Pr:=if none L x then [] else blanks (Bo.Direct L.length x) P
def outL (L:List Lf)(x:Int):List Lf:=if none L x then [] else remL L x.toNat
def outP (L:List Lf)(P:List Pr)(x:Int):List Pr:=if none L x then [] else remP L P x.toNat
theorem none_lacks {L:List Lf}{P:List Pr}(h:right L P = true)(x:Int):lacks L P x = noneErr L x:=by
 unfold lacks noneErr none;rw [if_pos h]
 by_cases h1:x < 0
 ·rw [if_neg (by omega),decide_eq_true h1,Bool.true_or,if_pos rfl]
 ·rw [decide_eq_false h1,Bool.false_or]
  by_cases h2:(L.length:Int)≤x
  ·rw [if_neg (by omega),decide_eq_true h2,Bool.true_or,if_pos rfl]
  ·rw [decide_eq_false h2,Bool.false_or]
   by_cases h3:nameAt L x = 0
   ·rw [if_neg (fun h=>h.2.2 h3),h3]; rfl
   ·rw [if_pos ⟨by omega,by omega,h3⟩,if_neg (by rw [beq_iff_eq]; exact h3)]
theorem none_not {L:List Lf}{x:Int}(h:none L x = false):∃ k:Nat,x = (k:Int)∧k < L.length:=by
 unfold none at h;rw [Bool.or_eq_false_iff,Bool.or_eq_false_iff,decide_eq_false_iff_not,decide_eq_false_iff_not] at h;exact⟨x.toNat,by omega,by omega⟩
theorem blanks_mem (W:List Int):∀ (P:List Pr) (p:Pr),p∈blanks W P→p∈P∨p = Pr.zero:=by
 induction W with
 | nil=>exact fun P p h=>.inl h
 | cons y W ih=>
  intro P p h
  rcases ih (P.set (y.toNat / 2) Pr.zero) p h with h | h
  ·exact List.mem_or_eq_of_mem_set h
  ·exact .inr h
theorem blanks_loose {L:List Lf}{P:List Pr}(h:right L P = true)(W:List Int):∀ p∈blanks W P,p.loose.length≤66:=fun p hp=>by
 obtain⟨h1,_,h3⟩:=right_parts h
 rcases blanks_mem W P p hp with e | e
 ·exact Nat.le_trans (parents_loose h1 P 0 h3 p e) (by decide)
 ·rw [e]; exact Nat.zero_le _
theorem renP_loose {L:List Lf}{P:List Pr}(h:right L P = true)(x:Int):∀ p∈renP L P x,p.loose.length≤66:=fun p hp=>by
 unfold renP at hp
 split at hp
 ·cases hp
 ·exact blanks_loose h _ p hp
theorem outP_loose {L:List Lf}{P:List Pr}(h:right L P = true)(x:Int):∀ p∈outP L P x,p.loose.length≤66:=fun p hp=>by
 unfold outP at hp
 split at hp
 ·cases hp
 ·exact blanks_loose h _ p (List.mem_of_mem_take hp)
theorem renL_length (L:List Lf)(x:Int)(pub:List UInt8):(renL L x pub).length≤L.length:=by
 unfold renL
 split
 ·exact Nat.zero_le _
 ·split
  ·rw [List.length_set]; exact Nat.le_refl _
  ·exact Nat.zero_le _
theorem renP_length (L:List Lf)(P:List Pr)(x:Int):(renP L P x).length≤P.length:=by
 unfold renP
 split
 ·exact Nat.zero_le _
 ·rw [blanks_length]; exact Nat.le_refl _
theorem outL_length (L:List Lf)(x:Int):(outL L x).length≤L.length:=by
 unfold outL remL
 split
 ·exact Nat.zero_le _
 ·rw [List.length_take,List.length_set]; exact Nat.min_le_right _ _
theorem outP_length (L:List Lf)(P:List Pr)(x:Int):(outP L P x).length≤P.length:=by
 unfold outP remP
 split
 ·exact Nat.zero_le _
 ·rw [List.length_take,blanks_length]; exact Nat.min_le_right _ _
end Tt
section
variable (lv pv:Value) (L:List Lf) (P:List Pr) (x:Int) (w:World) (hL:Lvs w lv L) (hP:Pts w pv P) (hpl:∀ p∈P,p.loose.length≤1000) (hr:Tt.right L P = true)
include hL hP hpl hr
theorem renew_any (pub:List UInt8)(hpub:pub.length = 32):Calls Tryz.prog 12 #[.agg #[lv,pv],.int .i64 x,.agg (bcells pub).toArray] w fun e w'=>∃ lv' pv',e = .returned (.tuple #[.agg #[lv',pv'],.int .i64 (Tt.noneErr L x)])∧Kept w.heap.size w.heap.size w w'∧∃ SL,Mine (fun k=>k < w.heap.size) w' lv' pv' (Tt.renL L x pub) (Tt.renP L P x) SL:=by
 obtain⟨h64,hpe,_⟩:=Tt.right_parts hr;have hn:L.length≤1000:=by omega
 have hp:P.length≤1000:=by omega
 cases hno:Tt.none L x with
 | true=>
  refine(renew_none lv pv L P x pub hpub w hL hP hn hp hpl (by rw [Tt.none_lacks hr,Tt.noneErr,hno]; rfl)).mono ?_
  rintro e w' ⟨rfl,k⟩;refine⟨_,_,by unfold Tt.noneErr; rw [hno]; rfl,k,[],?_⟩
  have hm:=Mine.empty (fun k=>k < w.heap.size) w' (fun j hj=>Nat.lt_of_lt_of_le hj k.size)
  unfold Tt.renL Tt.renP;rw [hno];exact hm
 | false=>
  obtain⟨k,rfl,hk⟩:=Tt.none_not hno;refine(renew_ok lv pv L P k pub hpub w hL hP hn hp hpl hk hpe (by rw [Tt.none_lacks hr,Tt.noneErr,hno]; rfl)).mono ?_
  rintro e w' ⟨lv',pv',rfl,hkk,SL,hm⟩;refine⟨lv',pv',by unfold Tt.noneErr; rw [hno]; rfl,hkk,SL,?_⟩
  unfold Tt.renL Tt.renP;rw [hno,Int.toNat_natCast];rw [List.getElem?_eq_getElem hk];exact hm
theorem refrenew_any (pub:List UInt8)(hpub:pub.length = 32):Calls Tryz.prog 17 #[.agg #[lv,pv],.int .i64 x,.agg (bcells pub).toArray] w fun e w'=>∃ lv' pv',e = .returned (.tuple #[.agg #[lv',pv'],.int .i64 (Tt.noneErr L x)])∧Kept w.heap.size w.heap.size w w'∧∃ SL,Mine (fun k=>k < w.heap.size) w' lv' pv' (Tt.renL L x pub) (Tt.renP L P x) SL:=by
 obtain⟨h64,hpe,_⟩:=Tt.right_parts hr;have hn:L.length≤1000:=by omega
 have hp:P.length≤1000:=by omega
 cases hno:Tt.none L x with
 | true=>
  refine(refrenew_none lv pv L P x pub hpub w hL hP hn hno).mono ?_;rintro e w' ⟨rfl,k⟩;refine⟨_,_,by unfold Tt.noneErr; rw [hno]; rfl,k,[],?_⟩
  have hm:=Mine.empty (fun k=>k < w.heap.size) w' (fun j hj=>Nat.lt_of_lt_of_le hj k.size)
  unfold Tt.renL Tt.renP;rw [hno];exact hm
 | false=>
  obtain⟨k,rfl,hk⟩:=Tt.none_not hno;refine(refrenew_ok lv pv L P k pub hpub w hL hP hn hp hpl h64 hk hpe hno).mono ?_;rintro e w' ⟨lv',pv',rfl,hkk,SL,hm⟩;refine⟨lv',pv',by unfold Tt.noneErr; rw [hno]; rfl,hkk,SL,?_⟩
  unfold Tt.renL Tt.renP;rw [hno,Int.toNat_natCast];rw [List.getElem?_eq_getElem hk];exact hm
theorem remove_any:Calls Tryz.prog 13 #[.agg #[lv,pv],.int .i64 x] w fun e w'=>∃ lv' pv',e = .returned (.tuple #[.agg #[lv',pv'],.int .i64 (Tt.noneErr L x)])∧Kept w.heap.size w.heap.size w w'∧∃ SL,Mine (fun k=>k < w.heap.size) w' lv' pv' (Tt.outL L x) (Tt.outP L P x) SL:=by
 obtain⟨h64,hpe,_⟩:=Tt.right_parts hr;have hn:L.length≤1000:=by omega
 have hp:P.length≤1000:=by omega
 cases hno:Tt.none L x with
 | true=>
  refine(remove_none lv pv L P x w hL hP hn hp hpl (by rw [Tt.none_lacks hr,Tt.noneErr,hno]; rfl)).mono ?_
  rintro e w' ⟨rfl,k⟩;refine⟨_,_,by unfold Tt.noneErr; rw [hno]; rfl,k,[],?_⟩
  have hm:=Mine.empty (fun k=>k < w.heap.size) w' (fun j hj=>Nat.lt_of_lt_of_le hj k.size)
  unfold Tt.outL Tt.outP;rw [hno];exact hm
 | false=>
  obtain⟨k,rfl,hk⟩:=Tt.none_not hno;refine(remove_ok lv pv L P k w hL hP hn hp hpl hk hpe (by rw [Tt.none_lacks hr,Tt.noneErr,hno]; rfl)).mono ?_
  rintro e w' ⟨lv',pv',rfl,hkk,SL,hm⟩;refine⟨lv',pv',by unfold Tt.noneErr; rw [hno]; rfl,hkk,SL,?_⟩
  unfold Tt.outL Tt.outP;rw [hno,Int.toNat_natCast];exact hm
theorem refremove_any:Calls Tryz.prog 18 #[.agg #[lv,pv],.int .i64 x] w fun e w'=>∃ lv' pv',e = .returned (.tuple #[.agg #[lv',pv'],.int .i64 (Tt.noneErr L x)])∧Kept w.heap.size w.heap.size w w'∧∃ SL,Mine (fun k=>k < w.heap.size) w' lv' pv' (Tt.outL L x) (Tt.outP L P x) SL:=by
 obtain⟨h64,hpe,_⟩:=Tt.right_parts hr;have hn:L.length≤1000:=by omega
 have hp:P.length≤1000:=by omega
 cases hno:Tt.none L x with
 | true=>
  refine(refremove_none lv pv L P x w hL hP hn hno).mono ?_;rintro e w' ⟨rfl,k⟩;refine⟨_,_,by unfold Tt.noneErr; rw [hno]; rfl,k,[],?_⟩
  have hm:=Mine.empty (fun k=>k < w.heap.size) w' (fun j hj=>Nat.lt_of_lt_of_le hj k.size)
  unfold Tt.outL Tt.outP;rw [hno];exact hm
 | false=>
  obtain⟨k,rfl,hk⟩:=Tt.none_not hno;refine(refremove_ok lv pv L P k w hL hP hn hp hpl h64 hk hpe hno).mono ?_;rintro e w' ⟨lv',pv',rfl,hkk,SL,hm⟩;refine⟨lv',pv',by unfold Tt.noneErr; rw [hno]; rfl,hkk,SL,?_⟩
  unfold Tt.outL Tt.outP;rw [hno,Int.toNat_natCast];exact hm
end
end Go.Proofs.YtaobiofngnfdiaaGreatDoor
