/-
 TreeDh; TreeHold: several texts in one.
-/
import Derived.Test.YtinebhdilnndaaaGreatDoorHK
import Derived.Test.YtinebhdilnndaaaGreatDoorHJ
import Derived.Test.YtinebhdilnndaaaGreatDoorTreeBlank
namespace Go.Proofs.YtinebhdilnndaaaGreatDoor
def Bo.memN:List Nat->Nat->Bool
 | [],_=>false
 | y :: D,i=>if Nat.beq y i then true else Bo.memN D i
def Bo.chk (a:Nat)(D:List Nat):List (Nat × Nat × Nat)->Bool
 | []=>true
 | (i,f,b) :: T=>if Bo.memN D i == (if Nat.ble f a then Nat.blt a b else false) then Bo.chk a D T else false
def Bo.tab (n:Nat):List (Nat × Nat × Nat):=(List.range (n - 1)).map λi=>(i,(Bo.part n (2 * i + 1)).1,(Bo.part n (2 * i + 1)).1 + (Bo.part n (2 * i + 1)).2.1)
def Bo.dh (n:Nat):Bool:=(List.range n).all λa=>Bo.chk a ((Bo.ups n ((2 * a:Nat):Int)).map λy=>y.toNat / 2) (Bo.tab n)
theorem Bo.dh_1:((List.range' 0 36).all Bo.dh) = true:=by decide +kernel
theorem Bo.dh_2:((List.range' 36 10).all Bo.dh) = true:=by decide +kernel
theorem Bo.dh_3:((List.range' 46 7).all Bo.dh) = true:=by decide +kernel
theorem Bo.dh_4:((List.range' 53 6).all Bo.dh) = true:=by decide +kernel
theorem Bo.dh_5:((List.range' 59 6).all Bo.dh) = true:=by decide +kernel
end Go.Proofs.YtinebhdilnndaaaGreatDoor
namespace Go.Proofs.YtinebhdilnndaaaGreatDoor
open Go.RowKit Go.Lib
open List renaming setIfInBounds_toArray -> sA, set_cons_zero -> sB, set_cons_succ -> sC
open BigFrame renaming wpList_want -> wQ
theorem Bo.dh_of {n:Nat}(h:n<=64):Bo.dh n = true:=by
 by_cases h1:n < 36
 ·exact List.all_eq_true.1 Bo.dh_1 n (by rw [List.mem_range'_1]; omega)
 by_cases h2:n < 46
 ·exact List.all_eq_true.1 Bo.dh_2 n (by rw [List.mem_range'_1]; omega)
 by_cases h3:n < 53
 ·exact List.all_eq_true.1 Bo.dh_3 n (by rw [List.mem_range'_1]; omega)
 by_cases h4:n < 59
 ·exact List.all_eq_true.1 Bo.dh_4 n (by rw [List.mem_range'_1]; omega)
 ·exact List.all_eq_true.1 Bo.dh_5 n (by rw [List.mem_range'_1]; omega)
theorem Bo.memN_any (i:Nat):∀ D:List Nat,Bo.memN D i = D.any (λy=>y == i)
 | []=>rfl
 | y :: D=>by
  rw [Bo.memN,List.any_cons,Bo.memN_any i D]
  by_cases h:y = i
  ·rw [if_pos (by rw [h]; exact Nat.beq_refl i),show(y == i) = true by rw [beq_iff_eq]; exact h,Bool.true_or]
  ·rw [if_neg (λe=>h (Nat.eq_of_beq_eq_true e)),show(y == i) = false by rw [beq_eq_false_iff_ne]; exact h,Bool.false_or]
theorem Bo.chk_of {a:Nat}{D:List Nat}:∀ {T:List (Nat × Nat × Nat)},Bo.chk a D T = true->∀ t∈T,Bo.memN D t.1 = (if Nat.ble t.2.1 a then Nat.blt a t.2.2 else false)
 | [],_,_,h=>nomatch h
 | (i,f,b) :: T,hc,t,h=>by
  rw [Bo.chk] at hc
  by_cases h1:(Bo.memN D i == (if Nat.ble f a then Nat.blt a b else false)) = true
  ·rw [if_pos h1] at hc
   rcases List.mem_cons.1 h with e | e
   ·rw [e]; exact beq_iff_eq.1 h1
   ·exact Bo.chk_of hc t e
  ·rw [if_neg h1] at hc
   cases hc
theorem Bo.dir_holds {n a i:Nat}(hn:n<=64)(ha:a < n)(hi:i < n - 1):((Bo.Direct (n:Int) (a:Int)).any λy=>y.toNat / 2 == i) = Bo.Holds (n:Int) ((2 * i + 1:Nat):Int) (a:Int):=by
 have h:=Bo.chk_of (List.all_eq_true.1 (Bo.dh_of hn) a (List.mem_range.2 ha)) _ (List.mem_map.2 ⟨i,List.mem_range.2 hi,rfl⟩);rw [Bo.memN_any,List.any_map] at h;have hin:Bo.In 0 n (2 * i + 1):=⟨by omega,by omega,by omega⟩
 obtain⟨s,m,p,b,_,_,hp,_,_⟩:=Bo.seg_of hin hn;obtain⟨_,_,e3,e4⟩:=Bo.say hin hn hp;rw [hp] at h;rw [Bo.Direct,if_pos (Bo.leaf_of ha hn),Bo.Holds,e3,e4,show(2:Int) * (a:Int) = ((2 * a:Nat):Int) by omega]
 refine Eq.trans h ?_
 dsimp only
 by_cases h1:s<=a
 ·rw [if_pos (Nat.ble_eq_true_of_le h1),decide_eq_true (by omega),Bool.true_and]
  by_cases h2:a < s + m
  ·rw [decide_eq_true (by omega)]
   exact Nat.ble_eq_true_of_le h2
  ·rw [decide_eq_false (by omega)]
   exact Bool.eq_false_iff.2 (λh=>h2 (Nat.le_of_ble_eq_true h))
 ·rw [if_neg (λh=>h1 (Nat.le_of_ble_eq_true h)),decide_eq_false (by omega),Bool.false_and]
namespace Tt
def hold1 (n x:Int)(P:List Pr)(i:Nat):List Pr:=if Bo.Holds n ((2 * i + 1:Nat):Int) x then P.set i Pr.zero else P
def holdsTo (n x:Int)(P:List Pr):Nat->List Pr
 | 0=>P
 | k + 1=>hold1 n x (holdsTo n x P k) k
theorem hold1_length (n x:Int)(P:List Pr)(i:Nat):(hold1 n x P i).length = P.length:=by
 unfold hold1
 split
 ·rw [List.length_set]
 ·rfl
theorem holdsTo_length (n x:Int)(P:List Pr):∀ k,(holdsTo n x P k).length = P.length
 | 0=>rfl
 | k + 1=>by rw [holdsTo,hold1_length,holdsTo_length n x P k]
theorem holdsTo_get (n x:Int)(P:List Pr)(j:Nat):∀ k,(holdsTo n x P k)[j]? = if j < k/\Bo.Holds n ((2 * j + 1:Nat):Int) x = true then P[j]?.map (λ_=>Pr.zero) else P[j]?
 | 0=>by
  rw [if_neg (λh=>Nat.not_lt_zero _ h.1)]
  rfl
 | k + 1=>by
  rw [holdsTo,hold1]
  by_cases hh:Bo.Holds n ((2 * k + 1:Nat):Int) x = true
  ·rw [if_pos hh,List.getElem?_set,holdsTo_length]
   by_cases hjk:k = j
   ·subst hjk
    have hc:k < k + 1/\Bo.Holds n ((2 * k + 1:Nat):Int) x = true:=⟨Nat.lt_succ_self _,hh⟩;rw [if_pos rfl]
    by_cases hl:k < P.length
    ·rw [if_pos hl,if_pos hc,List.getElem?_eq_getElem hl]; rfl
    ·rw [if_neg hl,if_pos hc,List.getElem?_eq_none (by omega)]; rfl
   ·rw [if_neg hjk,holdsTo_get n x P j k]
    have h2:(j < k + 1) = (j < k):=by apply propext; omega
    simp only [h2]
  ·rw [if_neg hh,holdsTo_get n x P j k]
   by_cases hjk:j = k
   ·subst hjk
    rw [if_neg (λh=>hh h.2),if_neg (λh=>hh h.2)]
   ·have h2:(j < k + 1) = (j < k):=by apply propext; omega
    simp only [h2]
theorem blanks_get (j:Nat):∀ (W:List Int) (P:List Pr),(blanks W P)[j]? = if W.any (λy=>y.toNat / 2 == j) = true then P[j]?.map (λ_=>Pr.zero) else P[j]?
 | [],P=>by
  rw [List.any_nil,if_neg (by decide)]
  rfl
 | y :: W,P=>by
  show(blanks W (P.set (y.toNat / 2) Pr.zero))[j]? = _;rw [blanks_get j W,List.any_cons,List.getElem?_set]
  by_cases h:y.toNat / 2 = j
  ·rw [if_pos h,h,show(j == j) = true by rw [beq_iff_eq],Bool.true_or,if_pos rfl]
   by_cases hl:j < P.length
   ·rw [if_pos hl,List.getElem?_eq_getElem hl]
    split <;> rfl
   ·rw [if_neg hl,List.getElem?_eq_none (by omega)]
    split <;> rfl
  ·rw [if_neg h,show(y.toNat / 2 == j) = false by rw [beq_eq_false_iff_ne]; exact h,Bool.false_or]
theorem holds_blanks {n k:Nat}{P:List Pr}(hn:n<=64)(hk:k < n)(hp:P.length = n - 1):holdsTo (n:Int) (k:Int) P P.length = blanks (Bo.Direct (n:Int) (k:Int)) P:=by
 refine List.ext_getElem? λj=>?_
 rw [holdsTo_get,blanks_get]
 by_cases hj:j < P.length
 ·rw [Bo.dir_holds hn hk (by omega)]
  by_cases h:Bo.Holds (n:Int) ((2 * j + 1:Nat):Int) (k:Int) = true
  ·rw [if_pos ⟨hj,h⟩,if_pos h]
  ·rw [if_neg (λh2=>h h2.2),if_neg h]
 ·rw [List.getElem?_eq_none (by omega),if_neg (λh=>hj h.1)]
  split <;> rfl
end Tt
end Go.Proofs.YtinebhdilnndaaaGreatDoor
