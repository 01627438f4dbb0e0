/-
 What a right tree's parts are like.
-/
import Derived.Test.YtinebhdilnndaaaGreatDoorTreeRight
namespace Go.Proofs.YtinebhdilnndaaaGreatDoor
open Go.RowKit Go.Lib
open List renaming setIfInBounds_toArray -> sA, set_cons_zero -> sB, set_cons_succ -> sC
open BigFrame renaming wpList_want -> wQ
namespace Tt
theorem right_parts {L:List Lf}{P:List Pr}(h:right L P = true):L.length<=64/\P.length = L.length - 1/\parentsOk L 0 P = true:=by
 simp only [right,Bool.and_eq_true,decide_eq_true_eq] at h;exact⟨h.1,h.2.1,h.2.2.2.2⟩
theorem loose_len (L:List Lf)(b:Int):∀ (l:List Int) (f:Int),looseOk L b f l = true->l = []\/f + (l.length:Int)<=b
 | [],_,_=>.inl rfl
 | x :: xs,f,h=>by
  unfold looseOk at h;simp only [Bool.and_eq_true,decide_eq_true_eq] at h;obtain⟨h1,h2,_,h3⟩:=h
  right
  rw [List.length_cons]
  rcases loose_len L b xs (x + 1) h3 with h4 | h4
  ·rw [h4]
   simp only [List.length_nil]
   omega
  ·omega
theorem parents_loose {L:List Lf}(hn:L.length<=64):∀ (P:List Pr) (i:Nat),parentsOk L i P = true->∀ p∈P,p.loose.length<=64
 | [],_,_=>λ_ h=>nomatch h
 | q :: P,i,h=>by
  unfold parentsOk at h;rw [Bool.and_eq_true] at h;intro p hp
  rcases List.mem_cons.1 hp with e | e
  ·have h1:=h.1
   unfold parentOk at h1;rw [e]
   split at h1
   ·have hb:=Bo.bounds L.length ((2 * i + 1:Nat):Int)
    rcases loose_len L _ _ _ h1 with h2 | h2
    ·rw [h2]; exact Nat.zero_le _
    ·omega
   ·simp only [Bool.and_eq_true,beq_iff_eq] at h1
    omega
  ·exact parents_loose hn P (i + 1) h.2 p e
end Tt
end Go.Proofs.YtinebhdilnndaaaGreatDoor
